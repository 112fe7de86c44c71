import PyProof.Rows.All
import Wide.All
import OpenK.AllK
import Wide.FinOn
import HandS.ForMost
import HandS.ForExc
import HandS.GenList
import HandS.AnyAll
import HandS.EndOwn
import PyProof.SumAny
import HandS.IsInst
import HandS.More
import HandS.WideBits
import HandS.Zip
import PyProof.TypeEq
import HandS.Text
import HandS.Comp
import HandS.Deep
import HandS.Sort
import HandS.SortRule
import HandS.Conv
import HandS.Iter
import HandS.Style
import HandS.TupMul
import HandS.TupAny
import HandS.Dict
import HandS.DictSub
import HandS.TupSets
import PyProof.WalksMore
import HandS.SetKeys
import HandS.ListItems
import KE.SortData
import KE.KDictList
import HandS.ExcOwn
import HandS.TryMany
import HandS.TryOnly
import HandS.SetFor
import HandS.DictComp
import HandS.Strs
import HandS.SortInts
import HandS.TupLe
import PyProof.Transfer
import HandS.Codes
import PyProof.StrOps2
import PyProof.JoinWalk
import HandS.JoinGen
import HandS.FStr
import KE.KSortAsk
import KE.KSortTup
import HandS.Walk
import HandS.HeadWalk
import HandS.Head2
import HandS.HeadHook4
import HandS.HeadNt
import PySem.Challenge.RW_wardsdrawn_k09_whole_pictures_there_and
set_option Elab.async false
set_option linter.all false
set_option maxRecDepth 100000
set_option maxHeartbeats 4000000
/-! Gx: a generator expression over anything that PI serves, drained by all, any, sum, tuple; its element may be any expression of the layer. -/
namespace Gx
open PySem PySem.Spec PyProof.Rows L2 GenW

/-! ### the context in which the generator's code runs -/
abbrev genv (X : Cx) (scope : Scope) (code : Value) (C : Addr) : Env := genEnv scope (cloFrom X.env.cells scope.names []) C code builtinsNs X.env
def gcx (X : Cx) (N : List Str) (scope : Scope) (code : Value) (A : Around) (s : Shared) (H : Hp) (fp : List Addr) : Cx :=
  { X with
    A := A.deeper (genv X scope code s.heap.objs.size)
    N := N
    s_0 := s
    H_0 := H
    env := genv X scope code s.heap.objs.size
    outer := X.stack
    stack := genv X scope code s.heap.objs.size :: X.stack
    ex := fp
    fn := fun _ => false
    calm := true
    pn := []
    xe := fun _ _ => False }
/-- the names of the generator expression: N, its own ones and captured ones; src tells where a captured one stands in the def -/
structure GOk (ND : List Str) (sc scope : Scope) (N : List Str) (src : List (Option Nat)) : Prop where
  kind : scope.kind = .function
  co : scope.isCoroutine = false
  cell : ∀ y ∈ scope.names, y.2 ≠ .cell
  dot : scope.names.lookup (".0" : Str) = some NameKind.local
  free : ∀ y ∈ scope.names, y.2 = .free → sc.names.lookup y.1 = some .cell ∨ sc.names.lookup y.1 = some .free
  len : src.length = N.length
  src : ∀ (i j : Nat), src[i]? = some (some j) → ∃ x, N[i]? = some x ∧ ND[j]? = some x ∧ scope.names.lookup x = some .free
def gsl (σ : L2.St) (src : List (Option Nat)) : L2.St := src.map fun o => match o with
  | some j => σ.getD j none
  | none => none
theorem gsl_some {σ : L2.St} {src : List (Option Nat)} {i : Nat} {v : V} (h : (gsl σ src)[i]? = some (some v)) : ∃ j, src[i]? = some (some j) ∧ σ[j]? = some (some v) := by
  unfold gsl at h
  rw [List.getElem?_map] at h
  cases e : src[i]? with
  | none => rw [e] at h; cases h
  | some o =>
    rw [e] at h
    cases o with
    | none => cases h
    | some j =>
      refine ⟨j, rfl, ?_⟩
      have h2 : σ.getD j none = some v := Option.some.inj h
      rw [List.getD_eq_getElem?_getD] at h2
      cases e2 : σ[j]? with
      | none => rw [e2] at h2; cases h2
      | some w => rw [e2] at h2; exact congrArg some h2
theorem over_gl {A : Around} {elt iter tg : Expr} {ifs : List Expr} {scope : Scope} {pos : Pos} {it acc : Value} {env : Env} :
    A.over (.compLoop (.GeneratorExp elt [⟨tg, iter, ifs, 0⟩] scope pos) 0 it acc env) [] = A.deeper env := by
  first
    | rfl
    | (obtain ⟨hd, d, fr, gs, u⟩ := A; simp [Around.over, Around.deeper, marksOver, frameCount, unitsOf, envsOf, guardsOf, pushEnvs, pushGuards, Code.envs, Code.env?, Code.isFrame, Code.guards, Code.isGuard, Code.weight, Code.frames, Code.isCreation, Code.isCaller, Code.cUnits])
theorem over_gs {A : Around} {elt iter tg : Expr} {ifs : List Expr} {scope : Scope} {pos : Pos} {it acc : Value} {env : Env} :
    A.over (.compStart (.GeneratorExp elt [⟨tg, iter, ifs, 0⟩] scope pos) 0 it acc env) [] = A.deeper env := by
  first
    | rfl
    | (obtain ⟨hd, d, fr, gs, u⟩ := A; simp [Around.over, Around.deeper, marksOver, frameCount, unitsOf, envsOf, guardsOf, pushEnvs, pushGuards, Code.envs, Code.env?, Code.isFrame, Code.guards, Code.isGuard, Code.weight, Code.frames, Code.isCreation, Code.isCaller, Code.cUnits])
section
variable {X : Cx} {pins : List (Addr × Obj)} {σ : L2.St} {H : Hp} {s s' : Shared} {scope : Scope} {N : List Str} {src : List (Option Nat)} {fp : List Addr} {code : Value} {A : Around} {m0 : Str → Option Value}
theorem g_start (I : Inv X pins σ H s) (ok : GOk X.N X.env.scope scope N src) (hfp : ∀ b ∈ fp, FpOk X pins H b ∧ b < s.heap.objs.size) (hA : A.frames = some X.stack) (hh : A.handled = none)
    (os : s'.os = s.os) (bare : AllBare s'.gens) (kp : ∀ b o, s.heap.get? b = some o → s'.heap.get? b = some o) (hn : s'.heap.Ns s.heap.objs.size m0) :
    Inv (gcx X N scope code A s H fp) [] (gsl σ src) H s' := by
  have hfree : ∀ y ∈ scope.names, y.2 = .free → ∃ c, X.env.cells.lookup y.1 = some c := fun y hy e => by
    rcases ok.free y hy e with k | k
    · exact I.ok.has _ (.inl k)
    · exact I.ok.has _ (.inr k)
  have cm : ∀ {y c}, (y, c) ∈ cloFrom X.env.cells scope.names [] → X.env.cells.lookup y = some c ∧ c < s.heap.objs.size := fun {y c} hm => by
    rcases cloFrom_mem hm with hm | ⟨h1, rfl⟩
    · cases hm
    · obtain ⟨c, hc⟩ := hfree _ h1 rfl
      rw [hc]
      obtain ⟨w, z⟩ := I.cell _ _ hc
      exact ⟨rfl, z.lt⟩
  have look : ∀ {y}, scope.names.lookup y = some .free → ∃ c, (cloFrom X.env.cells scope.names []).lookup y = some c ∧ X.env.cells.lookup y = some c := fun {y} hl => by
    have hy : (y, NameKind.free) ∈ scope.names := PySem.mem_of_lookup hl
    obtain ⟨c', e'⟩ := mem_lookup (cloFrom_has (cells := X.env.cells) (acc := []) hy)
    exact ⟨c', e', (cm (PySem.mem_of_lookup e')).1⟩
  refine ⟨⟨I.ok.mod, ok.kind, I.ok.glob, rfl, Nat.le_refl _, fun y z c e1 e2 => ?_, fun y hy => ?_, fun y c z _ => ?_, fun _ => hh, Around.frames_deeper hA, .inr ⟨rfl, rfl⟩, fun b hb => ⟨?_, fun y c e z => ?_⟩, I.bs, Nat.le_trans I.ok.bsz I.sz, fun b o e hb => ?_, fun b hb z => ?_, I.stack, I.stkFree⟩,
    os, bare, Un.kept kp, ⟨m0, hn, fun i y v e1 e2 e3 => ?_⟩, fun y c e => ?_, I.hok.fresh (Nat.le_refl _), fun y c e => ?_, fun p hp => absurd (show p ∈ ([] : List (Addr × Obj)) ++ [] from hp) (by simp), I.hok.kept kp, ?_⟩
  · exact I.ok.inj y z c (cm (PySem.mem_of_lookup e1)).1 (cm (PySem.mem_of_lookup e2)).1
  · have hy : scope.names.lookup y = some .cell ∨ scope.names.lookup y = some .free := hy
    rcases hy with hy | hy
    · exact absurd rfl (ok.cell _ (PySem.mem_of_lookup hy))
    · obtain ⟨c, h1, _⟩ := look hy
      exact ⟨c, h1⟩
  · cases z
  · exact Nat.ne_of_lt (hfp b hb).2
  · exact (hfp b hb).1.2.2.2.2.1 y c (cm (PySem.mem_of_lookup e)).1 z
  · rcases (hfp b hb).1.2.2.2.1 with z | z
    · exact I.ok.noex b o e z
    · exact absurd (Nat.lt_of_lt_of_le (Heap.lt_size e) (Nat.le_trans I.ok.bsz z)) (Nat.lt_irrefl _)
  · rcases List.mem_cons.mp (I.stkSub b z) with z | z
    · exact (hfp b hb).1.2.1 z
    · exact (hfp b hb).1.2.2.1 z
  · obtain ⟨j, h1, h2⟩ := gsl_some e2
    obtain ⟨x, hx1, hx2, hx3⟩ := ok.src i j h1
    have e1 : N[i]? = some y := e1
    rw [hx1] at e1
    cases e1
    obtain ⟨m, _, hl⟩ := I.loc
    have hf := ok.free _ (PySem.mem_of_lookup hx3) rfl
    obtain ⟨w, r, q⟩ := hl j y v hx2 h2 (hf.elim (fun k => .inr (.inl k)) fun k => .inr (.inr k))
    refine ⟨w, r, .inr ⟨.inr hx3, ?_⟩⟩
    obtain ⟨c, h1, h2⟩ := look hx3
    rcases q with ⟨k, _⟩ | ⟨_, c', e', z⟩
    · have k : X.env.scope.names.lookup y = some .local := k
      rcases hf with k' | k' <;> rw [show X.env.scope.names.lookup y = _ from k'] at k <;> cases k
    · rw [h2] at e'; cases e'
      exact ⟨c, h1, z.keeps kp⟩
  · obtain ⟨w, z⟩ := I.cell y c (cm (PySem.mem_of_lookup e)).1
    exact ⟨w, z.keeps kp⟩
  · exact I.freeC y c (cm (PySem.mem_of_lookup e)).1
  · show (gsl σ src).length = N.length
    unfold gsl
    rw [List.length_map, ok.len]
end

/-! ### the loop of the generator's code -/
/-- what is pinned while the generator runs: its own object and what its consumer keeps -/
structure PinsOk (G : Cx) (fp : List Addr) (pins : List (Addr × Obj)) : Prop where
  young : ∀ p ∈ pins, G.s_0.heap.objs.size ≤ p.1
  ne : ∀ p ∈ pins, p.1 ≠ G.env.locals
  nfp : ∀ p ∈ pins, p.1 ∉ fp
  ncell : ∀ p ∈ pins, ∀ x c, G.env.cells.lookup x = some c → c ≠ p.1
abbrev TPost := V → List V → Hp → Prop → Prop
/-- the consumer has taken its item: what it keeps may have changed, all else stands -/
structure Woke (pins pins' : List (Addr × Obj)) (s s' : Shared) : Prop where
  os : s'.os = s.os
  bare : AllBare s'.gens
  keep : ∀ b o, b ∉ pins.map (·.1) → s.heap.get? b = some o → s'.heap.get? b = some o
  same : pins'.map (·.1) = pins.map (·.1)
  at_ : ∀ p ∈ pins', s'.heap.get? p.1 = some p.2
  data : ∀ p ∈ pins', ∀ v, p.2.data ≠ .cell v
def GYx (G : Cx) (fp : List Addr) (Pn : List V → List (Addr × Obj) → Prop) (post : TPost) : Protocol := fun n s₀ v s kap =>
  ∃ x ys σ H pins C, RelV x v ∧ Inv G pins σ H s ∧ PinsOk G fp pins ∧ Pn ys pins ∧ (∀ p ∈ pins, s₀.heap.get? p.1 = some p.2) ∧ post x ys H C ∧
    (C → ∀ s' pins', Woke pins pins' s s' → Pn (ys ++ [x]) pins' → kap (.send .none) s')
def GEx (G : Cx) (fp : List Addr) (Pn : List V → List (Addr × Obj) → Prop) (Fin : List V → Hp → Prop) : Shared → Shared → Prop := fun s₀ s =>
  ∃ ys σ H pins, Inv G pins σ H s ∧ PinsOk G fp pins ∧ Pn ys pins ∧ (∀ p ∈ pins, s₀.heap.get? p.1 = some p.2) ∧ Fin ys H
/-- the reading of a turn -/
def GTurn (J : It) (g : TG) (tt : TT) (te : TE) (vs : List Nat) (σg : L2.St) (post : TPost) (Fin : List V → Hp → Prop) (W : Nat → Nat → List V → Hp → Prop) : Prop :=
  ∀ i m ys H, W i m ys H → (J.stop i H ∧ Fin ys H) ∨ (J.go i H ∧ ∀ x H', J.yld i H x H' → g x σg H' fun σ2 H2 => wipe σ2 vs = σg ∧ tt σ2 H2 fun b H3 =>
    if b = true then te σ2 H3 fun v H4 => post v ys H4 (∃ m', m' < m ∧ W (i + 1) m' (ys ++ [v]) H4) else ∃ m', m' < m ∧ W (i + 1) m' ys H3)
theorem Inv.woke {G : Cx} {fp : List Addr} {pins pins' : List (Addr × Obj)} {σ : L2.St} {H : Hp} {s s' : Shared} (I : Inv G pins σ H s) (hpn : G.pn = []) (hp : PinsOk G fp pins) (z : Woke pins pins' s s') : Inv G pins' σ H s' ∧ PinsOk G fp pins' := by
  have hm : ∀ b, b ∈ pins.map (·.1) → ∃ p ∈ pins, p.1 = b := fun b hb => by
    obtain ⟨p, h1, h2⟩ := List.mem_map.mp hb
    exact ⟨p, h1, h2⟩
  have h0 : ∀ b ∈ pins.map (·.1), H b = none ∧ b ∉ G.fs := fun b hb => by
    obtain ⟨p, h1, rfl⟩ := hm b hb
    have q := I.pin p (List.mem_append_right _ h1)
    exact ⟨q.2.1, q.2.2.2.1⟩
  have h1 : ∀ b ∈ pins.map (·.1), G.s_0.heap.objs.size ≤ b ∧ b ≠ G.env.locals ∧ b ∉ fp ∧ ∀ x c, G.env.cells.lookup x = some c → c ≠ b := fun b hb => by
    obtain ⟨p, h1, rfl⟩ := hm b hb
    exact ⟨hp.young p h1, hp.ne p h1, hp.nfp p h1, hp.ncell p h1⟩
  have I0 : Inv G [] σ H s := I.pins_of fun p hp => by simp at hp
  have nt : ∀ b u, H b = some u → b ∉ pins.map (·.1) := fun b u q hb => by rw [(h0 b hb).1] at q; cases q
  obtain ⟨hh, g, d, t, o⟩ := s'
  have ho : o = s.os := z.os
  subst ho
  have J : Inv G [] σ H { s with heap := hh, gens := g, drawn := d, toks := t } := by
    refine I0.step (g' := g) (t' := t) (d' := d) (ch := pins.map (·.1)) (fun b hb => ?_)
      (fun b ob _ _ hc q _ => z.keep b ob hc q) (fun b ob _ _ hc q _ => ⟨ob.slots, z.keep b ob hc q⟩) (fun _ _ _ _ n => n) (fun b ob hc q => ⟨ob, z.keep b ob hc q⟩)
      (fun _ _ q => q) (fun _ _ _ q => q) (fun b ps q => ⟨#[], by rw [q]; simp⟩) (fun m hm => ?_) (fun b u q => ?_) z.bare
    · obtain ⟨q1, q2, _, q4⟩ := h1 b hb
      refine ⟨.inr q1, q2, q4, fun p hp => ?_⟩
      rw [hpn] at hp
      simp at hp
    · obtain ⟨ob, es, ep, ho, r⟩ := hm
      exact ⟨ob, es, ep, z.keep _ ob (fun hb => (h1 _ hb).2.1 rfl) ho, r⟩
    · refine (I0.hok b u q).stay (fun c v hc y => z.keep c v ?_ y) (fun _ y => y) fun _ _ y => y
      rcases hc with y | y
      · rw [y]; exact nt b u q
      · exact nt c _ y
  have hsub : ∀ p ∈ pins', p.1 ∈ pins.map (·.1) := fun p hp => by rw [← z.same]; exact List.mem_map.mpr ⟨p, hp, rfl⟩
  refine ⟨J.pins_of fun p hp => ⟨z.at_ p hp, (h0 _ (hsub p hp)).1, (h1 _ (hsub p hp)).2.1, (h0 _ (hsub p hp)).2, z.data p hp⟩,
    ⟨fun p hp => (h1 _ (hsub p hp)).1, fun p hp => (h1 _ (hsub p hp)).2.1, fun p hp => (h1 _ (hsub p hp)).2.2.1, fun p hp => (h1 _ (hsub p hp)).2.2.2⟩⟩

section
variable {X : Cx} {H4 : Hp} {s4 : Shared} {scope : Scope} {N : List Str} {fp : List Addr} {code : Value} {A : Around}
variable {elt tg iter : Expr} {ifs : List Expr} {pos : Pos} {it : Addr} {J : It} {tn : Nat → Heap → Prop} {g : TG} {tt : TT} {te : TE} {vs : List Nat} {σg : L2.St} {post : TPost} {Fin : List V → Hp → Prop}
  {W : Nat → Nat → List V → Hp → Prop} {Pn : List V → List (Addr × Obj) → Prop}
theorem g_loop (hco : scope.isCoroutine = false) (hh : A.handled = none) (T : Turn X.prog X.w X.K tg J fp it tn)
    (pg : PG (gcx X N scope code A s4 H4 fp) tg g) (pt : PTs (gcx X N scope code A s4 H4 fp) ifs tt) (pe : PE (gcx X N scope code A s4 H4 fp) elt te)
    (turn : GTurn J g tt te vs σg post Fin W) :
    ∀ (m n i : Nat) (ys : List V) (H : Hp) (s₀ s : Shared) (pins : List (Addr × Obj)), m < n → W i m ys H → Inv (gcx X N scope code A s4 H4 fp) pins σg H s → PinsOk (gcx X N scope code A s4 H4 fp) fp pins → Pn ys pins → (∀ p ∈ pins, s₀.heap.get? p.1 = some p.2) →
      tn i s.heap → (∀ b ∈ fp, H b = none) →
      Seg (model X.prog X.w) A (fun n s₀ r s₁ => r = .ok .next ∧ GEx (gcx X N scope code A s4 H4 fp) fp Pn Fin s₀ s₁) (GYx (gcx X N scope code A s4 H4 fp) fp Pn post) n s₀
        (.compLoop (.GeneratorExp elt [⟨tg, iter, ifs, 0⟩] scope pos) 0 (.ref it) .none (genv X scope code s4.heap.objs.size))
        ((model X.prog X.w).den (.compLoop (.GeneratorExp elt [⟨tg, iter, ifs, 0⟩] scope pos) 0 (.ref it) .none (genv X scope code s4.heap.objs.size))) [] s := by
  intro m
  induction m using Nat.strongRecOn with
  | ind m ih =>
  intro n i ys H s₀ s pins hmn w I P hPn hs0 st nf
  have stat : ∀ {pins' : List (Addr × Obj)} {σ' : L2.St} {H' : Hp} {s' : Shared}, Inv (gcx X N scope code A s4 H4 fp) pins' σ' H' s' → PinsOk (gcx X N scope code A s4 H4 fp) fp pins' → (∀ b ∈ fp, H' b = none) → ∀ b ∈ fp, FpOk (gcx X N scope code A s4 H4 fp) pins' H' b := fun {pins' σ' H' s'} I' P' hn b hb =>
    ⟨hn b hb, (I'.ok.exf b hb).1, I'.ok.exfs b hb, .inl hb, fun x c e => (I'.ok.exf b hb).2 x c e, fun p hp => by
      have hp : p ∈ ([] : List (Addr × Obj)) ++ pins' := hp
      rw [List.nil_append] at hp
      intro e
      exact P'.nfp p hp (by rw [e]; exact hb)⟩
  show Seg _ A _ _ _ s₀ _ ((compTurn (.GeneratorExp elt [⟨tg, iter, ifs, 0⟩] scope pos) 0 (.ref it) .none (genv X scope code s4.heap.objs.size)).onRaise (leaving (genv X scope code s4.heap.objs.size))) [] s
  rw [compTurn_gen, Sem.onRaise_eq_wrap]
  refine seg_bind_wrap (wpAny_standAt ?_)
  rcases turn i m ys H w with ⟨stop, fin⟩ | ⟨go, step⟩
  · refine seg_bind_wrap ?_
    rw [over_gl]
    refine thnF (T.done (gcx X N scope code A s4 H4 fp) rfl rfl rfl rfl i pins s _ H (fun _ _ => False) I (stat I P nf) st stop) fun r s6 ⟨hr, I6⟩ => ?_
    subst hr
    exact seg_end (.ok .next) ⟨rfl, ys, _, H, pins, I6, P, hPn, hs0, fin⟩
  · refine seg_bind_wrap ?_
    rw [over_gl]
    refine thnF (T.item (gcx X N scope code A s4 H4 fp) rfl rfl rfl rfl i pins s _ H (fun _ _ => False) I (stat I P nf) st go) fun r s6 ⟨u, hr, h6⟩ => ?_
    subst hr
    refine seg_bind_wrap ?_
    rw [over_gl]
    refine thnF h6 fun _ s7 ⟨x, H7, I7, r7, y7, st7, n7⟩ => ?_
    have I7' := I7.pinned (stat I7 P n7) (T.obj _ _ st7)
    refine seg_bind_wrap ?_
    rw [over_gl]
    refine thnF (pg.run _ s7 _ H7 x u _ I7' r7 (step x H7 y7)) fun _ s8 ⟨σ8, H8, I8, hw8, q8⟩ => ?_
    refine seg_bind_wrap ?_
    rw [over_gl]
    refine thnF (pt.run _ s8 σ8 H8 _ I8 q8) fun b s9 ⟨H9, I9, q9⟩ => ?_
    -- the turn's end
    have fin : ∀ {s' : Shared} {H' : Hp}, Inv (gcx X N scope code A s4 H4 fp) (pins ++ pinsAt fp s7.heap) σ8 H' s' → Inv (gcx X N scope code A s4 H4 fp) pins σg H' s' ∧ tn (i + 1) s'.heap ∧ ∀ b ∈ fp, H' b = none := fun {s' H'} I' => by
      have pin' : ∀ b ∈ fp, ∀ o, s7.heap.get? b = some o → s'.heap.get? b = some o ∧ H' b = none := fun b hb o e =>
        let z := I'.pin (b, o) (List.mem_append_right _ (List.mem_append_right _ (mem_pinsAt hb e)))
        ⟨z.1, z.2.1⟩
      have hl : σg.length = σ8.length := by rw [← hw8, wipe_length]
      refine ⟨(I'.unpinned (pins := pins)).weak hl (fun j v e => ?_), T.keep _ _ _ st7 fun b hb o e => (pin' b hb o e).1, fun b hb => ?_⟩
      · rw [← hw8] at e
        exact (wipe_some e).1
      · obtain ⟨o, e, _⟩ := T.obj _ _ st7 b hb
        exact (pin' b hb o e).2
    cases b with
    | false =>
      simp only [Bool.false_eq_true, if_false] at q9 ⊢
      obtain ⟨m', hm, w'⟩ := q9
      obtain ⟨J1, J2, J3⟩ := fin I9
      exact seg_again rfl (ih m' hm n (i + 1) ys H9 s₀ s9 pins (by omega) w' J1 P hPn hs0 J2 J3)
    | true =>
      simp only [if_true] at q9 ⊢
      obtain ⟨n', rfl⟩ : ∃ n', n = n' + 1 := ⟨n - 1, by omega⟩
      have hy : ∀ v, yieldOut (genv X scope code s4.heap.objs.size) v = yieldValue v := fun v => by
        have hco' : (genv X scope code s4.heap.objs.size).scope.isCoroutine = false := hco
        simp only [yieldOut, hco', Bool.false_eq_true, if_false]
      simp only [hy]
      rw [Sem.bind_eq_wrap', Sem.bind_eq_wrap', Sem.wrap_wrap, Sem.wrap_wrap]
      refine seg_wrap ?_
      rw [over_gl]
      refine thnF (pe.run _ s9 σ8 H9 _ I9 q9) fun v s10 ⟨yv, H10, I10, r10, q10⟩ => ?_
      obtain ⟨J1, J2, J3⟩ := fin I10
      refine seg_at (seg_yield rfl rfl rfl ⟨yv, ys, _, H10, pins, _, r10, J1, P, hPn, hs0, q10, fun hC s' pins' hw hP' => ?_⟩)
      obtain ⟨m', hm, w'⟩ := hC
      obtain ⟨K1, K2⟩ := Gx.Inv.woke J1 rfl P hw
      refine seg_again rfl (ih m' hm n' (i + 1) (ys ++ [yv]) H10 s' s' pins' (by omega) w' K1 K2 hP' hw.at_ (T.keep _ _ _ J2 fun b hb o e => hw.keep b o (fun hm => ?_) e) J3)
      obtain ⟨p, hp, e⟩ := List.mem_map.mp hm
      exact P.nfp p hp (by rw [e]; exact hb)

theorem g_begin (hco : scope.isCoroutine = false) (hh : A.handled = none) (T : Turn X.prog X.w X.K tg J fp it tn)
    (pg : PG (gcx X N scope code A s4 H4 fp) tg g) (pt : PTs (gcx X N scope code A s4 H4 fp) ifs tt) (pe : PE (gcx X N scope code A s4 H4 fp) elt te)
    (turn : GTurn J g tt te vs σg post Fin W) {m n : Nat} {ys : List V} {H : Hp} {s₀ s : Shared} {pins : List (Addr × Obj)} (hmn : m < n) (w : W 0 m ys H) (I : Inv (gcx X N scope code A s4 H4 fp) pins σg H s) (P : PinsOk (gcx X N scope code A s4 H4 fp) fp pins) (hPn : Pn ys pins)
    (hs0 : ∀ p ∈ pins, s₀.heap.get? p.1 = some p.2) (st : tn 0 s.heap) (nf : ∀ b ∈ fp, H b = none) :
      Seg (model X.prog X.w) A (fun n s₀ r s₁ => r = .ok .next ∧ GEx (gcx X N scope code A s4 H4 fp) fp Pn Fin s₀ s₁) (GYx (gcx X N scope code A s4 H4 fp) fp Pn post) n s₀
        (.compStart (.GeneratorExp elt [⟨tg, iter, ifs, 0⟩] scope pos) 0 (.ref it) .none (genv X scope code s4.heap.objs.size))
        ((model X.prog X.w).den (.compStart (.GeneratorExp elt [⟨tg, iter, ifs, 0⟩] scope pos) 0 (.ref it) .none (genv X scope code s4.heap.objs.size))) [] s := by
  have loop := g_loop (elt := elt) (iter := iter) (ifs := ifs) (pos := pos) hco hh T pg pt pe turn m n 0 ys H s₀ s pins hmn w I P hPn hs0 st nf
  show Seg _ A _ _ _ s₀ _ ((compStart (.GeneratorExp elt [⟨tg, iter, ifs, 0⟩] scope pos) 0 (.ref it) .none (genv X scope code s4.heap.objs.size)).onRaise (leaving (genv X scope code s4.heap.objs.size))) [] s
  unfold compStart
  rw [Sem.onRaise_eq_wrap]
  show Seg _ A _ _ _ s₀ _ ((ask >>= _).wrap _ _ _ _) [] s
  refine seg_bind_wrap (wpAny_askSetting ?_)
  split
  · exact seg_again rfl loop
  · first
      | exact seg_bind_wrap (wpAny_rule (seg_bind_wrap (wpAny_standAt (seg_bind_wrap (T.self _ 0 s _ _ st (seg_again rfl loop))))))
      | (refine seg_bind_wrap (wpAny_rule ?_); show Seg _ A _ _ _ s₀ _ ((standAt iter.pos >>= _).wrap _ _ _ _) [] s; exact seg_bind_wrap (wpAny_standAt (seg_bind_wrap (T.self _ 0 s _ _ st (seg_again rfl loop)))))

/-! ### one step of a consumer -/
/-- back with the def: what its frame asks -/
structure Back (X : Cx) (H4 : Hp) (s4 : Shared) (fp : List Addr) (H : Hp) (s' : Shared) : Prop where
  os : s'.os = s4.os
  un : Un (frs X.stack) fp H4 H s4.heap s'.heap
  hok : HOk X.prog X.w H s'.heap
  bare : AllBare s'.gens
theorem Back.of {N : List Str} {scope : Scope} {code : Value} {A : Around} {pins : List (Addr × Obj)} {σ : L2.St} {H : Hp} {s1 : Shared} (I : Inv (gcx X N scope code A s4 H4 fp) pins σ H s1) : Back X H4 s4 fp H s1 := ⟨I.os, I.base, I.hok, I.bare⟩
theorem Back.setGen {H : Hp} {s1 : Shared} (b : Back X H4 s4 fp H s1) {g : Nat} {x : GenState} (hx : x.bare = true) : Back X H4 s4 fp H (s1.setGen g x) := ⟨b.os, b.un, b.hok, allBare_setGen b.bare hx⟩
theorem Back.kept {H : Hp} {s1 : Shared} (b : Back X H4 s4 fp H s1) {h' : Heap} {tk : Nat} (k : ∀ b o, s1.heap.get? b = some o → h'.get? b = some o) : Back X H4 s4 fp H { s1 with heap := h', toks := tk } :=
  ⟨b.os, b.un.trans (Un.kept k), b.hok.kept k, b.bare⟩
theorem Back.inv {pins : List (Addr × Obj)} {σ : L2.St} {H : Hp} {s' : Shared} (b : Back X H4 s4 fp H s') (I : Inv X pins σ H4 s4) (hfp : ∀ b ∈ fp, FpOk X pins H4 b) : Inv X pins σ H s' :=
  I.call' (ch := fp) b.os b.un b.hok b.bare fun b hb => ⟨(hfp b hb).2.2.2.1, (hfp b hb).2.1, (hfp b hb).2.2.2.2.1, (hfp b hb).2.2.2.2.2⟩

abbrev GR (G : Cx) (fp : List Addr) (Pn : List V → List (Addr × Obj) → Prop) (Fin : List V → Hp → Prop) : GenEnd := fun n s₀ r s₁ => r = .ok .next ∧ GEx G fp Pn Fin s₀ s₁
/-- the generator at a, number gi, ready to be asked within A -/
structure Rdy (M : Model) (A : Around) (R : GenEnd) (Y : Protocol) (a : Addr) (go : Obj) (gi n : Nat) (s : Shared) : Prop where
  obj : s.heap.get? a = some go
  lim : s.heap.NoLimit
  go : ∃ gs, s.gens[gi]? = some gs ∧ gs.Goes M A R Y n (.send .none) (s.setGen gi .running)
theorem g_next {B : Around} {G : Cx} {a : Addr} {go : Obj} {gi n : Nat} {s : Shared} {Q : Option Value → Shared → Prop} {E : Value → Shared → Prop} (hh : B.handled = none) (hd : B.depth < recursionLimit)
    (hgen : ∀ h : Heap, h.get? a = some go → h.IsGen a gi)
    (hr : Rdy (model X.prog X.w) B.in1 (GR G fp Pn Fin) (GYx G fp Pn post) a go gi n s)
    (hY : ∀ x v ys σ H pins C s1 gs', gs'.bare = true → RelV x v → Inv G pins σ H s1 → PinsOk G fp pins → Pn ys pins → (∀ p ∈ pins, s.heap.get? p.1 = some p.2) → post x ys H C → gi < s1.gens.size →
      (C → ∀ s' pins', Woke pins pins' s1 s' → Pn (ys ++ [x]) pins' → ∃ n', n = n' + 1 ∧ gs'.Goes (model X.prog X.w) B.in1 (GR G fp Pn Fin) (GYx G fp Pn post) n' (.send .none) s') → Q (some v) (s1.setGen gi gs'))
    (hP : ∀ s1 ys σ H pins h', Inv G pins σ H s1 → PinsOk G fp pins → Pn ys pins → (∀ p ∈ pins, s.heap.get? p.1 = some p.2) → Fin ys H → (∀ b o, s1.heap.get? b = some o → h'.get? b = some o) → Q none { s1.setGen gi .finished with heap := h' }) :
    wpAny (model X.prog X.w) B (pyNext (.ref a)) Q E s := by
  obtain ⟨gs, hgs, hgo⟩ := hr.go
  have hgl : gi < s.gens.size := (Array.getElem?_eq_some_iff.mp hgs).1
  refine wpAny_gsz (n := gi + 1) hgl (wpAny_pyNext_genexpQ (P := fun _ s₀ s₁ => GEx G fp Pn Fin s₀ s₁) hh hr.lim hd (hgen _ hr.obj) hgs hgo (fun v s₁ gs' hb hv => ?_) fun s₁ hp h' hk => ?_)
  · intro hsz
    obtain ⟨x, ys, σ, H, pins, C, r, I, P, hPn, hs0, hpost, hkap⟩ := hv
    have hsz1 : gi < s₁.gens.size := by
      have q : (s₁.setGen gi gs').gens.size = s₁.gens.size := setGen_size _ _ _
      have hsz' : gi + 1 ≤ (s₁.setGen gi gs').gens.size := hsz
      omega
    refine hY x v ys σ H pins C s₁ gs' hb r I P hPn hs0 hpost hsz1 fun hC s' pins' hw hP' => ?_
    have q := hkap hC s' pins' hw hP'
    cases n with
    | zero => exact q.elim
    | succ n' => exact ⟨n', rfl, q⟩
  · intro _
    obtain ⟨ys, σ, H, pins, I, P, hPn, hs0, hfin⟩ := hp
    exact hP s₁ ys σ H pins h' I P hPn hs0 hfin hk
end
end Gx

set_option Elab.async false
set_option linter.all false
set_option maxRecDepth 100000
set_option maxHeartbeats 4000000
/-! Gy: the consumers all, any, sum, tuple. -/
namespace Gx
open PySem PySem.Spec PyProof.Rows L2 GenW

section
variable {X : Cx} {H4 : Hp} {s4 : Shared} {scope : Scope} {N : List Str} {fp : List Addr} {code : Value} {AG A : Around} {a S : Addr} {go : Obj} {gi : Nat} {Fin : List V → Hp → Prop} {Qf : Hp → Prop} {R' : Result → Shared → Prop}

def pAll (Qf : Hp → Prop) : TPost := fun v _ H C => ∃ b, v = .bl b ∧ if b = true then C else Qf H
def pAny (Qt : Hp → Prop) : TPost := fun v _ H C => ∃ b, v = .bl b ∧ if b = true then Qt H else C
def nAll (a : Addr) (go : Obj) : List V → List (Addr × Obj) → Prop := fun _ pins => pins = [(a, go)]

theorem woke_same {G : Cx} {fp : List Addr} {pins : List (Addr × Obj)} {σ : L2.St} {H : Hp} {s1 : Shared} {gs' : GenState} (I : Inv G pins σ H s1) (hb : gs'.bare = true) : Woke pins pins s1 ((s1.setGen gi gs').setGen gi .running) where
  os := rfl
  bare := allBare_setGen (s := s1.setGen gi gs') (allBare_setGen I.bare hb) rfl
  keep := fun _ _ _ e => e
  same := rfl
  at_ := fun p hp => (I.pin p (List.mem_append_right _ hp)).1
  data := fun p hp => (I.pin p (List.mem_append_right _ hp)).2.2.2.2

theorem drain_all (hh : A.handled = none) (hd : A.depth < recursionLimit) (hgen : ∀ h : Heap, h.get? a = some go → h.IsGen a gi)
    (hT : ∀ s' ys H, Back X H4 s4 fp H s' → Fin ys H → R' (.ok (.ret (.bool true))) s') (hF : ∀ s' H, Back X H4 s4 fp H s' → Qf H → R' (.ok (.ret (.bool false))) s') :
    ∀ (n : Nat) (s : Shared), Rdy (model X.prog X.w) A.in1.in1 (GR (gcx X N scope code AG s4 H4 fp) fp (nAll a go) Fin) (GYx (gcx X N scope code AG s4 H4 fp) fp (nAll a go) (pAll Qf)) a go gi n s →
      codeAny (model X.prog X.w) A (.builtin "all.loop" ⟨[.ref a], []⟩) R' s := by
  intro n
  induction n using Nat.strongRecOn with
  | ind n ih =>
  intro s hr
  refine codeAny_builtin F.entry_all_loop ?_
  rw [Around.under_plainId F.plain_all_loop _]
  show wpAny _ A.in1 (pyNext (.ref a) >>= _) _ _ s
  refine wpAny_bind (g_next (B := A.in1) hh hd hgen hr (fun x v ys σ H pins C s1 gs' hb rv I P hPn hs0 hpost hsz hk => ?_) fun s1 ys σ H pins h' I P hPn hs0 hfin hkh => ?_)
  · obtain ⟨b, rfl, hpost⟩ := hpost
    cases rv
    refine wpAny_bind (wpAny_holding (wpAny_truthy_bool ?_))
    refine wpAny_bind (wpAny_letGo ?_)
    have hPn' : pins = [(a, go)] := hPn
    subst hPn'
    cases b with
    | true =>
      simp only [if_true] at hpost ⊢
      obtain ⟨n', rfl, hgo⟩ := hk hpost _ _ (woke_same (fp := fp) (gi := gi) I hb) rfl
      refine wpAny_pure ⟨plainId_quiet F.plain_all_loop _, ih n' (Nat.lt_succ_self _) _ ⟨?_, I.nolimit, gs', setGen_at hsz, hgo⟩⟩
      exact (I.pin (a, go) (List.mem_append_right _ List.mem_cons_self)).1
    | false =>
      simp only [Bool.false_eq_true, if_false] at hpost ⊢
      exact wpAny_bind (wpAny_rule (wpAny_pure (hF _ H ((Back.of I).setGen hb) hpost)))
  · exact wpAny_bind (wpAny_rule (wpAny_pure (hT _ ys H (Back.kept (tk := s1.toks) ((Back.of I).setGen (g := gi) (x := .finished) rfl) hkh) hfin)))
theorem drain_any {Qt : Hp → Prop} (hh : A.handled = none) (hd : A.depth < recursionLimit) (hgen : ∀ h : Heap, h.get? a = some go → h.IsGen a gi)
    (hF : ∀ s' ys H, Back X H4 s4 fp H s' → Fin ys H → R' (.ok (.ret (.bool false))) s') (hT : ∀ s' H, Back X H4 s4 fp H s' → Qt H → R' (.ok (.ret (.bool true))) s') :
    ∀ (n : Nat) (s : Shared), Rdy (model X.prog X.w) A.in1.in1 (GR (gcx X N scope code AG s4 H4 fp) fp (nAll a go) Fin) (GYx (gcx X N scope code AG s4 H4 fp) fp (nAll a go) (pAny Qt)) a go gi n s →
      codeAny (model X.prog X.w) A (.builtin "any.loop" ⟨[.ref a], []⟩) R' s := by
  intro n
  induction n using Nat.strongRecOn with
  | ind n ih =>
  intro s hr
  refine codeAny_builtin F.entry_any_loop ?_
  rw [Around.under_plainId F.plain_any_loop _]
  show wpAny _ A.in1 (pyNext (.ref a) >>= _) _ _ s
  refine wpAny_bind (g_next (B := A.in1) hh hd hgen hr (fun x v ys σ H pins C s1 gs' hb rv I P hPn hs0 hpost hsz hk => ?_) fun s1 ys σ H pins h' I P hPn hs0 hfin hkh => ?_)
  · obtain ⟨b, rfl, hpost⟩ := hpost
    cases rv
    refine wpAny_bind (wpAny_holding (wpAny_truthy_bool ?_))
    refine wpAny_bind (wpAny_letGo ?_)
    have hPn' : pins = [(a, go)] := hPn
    subst hPn'
    cases b with
    | false =>
      simp only [Bool.false_eq_true, if_false] at hpost ⊢
      obtain ⟨n', rfl, hgo⟩ := hk hpost _ _ (woke_same (fp := fp) (gi := gi) I hb) rfl
      refine wpAny_pure ⟨plainId_quiet F.plain_any_loop _, ih n' (Nat.lt_succ_self _) _ ⟨?_, I.nolimit, gs', setGen_at hsz, hgo⟩⟩
      exact (I.pin (a, go) (List.mem_append_right _ List.mem_cons_self)).1
    | true =>
      simp only [if_true] at hpost ⊢
      exact wpAny_bind (wpAny_rule (wpAny_pure (hT _ H ((Back.of I).setGen hb) hpost)))
  · exact wpAny_bind (wpAny_rule (wpAny_pure (hF _ ys H (Back.kept (tk := s1.toks) ((Back.of I).setGen (g := gi) (x := .finished) rfl) hkh) hfin)))

/-! ### tuple -/
def pTup : TPost := fun _ ys _ C => ys.length < sizeLine ∧ C
def nTup (a : Addr) (go : Obj) (S : Addr) : List V → List (Addr × Obj) → Prop := fun ys pins => ∃ acc c, Vals ys acc.toList ∧ ys.length ≤ sizeLine ∧ pins = [(a, go), (S, lstObj acc c)]
theorem drain_tup {res : Value} (hh : A.handled = none) (hd : A.depth < recursionLimit) (hgen : ∀ h : Heap, h.get? a = some go → h.IsGen a gi) (hSa : S ≠ a) (hSc : S ≠ cStatics)
    (hEnd : ∀ s' ys H acc c, Back X H4 s4 fp H s' → Fin ys H → Vals ys acc.toList → ys.length ≤ sizeLine → s'.heap.get? S = some (lstObj acc c) → R' (.ok (.ret res)) s') :
    ∀ (n : Nat) (s : Shared), Rdy (model X.prog X.w) A.in1.in1 (GR (gcx X N scope code AG s4 H4 fp) fp (nTup a go S) Fin) (GYx (gcx X N scope code AG s4 H4 fp) fp (nTup a go S) pTup) a go gi n s →
      codeAny (model X.prog X.w) A (.builtin "list.extend.loop" ⟨[.ref S, .ref a, res], []⟩) R' s := by
  intro n
  induction n using Nat.strongRecOn with
  | ind n ih =>
  intro s hr
  refine codeAny_builtin F.entry_extend_loop ?_
  rw [Around.under_plainId F.plain_extend_loop _]
  show wpAny _ A.in1 (pyNext (.ref a) >>= _) _ _ s
  refine wpAny_bind (g_next (B := A.in1) hh hd hgen hr (fun x v ys σ H pins C s1 gs' hb rv I P hPn hs0 hpost hsz hk => ?_) fun s1 ys σ H pins h' I P hPn hs0 hfin hkh => ?_)
  · obtain ⟨hlt, hC⟩ := hpost
    obtain ⟨acc, c, hv, hle, rfl⟩ := hPn
    have pa := I.pin (a, go) (List.mem_append_right _ List.mem_cons_self)
    have pS := I.pin (S, lstObj acc c) (List.mem_append_right _ (List.mem_cons_of_mem _ List.mem_cons_self))
    have hS1 : s1.heap.get? S = some (lstObj acc c) := pS.1
    have hasz : acc.size = ys.length := by
      have e1 := hv.length
      have e2 : acc.toList.length = acc.size := by simp
      omega
    show wpAny _ A.in1 (updateSeq S (·.push v) >>= _) _ _ _
    refine wpAny_bind ?_
    refine wpAny_updateSeq (s := s1.setGen gi gs') hS1 rfl (wpAny_pure ⟨plainId_quiet F.plain_extend_loop _, ?_⟩) (by omega) (by show (acc.push v).size ≤ sizeLine + 1; rw [Array.size_push]; omega)
    have keep3 : ∀ b o, b ≠ S → s1.heap.get? b = some o → (s1.heap.update S (Obj.mapSeq (·.push v))).get? b = some o := fun b o hbS e => (Heap.get?_update_other _ _ (Ne.symm hbS)).trans e
    have at3 : (s1.heap.update S (Obj.mapSeq (·.push v))).get? S = some (lstObj (acc.push v) (c + 1)) ∨ ∃ c', (s1.heap.update S (Obj.mapSeq (·.push v))).get? S = some (lstObj (acc.push v) c') := .inr ⟨_, Heap.get?_update_self _ hS1 rfl⟩
    obtain ⟨c', at4⟩ : ∃ c', (s1.heap.update S (Obj.mapSeq (·.push v))).get? S = some (lstObj (acc.push v) c') := by
      rcases at3 with z | z
      · exact ⟨_, z⟩
      · exact z
    have hk2 := hk hC ({ (s1.setGen gi gs').setGen gi .running with heap := s1.heap.update S (Obj.mapSeq (·.push v)) }) [(a, go), (S, lstObj (acc.push v) c')]
      { os := rfl
        bare := allBare_setGen (s := s1.setGen gi gs') (allBare_setGen I.bare hb) rfl
        keep := fun b o hb e => keep3 b o (fun z => hb (by rw [z]; simp)) e
        same := rfl
        at_ := fun p hp => by
          rcases List.mem_cons.mp hp with z | z
          · rw [z]
            exact keep3 a go (Ne.symm hSa) pa.1
          · rw [List.mem_singleton.mp z]
            exact at4
        data := fun p hp => by
          rcases List.mem_cons.mp hp with z | z
          · rw [z]
            exact pa.2.2.2.2
          · rw [List.mem_singleton.mp z]
            intro v q
            cases q }
      ⟨acc.push v, c', by rw [Array.toList_push]; exact hv.append (.cons rv .nil), by rw [List.length_append]; exact hlt, rfl⟩
    obtain ⟨n', rfl, hgo⟩ := hk2
    refine ih n' (Nat.lt_succ_self _) { s1.setGen gi gs' with heap := s1.heap.update S (Obj.mapSeq (·.push v)) } ⟨keep3 a go (Ne.symm hSa) pa.1, ?_, gs', setGen_at hsz, hgo⟩
    obtain ⟨mc, hns, hnn⟩ := I.nolimit
    exact ⟨mc, hns.at' fun o e => keep3 _ o (Ne.symm hSc) e, hnn⟩
  · obtain ⟨acc, c, hv, hle, rfl⟩ := hPn
    have hS1 : s1.heap.get? S = some (lstObj acc c) := (I.pin (S, lstObj acc c) (List.mem_append_right _ (List.mem_cons_of_mem _ List.mem_cons_self))).1
    exact wpAny_pure (hEnd _ ys H acc c (Back.kept (tk := s1.toks) ((Back.of I).setGen (g := gi) (x := .finished) rfl) hkh) hfin hv hle (hkh _ _ hS1))

/-! ### sum -/
def pSum : TPost := fun v _ _ C => (∃ j, v = .int j) ∧ C
abbrev sumObj (z : Int) (t : Tok) (c : Nat) : Obj := { cls := .type "list", dict := none, data := .seq #[.int z t] c, slots := #[] }
def nSum (a : Addr) (go : Obj) (S : Addr) : List V → List (Addr × Obj) → Prop := fun ys pins => ∃ (ns : List Int) (t : Tok) (c : Nat), ys = ns.map V.int ∧ pins = [(a, go), (S, sumObj ns.sum t c)]
theorem drain_sum (hh : A.handled = none) (hd : A.depth < recursionLimit) (hgen : ∀ h : Heap, h.get? a = some go → h.IsGen a gi) (hSa : S ≠ a) (hSc : S ≠ cStatics)
    (hEnd : ∀ s' (ns : List Int) H t, Back X H4 s4 fp H s' → Fin (ns.map V.int) H → R' (.ok (.ret (.int ns.sum t))) s') :
    ∀ (n : Nat) (s : Shared) (st z : Int) (tA : Tok) (c : Nat), (st = 0 ∨ st = 2) → s.heap.get? S = some (sumObj z tA c) →
      Rdy (model X.prog X.w) A.in1.in1 (GR (gcx X N scope code AG s4 H4 fp) fp (nSum a go S) Fin) (GYx (gcx X N scope code AG s4 H4 fp) fp (nSum a go S) pSum) a go gi n s →
      codeAny (model X.prog X.w) A (.builtin "sum.loop" ⟨[.ref a, .ref S, rawInt st, rawInt 0], []⟩) R' s := by
  intro n
  induction n using Nat.strongRecOn with
  | ind n ih =>
  intro s st z tA c hst hS hr
  refine codeAny_builtin F.entry_sum_loop ?_
  rw [Around.under_plainId F.plain_sum_loop _]
  show wpAny _ A.in1 (seqItems? (.ref S) >>= _) _ _ s
  refine wpAny_bind (wpAny_seqItems hS rfl ?_)
  show wpAny _ A.in1 (tryCatch (pyNext (.ref a)) _ >>= _) _ _ s
  refine wpAny_bind (wpAny_tryCatch (g_next (B := A.in1) hh hd hgen hr (fun x v ys σ H pins C s1 gs' hb rv I P hPn hs0 hpost hsz hk => ?_) fun s1 ys σ H pins h' I P hPn hs0 hfin hkh => ?_))
  · obtain ⟨⟨j, rfl⟩, hC⟩ := hpost
    obtain ⟨t, rfl⟩ := rv
    obtain ⟨ns, tB, cB, rfl, rfl⟩ := hPn
    have pa := I.pin (a, go) (List.mem_append_right _ List.mem_cons_self)
    have pS := I.pin (S, sumObj ns.sum tB cB) (List.mem_append_right _ (List.mem_cons_of_mem _ List.mem_cons_self))
    have e0 := hs0 (S, sumObj ns.sum tB cB) (List.mem_cons_of_mem _ List.mem_cons_self)
    have e1 : s.heap.get? S = some (sumObj ns.sum tB cB) := e0
    rw [hS] at e1
    have ez : z = ns.sum ∧ tA = tB := by
      have e2 := congrArg Obj.data (Option.some.inj e1)
      have e3 : Data.seq #[Value.int z tA] c = Data.seq #[Value.int ns.sum tB] cB := e2
      injection e3 with e4 _
      have e5 := congrArg Array.toList e4
      simp at e5
      exact e5
    obtain ⟨rfl, rfl⟩ := ez
    have hS1 : s1.heap.get? S = some (sumObj ns.sum tA cB) := pS.1
    -- what follows the write
    have next : ∀ (h2 : Heap) (tk c' : Nat) (t' : Tok) (st' : Int), (st' = 0 ∨ st' = 2) → (∀ b o, b ≠ S → s1.heap.get? b = some o → h2.get? b = some o) → h2.get? S = some (sumObj (ns.sum + j) t' c') →
        codeAny (model X.prog X.w) A (.builtin "sum.loop" ⟨[.ref a, .ref S, rawInt st', rawInt 0], []⟩) R' { s1.setGen gi gs' with heap := h2, toks := tk } := fun h2 tk c' t' st' hst' keep3 at3 => by
      have es : (ns ++ [j]).sum = ns.sum + j := by simp
      have hk2 := hk hC ({ (s1.setGen gi gs').setGen gi .running with heap := h2, toks := tk }) [(a, go), (S, sumObj (ns ++ [j]).sum t' c')]
        { os := rfl
          bare := allBare_setGen (s := s1.setGen gi gs') (allBare_setGen I.bare hb) rfl
          keep := fun b o hb e => keep3 b o (fun z => hb (by rw [z]; simp)) e
          same := rfl
          at_ := fun p hp => by
            rcases List.mem_cons.mp hp with z | z
            · rw [z]
              exact keep3 a go (Ne.symm hSa) pa.1
            · rw [List.mem_singleton.mp z, es]
              exact at3
          data := fun p hp => by
            rcases List.mem_cons.mp hp with z | z
            · rw [z]
              exact pa.2.2.2.2
            · rw [List.mem_singleton.mp z]
              intro v q
              cases q }
        ⟨ns ++ [j], t', c', by simp, rfl⟩
      obtain ⟨n', rfl, hgo⟩ := hk2
      refine ih n' (Nat.lt_succ_self _) _ st' _ t' c' hst' at3 ⟨keep3 a go (Ne.symm hSa) pa.1, ?_, gs', setGen_at hsz, hgo⟩
      obtain ⟨mc, hns, hnn⟩ := I.nolimit
      exact ⟨mc, hns.at' fun o e => keep3 _ o (Ne.symm hSc) e, hnn⟩
    have up : ∀ (h : Heap) (f : Obj → Obj) b o, b ≠ S → h.get? b = some o → (h.update S f).get? b = some o := fun h f b o hbS e => (Heap.get?_update_other _ _ (Ne.symm hbS)).trans e
    rcases hst with rfl | rfl
    · show wpAny _ A.in1 (if (_ : Bool) = true then (mkInt (ns.sum + j) >>= _) else _) _ _ _
      split
      · refine wpAny_bind (wpAny_mkInt ?_)
        show wpAny _ A.in1 (updateSeq S (fun _ => #[.int (ns.sum + j) (s1.setGen gi gs').toks]) >>= _) _ _ _
        refine wpAny_bind ?_
        refine wpAny_updateSeq (s := { s1.setGen gi gs' with toks := (s1.setGen gi gs').toks + 1 }) hS1 rfl (wpAny_pure ⟨plainId_quiet F.plain_sum_loop _, ?_⟩)
        exact next _ _ _ _ 0 (.inl rfl) (up _ _) (Heap.get?_update_self _ hS1 rfl)
      · refine wpAny_bind (wpAny_rule ?_)
        refine wpAny_bind (wpAny_attempt (wpAny_holding (wpAny_add_int ?_)))
        show wpAny _ A.in1 (updateSeq S (fun _ => #[.int (ns.sum + j) (s1.setGen gi gs').toks]) >>= _) _ _ _
        refine wpAny_bind (wpAny_updateSeq (s := { s1.setGen gi gs' with toks := (s1.setGen gi gs').toks + 1 }) hS1 rfl ?_)
        have hS2 := Heap.get?_update_self (Obj.mapSeq fun _ => #[Value.int (ns.sum + j) (s1.setGen gi gs').toks]) hS1 rfl
        refine wpAny_bind (wpAny_letGo ?_)
        refine wpAny_bind (wpAny_updateSeq hS2 rfl (wpAny_pure ⟨plainId_quiet F.plain_sum_loop _, ?_⟩))
        exact next _ _ _ _ 2 (.inr rfl) (fun b o hb e => up _ _ b o hb (up _ _ b o hb e)) (Heap.get?_update_self _ hS2 rfl)
    · show wpAny _ A.in1 ((holding [Value.int j t] (binaryOp .Add (.int ns.sum tA) (.int j t))).attempt >>= _) _ _ _
      refine wpAny_bind (wpAny_attempt (wpAny_holding (wpAny_add_int ?_)))
      show wpAny _ A.in1 (updateSeq S (fun _ => #[.int (ns.sum + j) (s1.setGen gi gs').toks]) >>= _) _ _ _
      refine wpAny_bind (wpAny_updateSeq (s := { s1.setGen gi gs' with toks := (s1.setGen gi gs').toks + 1 }) hS1 rfl ?_)
      have hS2 := Heap.get?_update_self (Obj.mapSeq fun _ => #[Value.int (ns.sum + j) (s1.setGen gi gs').toks]) hS1 rfl
      refine wpAny_bind (wpAny_letGo ?_)
      refine wpAny_bind (wpAny_updateSeq hS2 rfl (wpAny_pure ⟨plainId_quiet F.plain_sum_loop _, ?_⟩))
      exact next _ _ _ _ 2 (.inr rfl) (fun b o hb e => up _ _ b o hb (up _ _ b o hb e)) (Heap.get?_update_self _ hS2 rfl)
  · obtain ⟨ns, tB, cB, rfl, rfl⟩ := hPn
    have e1 : s.heap.get? S = some (sumObj ns.sum tB cB) := hs0 (S, sumObj ns.sum tB cB) (List.mem_cons_of_mem _ List.mem_cons_self)
    rw [hS] at e1
    have ez : z = ns.sum ∧ tA = tB := by
      have e2 := congrArg Obj.data (Option.some.inj e1)
      have e3 : Data.seq #[Value.int z tA] c = Data.seq #[Value.int ns.sum tB] cB := e2
      injection e3 with e4 _
      have e5 := congrArg Array.toList e4
      simp at e5
      exact e5
    obtain ⟨rfl, rfl⟩ := ez
    exact wpAny_pure (hEnd _ ns H tA (Back.kept (tk := s1.toks) ((Back.of I).setGen (g := gi) (x := .finished) rfl) hkh) hfin)
end
end Gx

set_option Elab.async false
set_option linter.all false
set_option maxRecDepth 100000
set_option maxHeartbeats 4000000
/-! Gz: a generator expression is made; the rules. -/
namespace Gx
open PySem PySem.Spec PyProof.Rows L2 GenW
abbrev TabG := GxR.TabG
abbrev Tabbed := GxR.Tabbed
abbrev TabB := LamX.TabB
section
variable {X : Cx} {pins : List (Addr × Obj)} {σ : L2.St} {H : Hp} {s : Shared} {scope : Scope} {N : List Str} {src : List (Option Nat)} {c P : Addr}
variable {elt tg iter : Expr} {ifs : List Expr} {gpos : Pos} {wi : TI} {R : It → Hp → Prop}
/-- the generator at a, just made in the state s4, number gi; s5: now -/
structure Made (X : Cx) (scope : Scope) (elt tg iter : Expr) (ifs : List Expr) (gpos : Pos) (s4 : Shared) (code : Value) (it a : Addr) (go : Obj) (gi : Nat) (s5 : Shared) : Prop where
  os : s5.os = s4.os
  bare : AllBare s5.gens
  keep : ∀ b o, s4.heap.get? b = some o → s5.heap.get? b = some o
  ns : s5.heap.Ns s4.heap.objs.size (fun y => if y = ".0" then some (.ref it) else none)
  obj : s5.heap.get? a = some go
  gen : ∀ h : Heap, h.get? a = some go → h.IsGen a gi
  dat : ∀ v, go.data ≠ .cell v
  lt : s4.heap.objs.size < a
  top : a < s5.heap.objs.size
  fresh : s5.gens[gi]? = some (.fresh (.compStart (.GeneratorExp elt [⟨tg, iter, ifs, 0⟩] scope gpos) 0 (.ref it) .none (genv X scope code s4.heap.objs.size)))

theorem gen_make {k : Nat} {Q' : Value → Shared → Prop} (hr : Room k X.A) (TB : TabB X.base X.mg c P) (hcode : X.env.code = .ref c) (ok : GOk X.N X.env.scope scope N src) (hi : PI X tg iter wi)
    (hs : ∀ v, genFold iter X.env v = pure v) (I : Inv X pins σ H s) (h : wi σ H fun J H1 => TabG H1 P ∧ R J H1)
    (hQ : ∀ it fp tn J H1 H2 s4 code a go gi s5, R J H1 → Tabbed P H1 H2 → Inv X pins σ H2 s4 → Turn X.prog X.w X.K tg J fp it tn → tn 0 s5.heap → (∀ b ∈ fp, FpOk X pins H2 b ∧ b < s4.heap.objs.size) →
      Made X scope elt tg iter ifs gpos s4 code it a go gi s5 → Q' (.ref a) s5) :
    wpAny (model X.prog X.w) X.A (eval (.GeneratorExp elt [⟨tg, iter, ifs, 0⟩] scope gpos) X.env) Q' X.xe s := by
  have hfree : ∀ y ∈ scope.names, y.2 = .free → ∃ c, X.env.cells.lookup y.1 = some c := fun y hy e => by
    rcases ok.free y hy e with k | k
    · exact I.ok.has _ (.inl k)
    · exact I.ok.has _ (.inr k)
  refine wpAny_GeneratorExp_make ok.co (closure_ok hfree) ok.cell ok.dot ok.kind (by have := hr.dp; omega) ?_ hs
  refine thn (hi.run pins s σ H _ I h) fun xv s1 hx => thn hx fun itv s2 h2 => ?_
  obtain ⟨it, fp, tn, J, H1, rfl, I1, T, st2, f2, ⟨ps, hP, ht⟩, q⟩ := h2
  refine ⟨I1.nolimit, ?_⟩
  have hPs : s2.heap.get? P = some { cls := .none, data := .fields ps } := I1.hok P _ hP
  have cd : PySem.W.CodeHd s2.heap c P := TB.code.keeps fun b u e => I1.bk b u e
  have fpP : ∀ b ∈ fp, b ≠ P := fun b hb z => by
    have q := (f2 b hb).1
    rw [z, hP] at q
    cases q
  have fpl : ∀ b ∈ fp, b < s2.heap.objs.size := fun b hb => by
    obtain ⟨o, e, _⟩ := T.obj _ _ st2 b hb
    exact Heap.lt_size e
  have cont : ∀ (code : Value) (h3 : Heap) (tk : Nat) (ps' : Array Value), Heap.ExtBut P s2.heap h3 → s2.heap.objs.size ≤ h3.objs.size → h3.get? P = some { cls := .none, data := .fields ps' } → (∃ more, ps' = ps ++ more) → TriplesOk ps'.toList →
      wpAny (model X.prog X.w) X.A (builtinsFor X.env.globals X.env.builtins) (fun bi s₄ =>
        ∀ h', h'.Ns s₄.heap.objs.size (fun y => if y = ".0" then some (.ref it) else none) → Heap.SameBut s₄.heap.objs.size (s₄.heap.push { cls := .type "frame", data := .dict #[] }) h' →
          Q' (.ref h'.objs.size) { s₄ with
            gens := s₄.gens.push (.fresh (.compStart (.GeneratorExp elt [⟨tg, iter, ifs, 0⟩] scope gpos) 0 (.ref it) .none (genEnv scope (cloFrom X.env.cells scope.names []) s₄.heap.objs.size code bi X.env))),
            toks := s₄.toks + 1 + 1 + 1,
            heap := h'.push { cls := .type "generator", data := .fields #[.int s₄.gens.size 0, .str "<genexpr>" (s₄.toks + 1), .str (X.env.qual ++ "<genexpr>") (s₄.toks + 1 + 1)] } }) X.xe { s2 with heap := h3, toks := tk } := by
    intro code h3 tk ps' hx hsz hP3 hmore ht3
    obtain ⟨bm, ob, e1, e2, e3, e4, e5, e6, e7, e8⟩ := TB.bm
    have keep3 : ∀ b u, b ≠ P → s2.heap.get? b = some u → h3.get? b = some u := fun b u hb e => hx b u hb e
    refine wpAny_builtinsFor (m := X.mg) (by rw [I1.ok.glob]; exact (I1.mod.glob.keeps I1.bk).extBut hx TB.gP) e1 e2 (keep3 _ _ e4 (I1.bk _ _ e5)) e6 e7 e8 ?_
    intro h' hn' hs'
    obtain ⟨more, em⟩ := hmore
    have J2 := GxR.inv_tab (more := more) (h' := h3) (g' := s2.gens) (d' := s2.drawn) (t' := tk) I1 hP keep3 (by rw [← em]; exact hP3) I1.bare
    have keep4 : ∀ b o, h3.get? b = some o → h'.get? b = some o := fun b o e => hs'.extBut b o (Nat.ne_of_lt (Heap.lt_size e)) (Heap.get?_push_of_some _ e)
    have sz' : h'.objs.size = h3.objs.size + 1 := by rw [hs'.1, Heap.size_push]
    refine hQ it fp tn J H1 (upd H1 P (.tbl (ps ++ more))) { s2 with heap := h3, toks := tk } code h'.objs.size { cls := .type "generator", data := .fields #[.int s2.gens.size 0, .str "<genexpr>" (tk + 1), .str (X.env.qual ++ "<genexpr>") (tk + 1 + 1)] } s2.gens.size _ q
      ⟨⟨ps ++ more, upd_same, by rw [← em]; exact ht3⟩, fun b hb => upd_ne hb⟩ J2 T ?_ (fun b hb => ?_) ⟨rfl, ?_, fun b o e => Heap.get?_push_of_some _ (keep4 b o e), hn'.push _, Heap.get?_push_size _ rfl, fun h e => ⟨_, _, _, e, rfl, rfl, rfl⟩, fun v q => (by cases q), ?_, ?_, Array.getElem?_push_size ..⟩
    · refine T.keep _ _ _ st2 fun b hb o e => ?_
      exact Heap.get?_push_of_some _ (keep4 b o (keep3 b o (fpP b hb) e))
    · obtain ⟨f0, f1⟩ := f2 b hb
      exact ⟨⟨by rw [upd_ne (fpP b hb)]; exact f0, f1⟩, Nat.lt_of_lt_of_le (fpl b hb) hsz⟩
    · exact AllBare.push I1.bare rfl
    · show h3.objs.size < h'.objs.size
      omega
    · show h'.objs.size < (h'.push _).objs.size
      rw [Heap.size_push]
      exact Nat.lt_succ_self _
  cases hf : codeAmong gpos ps.toList with
  | none =>
    refine wpAny_genexprCodeX hcode (cd.code hPs ht) (cd.tab hPs) hf fun c' h' tk hx hge hlt hco' _ htab' _ => ?_
    obtain ⟨o1, vs, f1, tf, fl, tg, inF, tx, tt, op, _, _, _, _, _, _, _, _, _, htr, _⟩ := hco'
    exact cont _ h' tk _ hx (Nat.le_trans hge (Nat.le_of_lt hlt)) htab'.2 ⟨_, rfl⟩ htr
  | some cv =>
    refine wpAny_genexprCode_hit hcode (cd.code hPs ht) hf ?_
    exact cont cv s2.heap s2.toks ps (Heap.ExtBut.refl _ _) (Nat.le_refl _) hPs ⟨#[], by simp⟩ ht

/-- the generator, ready for a consumer that runs within B and keeps pins -/
theorem Made.ready {s4 s5 s6 : Shared} {H2 : Hp} {code : Value} {it a : Addr} {go : Obj} {gi : Nat} {fp : List Addr} {tn : Nat → Heap → Prop} {J : It} {B : Around} {g : TG} {tt : TT} {te : TE} {vs : List Nat} {post : TPost} {Fin : List V → Hp → Prop}
    {W : Nat → Nat → List V → Hp → Prop} {Pn : List V → List (Addr × Obj) → Prop} {m n : Nat} {pl : List (Addr × Obj)}
    (M : Made X scope elt tg iter ifs gpos s4 code it a go gi s5) (ok : GOk X.N X.env.scope scope N src) (I : Inv X pins σ H2 s4) (T : Turn X.prog X.w X.K tg J fp it tn) (st : tn 0 s5.heap) (hfp : ∀ b ∈ fp, FpOk X pins H2 b ∧ b < s4.heap.objs.size)
    (hB : B.frames = some X.stack) (hh : B.handled = none)
    (pg : PG (gcx X N scope code B s4 H2 fp) tg g) (pt : PTs (gcx X N scope code B s4 H2 fp) ifs tt) (pe : PE (gcx X N scope code B s4 H2 fp) elt te)
    (turn : GTurn J g tt te vs (gsl σ src) post Fin W) (hmn : m < n) (w : W 0 m [] H2)
    (os : s6.os = s5.os) (bare : AllBare s6.gens) (keep : ∀ b o, s5.heap.get? b = some o → s6.heap.get? b = some o) (hg : s6.gens[gi]? = s5.gens[gi]?)
    (hpl : ∀ p ∈ pl, s5.heap.objs.size ≤ p.1 ∧ s6.heap.get? p.1 = some p.2 ∧ ∀ v, p.2.data ≠ .cell v) (hPn : Pn [] ((a, go) :: pl)) :
    Rdy (model X.prog X.w) B (GR (gcx X N scope code B s4 H2 fp) fp Pn Fin) (GYx (gcx X N scope code B s4 H2 fp) fp Pn post) a go gi n s6 := by
  have kp : ∀ b o, s4.heap.get? b = some o → s6.heap.get? b = some o := fun b o e => keep b o (M.keep b o e)
  have I5 : ∀ (s' : Shared), s'.os = s4.os → AllBare s'.gens → s'.heap = s6.heap → Inv (gcx X N scope code B s4 H2 fp) [] (gsl σ src) H2 s' := fun s' h1 h2 h3 =>
    g_start (m0 := fun y => if y = ".0" then some (.ref it) else none) I ok hfp hB hh h1 h2 (by rw [h3]; exact kp) (by rw [h3]; exact M.ns.keeps keep)
  have lt4 : ∀ b, s4.heap.objs.size < b → H2 b = none ∧ b ∉ frs X.stack ∧ b ≠ s4.heap.objs.size ∧ b ∉ fp ∧ ∀ x c, (cloFrom X.env.cells scope.names []).lookup x = some c → c ≠ b := fun b hb => by
    refine ⟨I.hok.fresh (Nat.le_of_lt hb), fun z => ?_, Nat.ne_of_gt hb, fun z => ?_, fun x c e z => ?_⟩
    · rcases List.mem_cons.mp (I.stkSub b z) with y | y
      · have := I.lt
        rw [← y] at this
        exact absurd (Nat.lt_trans hb this) (Nat.lt_irrefl _)
      · exact I.nofs (Nat.le_of_lt hb) y
    · exact absurd (Nat.lt_trans hb (hfp b z).2) (Nat.lt_irrefl _)
    · rcases cloFrom_mem (PySem.mem_of_lookup e) with hm | ⟨h1, h2⟩
      · cases hm
      · rcases ok.free _ h1 rfl with k | k
        all_goals
          obtain ⟨c', hc'⟩ := I.ok.has x (by first | exact .inl k | exact .inr k)
          rw [hc'] at h2
          have h2' : c = c' := h2
          obtain ⟨w', z'⟩ := I.cell x c' hc'
          have := z'.lt
          rw [← h2', z] at this
          exact absurd (Nat.lt_trans hb this) (Nat.lt_irrefl _)
  have each : ∀ p ∈ (a, go) :: pl, s4.heap.objs.size < p.1 ∧ s6.heap.get? p.1 = some p.2 ∧ ∀ v, p.2.data ≠ .cell v := fun p hp => by
    rcases List.mem_cons.mp hp with z | z
    · rw [z]
      exact ⟨M.lt, keep _ _ M.obj, M.dat⟩
    · obtain ⟨h1, h2, h3⟩ := hpl p z
      exact ⟨Nat.lt_of_lt_of_le (Nat.lt_trans M.lt M.top) h1, h2, h3⟩
  have PO : PinsOk (gcx X N scope code B s4 H2 fp) fp ((a, go) :: pl) := ⟨fun p hp => Nat.le_of_lt (each p hp).1, fun p hp => (lt4 _ (each p hp).1).2.2.1, fun p hp => (lt4 _ (each p hp).1).2.2.2.1, fun p hp => (lt4 _ (each p hp).1).2.2.2.2⟩
  have I6 : ∀ (s' : Shared), s'.os = s4.os → AllBare s'.gens → s'.heap = s6.heap → Inv (gcx X N scope code B s4 H2 fp) ((a, go) :: pl) (gsl σ src) H2 s' := fun s' h1 h2 h3 =>
    (I5 s' h1 h2 h3).pins_of fun p hp => ⟨by rw [h3]; exact (each p hp).2.1, (lt4 _ (each p hp).1).1, (lt4 _ (each p hp).1).2.2.1, (lt4 _ (each p hp).1).2.1, (each p hp).2.2⟩
  have e6 := hg.trans M.fresh
  refine ⟨keep _ _ M.obj, I.nolimit.keeps kp, _, e6, rfl, ?_⟩
  exact g_begin (elt := elt) (iter := iter) (ifs := ifs) (pos := gpos) ok.co hh T pg pt pe turn hmn w (I6 _ (os.trans M.os) (allBare_setGen (s := s6) bare rfl) rfl) PO hPn (fun p hp => (each p hp).2.1) (T.keep _ _ _ st fun b _ o e => keep b o e) fun b hb => (hfp b hb).1.1
end
end Gx

set_option Elab.async false
set_option linter.all false
set_option maxRecDepth 100000
set_option maxHeartbeats 4000000
/-! Gr: the rules: all(..), any(..), sum(..), tuple(..) of a generator expression. -/
namespace Gx
open PySem PySem.Spec PyProof.Rows L2 GenW
section
variable {X : Cx} {scope : Scope} {N : List Str} {src : List (Option Nat)} {c P : Addr}
variable {elt tg iter : Expr} {ifs : List Expr} {p pos gpos : Pos} {wi : TI} {g : TG} {tt : TT} {te : TE} {vs : List Nat} {k : Nat}
/-- the reading: the walked thing, then the turns -/
def tGen (P : Addr) (wi : TI) (g : TG) (tt : TT) (te : TE) (vs : List Nat) (src : List (Option Nat)) (post : VK → TPost) (fin : VK → List V → Hp → Prop) : TE := fun σ H Q => wi σ H fun J H1 => TabG H1 P ∧ ∀ H2, Tabbed P H1 H2 →
  ∃ W : Nat → Nat → List V → Hp → Prop, (∃ m, W 0 m [] H2) ∧ GTurn J g tt te vs (gsl σ src) (post Q) (fin Q) W
abbrev tGAll (P : Addr) (wi : TI) (g : TG) (tt : TT) (te : TE) (vs : List Nat) (src : List (Option Nat)) : TE := tGen P wi g tt te vs src (fun Q => pAll fun H => Q (.bl false) H) fun Q _ H => Q (.bl true) H
abbrev tGAny (P : Addr) (wi : TI) (g : TG) (tt : TT) (te : TE) (vs : List Nat) (src : List (Option Nat)) : TE := tGen P wi g tt te vs src (fun Q => pAny fun H => Q (.bl true) H) fun Q _ H => Q (.bl false) H
abbrev tGSum (P : Addr) (wi : TI) (g : TG) (tt : TT) (te : TE) (vs : List Nat) (src : List (Option Nat)) : TE := tGen P wi g tt te vs src (fun _ => pSum) fun Q ys H => ∀ ns : List Int, ys = ns.map V.int → Q (.int ns.sum) H
abbrev tGTup (P : Addr) (wi : TI) (g : TG) (tt : TT) (te : TE) (vs : List Nat) (src : List (Option Nat)) : TE := tGen P wi g tt te vs src (fun _ => pTup) fun Q ys H => ∀ p, H p = none → Q (.ref p) (upd H p (.tup ys))

/-- all that a rule asks of the generator expression's parts -/
structure GParts (X : Cx) (k : Nat) (scope : Scope) (N : List Str) (tg : Expr) (ifs : List Expr) (elt : Expr) (g : TG) (tt : TT) (te : TE) : Prop where
  tg : ∀ (B : Around) (s : Shared) (H : Hp) (fp : List Addr) (code : Value), Room k B → PG (gcx X N scope code B s H fp) tg g
  ifs : ∀ (B : Around) (s : Shared) (H : Hp) (fp : List Addr) (code : Value), Room k B → PTs (gcx X N scope code B s H fp) ifs tt
  elt : ∀ (B : Around) (s : Shared) (H : Hp) (fp : List Addr) (code : Value), Room k B → PE (gcx X N scope code B s H fp) elt te

theorem pe_gall (G : GParts X k scope N tg ifs elt g tt te) (hr : Room (k + 2) X.A) (hg : Gl X "all") (hm : X.mg "all" = none) (TB : TabB X.base X.mg c P) (hcode : X.env.code = .ref c) (ok : GOk X.N X.env.scope scope N src) (hi : PI X tg iter wi)
    (hs : ∀ v, genFold iter X.env v = pure v := by intro _; rfl) (hb : bootBuiltins "all" = some (.builtin "all") := by decide +kernel)
    (he : starEach [.GeneratorExp elt [⟨tg, iter, ifs, 0⟩] scope gpos] X.env = (false, eval (.GeneratorExp elt [⟨tg, iter, ifs, 0⟩] scope gpos) X.env) :: starEach [] X.env := by rfl) :
    PE X (.Call (.Name "all" p) [.GeneratorExp elt [⟨tg, iter, ifs, 0⟩] scope gpos] [] pos) (tGAll P wi g tt te vs src) := by
  refine ⟨fun pins s σ H Q I h => ?_⟩
  refine wpAny_Call_Name_kw (ld_blt I hg hm hb ?_)
  refine PyProof.Rows.callWith_builtin1 ?_ he (by rfl)
  rw [he]
  show wpAny _ _ (spliced ((false, eval (.GeneratorExp elt [⟨tg, iter, ifs, 0⟩] scope gpos) X.env) :: backTo pos (starEach [] X.env))) _ _ s
  refine Calls.spliced_cons (gen_make (gpos := gpos) (elt := elt) (ifs := ifs) hr TB hcode ok hi hs I h fun it fp tn J H1 H2 s4 code a go gi s5 q hT I4 T st hfp M => ?_)
  obtain ⟨W, ⟨m, w0⟩, turn⟩ := q H2 hT
  refine Calls.spliced_nil ?_
  have hB : Room k X.A.in1.in1 := hr.in1.in1
  refine call_function_tree F.kind_all F.plain_all F.entry_all (F.args_all1 _) ?_
  unfold Builtin.«all»
  refine wpAny_bind (m := oneArg "all" _) (wpAny_pure ?_)
  refine wpAny_bind (wpAny_pyIter_gen (M.gen _ M.obj) ?_)
  refine wpAny_pure ⟨plainId_quiet F.plain_all_loop _, drain_all (Fin := fun _ H => Q (.bl true) H) (Qf := fun H => Q (.bl false) H) hr.hd hr.depth M.gen (fun s' ys H b q => ?_) (fun s' H b q => ?_) (m + 1) s5
    (M.ready ok I4 T st hfp (show X.A.in1.in1.frames = some X.stack from I4.ok.frames) hB.hd (G.tg _ _ _ _ _ hB) (G.ifs _ _ _ _ _ hB) (G.elt _ _ _ _ _ hB) turn (Nat.lt_succ_self _) w0 rfl M.bare (fun _ _ e => e) rfl (pl := []) (fun p hp => by simp at hp) rfl)⟩
  · exact ⟨.bl true, H, b.inv I4 fun b hb => (hfp b hb).1, rfl, q⟩
  · exact ⟨.bl false, H, b.inv I4 fun b hb => (hfp b hb).1, rfl, q⟩

theorem pe_gany (G : GParts X k scope N tg ifs elt g tt te) (hr : Room (k + 2) X.A) (hg : Gl X "any") (hm : X.mg "any" = none) (TB : TabB X.base X.mg c P) (hcode : X.env.code = .ref c) (ok : GOk X.N X.env.scope scope N src) (hi : PI X tg iter wi)
    (hs : ∀ v, genFold iter X.env v = pure v := by intro _; rfl) (hb : bootBuiltins "any" = some (.builtin "any") := by decide +kernel)
    (he : starEach [.GeneratorExp elt [⟨tg, iter, ifs, 0⟩] scope gpos] X.env = (false, eval (.GeneratorExp elt [⟨tg, iter, ifs, 0⟩] scope gpos) X.env) :: starEach [] X.env := by rfl) :
    PE X (.Call (.Name "any" p) [.GeneratorExp elt [⟨tg, iter, ifs, 0⟩] scope gpos] [] pos) (tGAny P wi g tt te vs src) := by
  refine ⟨fun pins s σ H Q I h => ?_⟩
  refine wpAny_Call_Name_kw (ld_blt I hg hm hb ?_)
  refine PyProof.Rows.callWith_builtin1 ?_ he (by rfl)
  rw [he]
  show wpAny _ _ (spliced ((false, eval (.GeneratorExp elt [⟨tg, iter, ifs, 0⟩] scope gpos) X.env) :: backTo pos (starEach [] X.env))) _ _ s
  refine Calls.spliced_cons (gen_make (gpos := gpos) (elt := elt) (ifs := ifs) hr TB hcode ok hi hs I h fun it fp tn J H1 H2 s4 code a go gi s5 q hT I4 T st hfp M => ?_)
  obtain ⟨W, ⟨m, w0⟩, turn⟩ := q H2 hT
  refine Calls.spliced_nil ?_
  have hB : Room k X.A.in1.in1 := hr.in1.in1
  refine call_function_tree F.kind_any F.plain_any F.entry_any (F.args_any1 _) ?_
  unfold Builtin.«any»
  refine wpAny_bind (m := oneArg "any" _) (wpAny_pure ?_)
  refine wpAny_bind (wpAny_pyIter_gen (M.gen _ M.obj) ?_)
  refine wpAny_pure ⟨plainId_quiet F.plain_any_loop _, drain_any (Fin := fun _ H => Q (.bl false) H) (Qt := fun H => Q (.bl true) H) hr.hd hr.depth M.gen (fun s' ys H b q => ?_) (fun s' H b q => ?_) (m + 1) s5
    (M.ready ok I4 T st hfp (show X.A.in1.in1.frames = some X.stack from I4.ok.frames) hB.hd (G.tg _ _ _ _ _ hB) (G.ifs _ _ _ _ _ hB) (G.elt _ _ _ _ _ hB) turn (Nat.lt_succ_self _) w0 rfl M.bare (fun _ _ e => e) rfl (pl := []) (fun p hp => by simp at hp) rfl)⟩
  · exact ⟨.bl false, H, b.inv I4 fun b hb => (hfp b hb).1, rfl, q⟩
  · exact ⟨.bl true, H, b.inv I4 fun b hb => (hfp b hb).1, rfl, q⟩

theorem pe_gsum (G : GParts X k scope N tg ifs elt g tt te) (hr : Room (k + 2) X.A) (hg : Gl X "sum") (hm : X.mg "sum" = none) (TB : TabB X.base X.mg c P) (hcode : X.env.code = .ref c) (ok : GOk X.N X.env.scope scope N src) (hi : PI X tg iter wi)
    (hs : ∀ v, genFold iter X.env v = pure v := by intro _; rfl) (hb : bootBuiltins "sum" = some (.builtin "sum") := by decide +kernel)
    (he : starEach [.GeneratorExp elt [⟨tg, iter, ifs, 0⟩] scope gpos] X.env = (false, eval (.GeneratorExp elt [⟨tg, iter, ifs, 0⟩] scope gpos) X.env) :: starEach [] X.env := by rfl) :
    PE X (.Call (.Name "sum" p) [.GeneratorExp elt [⟨tg, iter, ifs, 0⟩] scope gpos] [] pos) (tGSum P wi g tt te vs src) := by
  refine ⟨fun pins s σ H Q I h => ?_⟩
  refine wpAny_Call_Name_kw (ld_blt I hg hm hb ?_)
  refine PyProof.Rows.callWith_builtin1 ?_ he (by rfl)
  rw [he]
  show wpAny _ _ (spliced ((false, eval (.GeneratorExp elt [⟨tg, iter, ifs, 0⟩] scope gpos) X.env) :: backTo pos (starEach [] X.env))) _ _ s
  refine Calls.spliced_cons (gen_make (gpos := gpos) (elt := elt) (ifs := ifs) hr TB hcode ok hi hs I h fun it fp tn J H1 H2 s4 code a go gi s5 q hT I4 T st hfp M => ?_)
  obtain ⟨W, ⟨m, w0⟩, turn⟩ := q H2 hT
  refine Calls.spliced_nil ?_
  have hB : Room k X.A.in1.in1 := hr.in1.in1
  refine call_function_tree F.kind_sum F.plain_sum F.entry_sum (F.args_sum1 _) ?_
  unfold Builtin.«sum»
  simp only [List.length_cons, List.length_nil]
  rw [if_neg (by decide)]
  refine wpAny_bind (wpAny_of_eq (show Builtin.Builtins.bindParams "sum" ["start"] 0 { } = pure [none] from rfl) ?_)
  refine wpAny_bind (wpAny_pyIter_gen (M.gen _ M.obj) ?_)
  refine wpAny_bind (wpAny_mkInt ?_)
  refine wpAny_bind (wpAny_pure ?_)
  simp only [List.forIn_cons, List.forIn_nil]
  refine wpAny_bind (wpAny_bind (wpAny_bind (wpAny_isInstance (T := "int") (b := false) (typeIs_int _ _ _) PySem.sub_int_str ?_)))
  simp only [Bool.false_eq_true, if_false]
  refine wpAny_pure (wpAny_bind (wpAny_bind (wpAny_isInstance (T := "int") (b := false) (typeIs_int _ _ _) PySem.sub_int_bytes ?_)))
  simp only [Bool.false_eq_true, if_false]
  refine wpAny_pure (wpAny_bind (wpAny_bind (wpAny_isInstance (T := "int") (b := false) (typeIs_int _ _ _) PySem.sub_int_bytearray ?_)))
  simp only [Bool.false_eq_true, if_false]
  refine wpAny_pure (wpAny_pure ?_)
  refine wpAny_bind (wpAny_newObj_type ?_)
  have hcl : cStatics < s5.heap.objs.size := by
    obtain ⟨_, hn, _⟩ := I4.nolimit.keeps M.keep
    exact hn.lt
  have hSobj : (s5.heap.push { cls := .type "list", data := .seq [Value.int 0 s5.toks].toArray }).get? s5.heap.objs.size = some (sumObj 0 s5.toks 0) := Heap.get?_push_size _ rfl
  refine wpAny_pure ⟨plainId_quiet F.plain_sum_loop _, drain_sum (S := s5.heap.objs.size) (Fin := fun ys H => ∀ ns : List Int, ys = ns.map V.int → Q (.int ns.sum) H) hr.hd hr.depth M.gen (Nat.ne_of_gt M.top) (Nat.ne_of_gt hcl) (fun s' ns H t b q => ?_) (m + 1) _ 0 0 s5.toks 0 (.inl rfl) hSobj
    (M.ready ok I4 T st hfp (show X.A.in1.in1.frames = some X.stack from I4.ok.frames) hB.hd (G.tg _ _ _ _ _ hB) (G.ifs _ _ _ _ _ hB) (G.elt _ _ _ _ _ hB) turn (Nat.lt_succ_self _) w0 rfl M.bare (fun _ _ e => Heap.get?_push_of_some _ e) rfl (pl := [(s5.heap.objs.size, sumObj 0 s5.toks 0)]) (fun p hp => ?_) ⟨[], s5.toks, 0, rfl, rfl⟩)⟩
  · exact ⟨.int ns.sum, H, b.inv I4 fun b hb => (hfp b hb).1, ⟨t, rfl⟩, q ns rfl⟩
  · rw [List.mem_singleton.mp hp]
    exact ⟨Nat.le_refl _, hSobj, fun v q => by cases q⟩

theorem collect_gx {B : Around} {pins : List (Addr × Obj)} {σ : L2.St} {H2 : Hp} {s4 s5 : Shared} {code : Value} {it a : Addr} {go : Obj} {gi m : Nat} {fp : List Addr} {tn : Nat → Heap → Prop} {J : It} {Fin : List V → Hp → Prop} {W : Nat → Nat → List V → Hp → Prop}
    {Q : List Value → Shared → Prop} {E : Value → Shared → Prop}
    (G : GParts X k scope N tg ifs elt g tt te) (M : Made X scope elt tg iter ifs gpos s4 code it a go gi s5) (ok : GOk X.N X.env.scope scope N src) (I4 : Inv X pins σ H2 s4) (T : Turn X.prog X.w X.K tg J fp it tn) (st : tn 0 s5.heap)
    (hfp : ∀ b ∈ fp, FpOk X pins H2 b ∧ b < s4.heap.objs.size) (hB : B.frames = some X.stack) (hr : Room (k + 2) B) (turn : GTurn J g tt te vs (gsl σ src) pTup Fin W) (w0 : W 0 m [] H2)
    (hQ : ∀ s' ys H acc, Back X H2 s4 fp H s' → Fin ys H → Vals ys acc → ys.length ≤ sizeLine → Q acc s') : wpAny (model X.prog X.w) B (collect (.ref a)) Q E s5 := by
  have hBr : Room k B.in1.in1 := hr.in1.in1
  have hSI : s5.heap.objs.size ≠ a := Nat.ne_of_gt M.top
  unfold collect
  refine wpAny_bind (wpAny_runValue (codeAny_builtin F.entry_proto_collect ?_))
  rw [Around.under_plainId F.plain_proto_collect _]
  show wpAny _ B.in1 (newList [] >>= fun l => again (.builtin "list.__iadd__" ⟨[l, .ref a], []⟩)) _ _ s5
  refine wpAny_bind (wpAny_newObj_type ?_)
  refine wpAny_pure ⟨plainId_quiet F.plain_list_iadd _, codeAny_builtin F.entry_list_iadd ?_⟩
  rw [Around.under_plainId F.plain_list_iadd _]
  have k1 : ∀ b o, s5.heap.get? b = some o → (s5.heap.push { cls := .type "list", data := .seq ([] : List Value).toArray }).get? b = some o := fun b o e => Heap.get?_push_of_some _ e
  have gty : ∀ {h : Heap}, (∀ b o, s5.heap.get? b = some o → h.get? b = some o) → h.IsGen a gi := fun {h} q => M.gen _ (q _ _ M.obj)
  show wpAny _ B.in1 (Builtin.List.listExtendWith (.ref s5.heap.objs.size) (.ref a) (.ref s5.heap.objs.size)) _ _ _
  unfold Builtin.List.listExtendWith
  refine wpAny_bind (wpAny_typeOf (Heap.IsGen.typeIs (s := { s5 with heap := _ }) (gty k1)) ?_)
  have h1 : Builtin.List.listSameRef (.ref s5.heap.objs.size) (.ref a) = false := by simp [Builtin.List.listSameRef, hSI]
  have h2 : (Value.type "generator" == Value.type "list") = false := by decide
  have h3 : (Value.type "generator" == Value.type "tuple") = false := by decide
  simp only [h1, h2, h3, Bool.or_false, Bool.false_eq_true, if_false]
  refine wpAny_bind (wpAny_pyIter_gen (s := { s5 with heap := _ }) (gty k1) ?_)
  refine wpAny_bind (wpAny_holding ?_)
  unfold Builtin.List.listLengthHint
  refine wpAny_bind (wpAny_specialOf (Heap.IsGen.typeIs (s := { s5 with heap := _ }) (gty k1)) F.gen_no_len ?_)
  show wpAny _ B.in1 (specialOf (Value.ref a) (Str.ofString "__length_hint__") >>= _) _ _ _
  refine wpAny_bind (wpAny_specialOf (Heap.IsGen.typeIs (s := { s5 with heap := _ }) (gty k1)) F.gen_no_hint ?_)
  refine wpAny_pure ?_
  show wpAny _ B.in1 (rule "list.extend.makes-room" >>= fun _ => Builtin.List.listTouch (.ref s5.heap.objs.size) >>= fun _ =>
    again (.builtin "list.extend.loop" ⟨[.ref s5.heap.objs.size, .ref a, .ref s5.heap.objs.size], []⟩)) _ _ _
  refine wpAny_bind (wpAny_rule ?_)
  have hS₁ : (s5.heap.push { cls := .type "list", data := .seq ([] : List Value).toArray }).get? s5.heap.objs.size = some { cls := .type "list", data := .seq ([] : List Value).toArray } := Heap.get?_push_size _ rfl
  refine wpAny_bind ?_
  show wpAny _ B.in1 (updateSeq s5.heap.objs.size (·.push .none) >>= fun _ => updateSeq s5.heap.objs.size (·.pop)) _ _ _
  refine wpAny_bind (wpAny_updateSeq hS₁ rfl ?_)
  have hS₂ := Heap.get?_update_self (Obj.mapSeq (·.push Value.none)) hS₁ rfl
  refine wpAny_updateSeq hS₂ rfl ?_
  have hS₃ := Heap.get?_update_self (Obj.mapSeq (·.pop)) hS₂ rfl
  obtain ⟨c0, hS4⟩ : ∃ c0, (((s5.heap.push { cls := .type "list", data := .seq ([] : List Value).toArray }).update s5.heap.objs.size (Obj.mapSeq (·.push Value.none))).update s5.heap.objs.size (Obj.mapSeq (·.pop))).get? s5.heap.objs.size = some (lstObj #[] c0) := ⟨_, hS₃⟩
  have oth : ∀ b o, s5.heap.get? b = some o →
      (((s5.heap.push { cls := .type "list", data := .seq ([] : List Value).toArray }).update s5.heap.objs.size (Obj.mapSeq (·.push Value.none))).update s5.heap.objs.size (Obj.mapSeq (·.pop))).get? b = some o :=
    fun b o e => (Heap.get?_update_other _ _ (Ne.symm (Nat.ne_of_lt (Heap.lt_size e)))).trans ((Heap.get?_update_other _ _ (Ne.symm (Nat.ne_of_lt (Heap.lt_size e)))).trans (k1 b o e))
  have hcl : cStatics < s5.heap.objs.size := by
    obtain ⟨_, hn, _⟩ := I4.nolimit.keeps M.keep
    exact hn.lt
  refine wpAny_pure ⟨plainId_quiet F.plain_extend_loop _, drain_tup (S := s5.heap.objs.size) (Fin := Fin) hr.hd hr.depth M.gen hSI (Nat.ne_of_gt hcl) (fun s' ys H acc c b q hv hle hS' => ?_) (m + 1) _
    (M.ready ok I4 T st hfp hB hBr.hd (G.tg _ _ _ _ _ hBr) (G.ifs _ _ _ _ _ hBr) (G.elt _ _ _ _ _ hBr) turn (Nat.lt_succ_self _) w0 rfl M.bare oth rfl (pl := [(s5.heap.objs.size, lstObj #[] c0)]) (fun p hp => ?_) ⟨#[], c0, .nil, Nat.zero_le _, rfl⟩)⟩
  · show wpAny _ B (load s5.heap.objs.size >>= _) _ _ s'
    refine wpAny_bind (wpAny_load hS' ?_)
    exact wpAny_pure (hQ s' ys H acc.toList b q hv hle)
  · rw [List.mem_singleton.mp hp]
    exact ⟨Nat.le_refl _, hS4, fun v q => by cases q⟩

theorem code_tuple_gx {B : Around} {pins : List (Addr × Obj)} {σ : L2.St} {H2 : Hp} {s4 s5 : Shared} {code : Value} {it a : Addr} {go : Obj} {gi m : Nat} {fp : List Addr} {tn : Nat → Heap → Prop} {J : It} {Fin : List V → Hp → Prop} {W : Nat → Nat → List V → Hp → Prop}
    {Q₁ : Value → Shared → Prop} {E : Value → Shared → Prop}
    (G : GParts X k scope N tg ifs elt g tt te) (M : Made X scope elt tg iter ifs gpos s4 code it a go gi s5) (ok : GOk X.N X.env.scope scope N src) (I4 : Inv X pins σ H2 s4) (T : Turn X.prog X.w X.K tg J fp it tn) (st : tn 0 s5.heap)
    (hfp : ∀ b ∈ fp, FpOk X pins H2 b ∧ b < s4.heap.objs.size) (hB : B.frames = some X.stack) (hr : Room (k + 3) B) (turn : GTurn J g tt te vs (gsl σ src) pTup Fin W) (w0 : W 0 m [] H2)
    (hQ : ∀ s' ys H (acc : List Value), Back X H2 s4 fp H s' → Fin ys H → Vals ys acc → ys.length ≤ sizeLine → Q₁ (.ref s'.heap.objs.size) { s' with heap := s'.heap.push { cls := .type "tuple", data := .seq acc.toArray } }) :
    codeAny (model X.prog X.w) B (.call (.builtin "tuple.__new__") ⟨[.type "tuple", .ref a], []⟩) (wants Q₁ E) s5 := by
  refine codeAny_of_tree ?_
  show wpAny _ B.in1 (do checkBuiltinCall "tuple.__new__" ⟨[.type "tuple", .ref a], []⟩; again (.builtin "tuple.__new__" ⟨[.type "tuple", .ref a], []⟩)) _ _ s5
  refine wpAny_bind (wpAny_of_eq (F.newCall_tuple_1 _) (wpAny_pure ⟨plainId_quiet F.plain_tuple_new _, codeAny_builtin F.entry_tuple_new ?_⟩))
  rw [Around.under_plainId F.plain_tuple_new _]
  have hsub := sub_tuple_self
  have hinit := init_tuple_lookup
  have hmh := madeHere_tuple
  have hTI : s5.TypeIs (.ref a) "generator" := Heap.IsGen.typeIs (s := s5) (M.gen _ M.obj)
  wp_walk using wpAny_typeOf hTI, collect_gx (B := B.in1) (Fin := Fin) G M ok I4 T st hfp hB hr.in1 turn w0
  intro s' ys H acc hb hf hv hle
  show wpAny _ _ (Builtin.Tuple.tupleExact acc.toArray >>= fun v => ret v) _ _ _
  unfold Builtin.Tuple.tupleExact
  have hl := hv.length
  refine wpAny_bind (wpAny_newObj_type ?_ (by show acc.toArray.size ≤ sizeLine; simp only [List.size_toArray]; omega))
  exact wpAny_pure (hQ s' ys H acc hb hf hv hle)

theorem pe_gtup (G : GParts X k scope N tg ifs elt g tt te) (hr : Room (k + 4) X.A) (hg : Gl X "tuple") (hm : X.mg "tuple" = none) (TB : TabB X.base X.mg c P) (hcode : X.env.code = .ref c) (ok : GOk X.N X.env.scope scope N src) (hi : PI X tg iter wi)
    (hs : ∀ v, genFold iter X.env v = pure v := by intro _; rfl) (hb : bootBuiltins "tuple" = some (.type "tuple") := by decide +kernel)
    (he : starEach [.GeneratorExp elt [⟨tg, iter, ifs, 0⟩] scope gpos] X.env = (false, eval (.GeneratorExp elt [⟨tg, iter, ifs, 0⟩] scope gpos) X.env) :: starEach [] X.env := by rfl) :
    PE X (.Call (.Name "tuple" p) [.GeneratorExp elt [⟨tg, iter, ifs, 0⟩] scope gpos] [] pos) (tGTup P wi g tt te vs src) := by
  refine ⟨fun pins s σ H Q I h => ?_⟩
  refine wpAny_Call_Name_kw (ld_blt I hg hm hb ?_)
  refine PyProof.Rows.callWith_type1 ?_ he (by rfl)
  rw [he]
  show wpAny _ _ (spliced ((false, eval (.GeneratorExp elt [⟨tg, iter, ifs, 0⟩] scope gpos) X.env) :: backTo pos (starEach [] X.env))) _ _ s
  refine Calls.spliced_cons (gen_make (gpos := gpos) (elt := elt) (ifs := ifs) hr TB hcode ok hi hs I h fun it fp tn J H1 H2 s4 code a go gi s5 q hT I4 T st hfp M => ?_)
  obtain ⟨W, ⟨m, w0⟩, turn⟩ := q H2 hT
  refine Calls.spliced_nil ?_
  refine callType_codes (Q₁ := fun obj s₁ => s₁.TypeIs obj "tuple" ∧ EP X pins σ Q obj s₁) F.called_tuple (F.typeCall_tuple_1 _) F.entry_object_init
    (code_tuple_gx (Fin := fun ys H => ∀ p, H p = none → Q (.ref p) (upd H p (.tup ys))) G M ok I4 T st hfp (show X.A.in1.frames = some X.stack from I4.ok.frames) hr.in1 turn w0 fun s' ys H acc b q hv hle => ⟨⟨_, Heap.get?_push_size _ rfl, rfl⟩, ?_⟩) fun obj s₁ h₁ => ?_
  · have I5 := b.inv I4 fun b hb => (hfp b hb).1
    exact ⟨.ref s'.heap.objs.size, _, I5.laid (t' := s'.toks) (fun b o e => Heap.get?_push_of_some _ e) (Nat.le_refl _) (show ObjOk X.prog X.w _ _ _ (.tup ys) from ⟨hle, acc, hv, IsTup.new _ _⟩), rfl, q _ (I5.hok.fresh (Nat.le_refl _))⟩
  · exact ⟨h₁.1, F.args_object_init_2 obj _, object_init_meets F.called_tuple.init.lookup F.called_tuple.made (by decide) X.prog X.w X.A.in1 _ s₁ ⟨h₁.1, rfl, h₁.2⟩⟩
end
end Gx

set_option Elab.async false
set_option linter.all false
set_option maxRecDepth 100000
set_option maxHeartbeats 4000000
/-! Bx: further small rules over the layer: == and != of types, xs[i] op= e, the heap up to tables. -/
namespace Bx
open PySem PySem.Spec PyProof.Rows L2

/-! ### == and != of two built-in types -/
theorem slot_type_ne : Slot "type" (cmpInfo .NotEq).2.1 "object.__ne__" :=
  .of (owner := "object") (n := "__ne__") (by rw [typeLookup_type, builtinLookup_eq_fast]; kernel_rfl) (by decide +kernel) (by decide +kernel) (by decide +kernel)
    (by first | exact .inl (by decide +kernel) | exact .inr (by decide +kernel)) (by rw [isSubtype_type]; kernel_rfl)
theorem slot_type_ne_refl : Slot "type" (cmpInfo .NotEq).2.2 "object.__ne__" :=
  .of (owner := "object") (n := "__ne__") (by rw [typeLookup_type, builtinLookup_eq_fast]; kernel_rfl) (by decide +kernel) (by decide +kernel) (by decide +kernel)
    (by first | exact .inl (by decide +kernel) | exact .inr (by decide +kernel)) (by rw [isSubtype_type]; kernel_rfl)
theorem slot_type_eq' : Slot "type" (Str.ofString "__eq__") "object.__eq__" := TypeEq.slot_type_eq
section
variable {prog : Program} {w : World} {A : Around} {E : Value → Shared → Prop} {s : Shared}
theorem call_ne_types {Y Z : String} {Q : Value → Shared → Prop} (hX : ∀ s' : Shared, s'.TypeIs (.type Y) "type")
    (hc : wpAny (model prog w) A.in1 (call (.builtin "object.__eq__") [.type Y, .type Z]) (fun v s' => (v = .notImplemented ∧ Q .notImplemented s') ∨ ∃ b, v = .bool b ∧ Q (.bool (!b)) s') E s) :
    wpAny (model prog w) A (call (.builtin "object.__ne__") [.type Y, .type Z]) Q E s := by
  refine wpAny_call (codeAny_call_builtin slot_type_ne.plain F.cmpEntry_ne (slot_type_ne.check _ _ _ _ _ _ _ _ (hX s) (F.cmpArgs_ne _ _) ?_))
  unfold Builtin.«object.__ne__»
  refine wpAny_bind (wpAny_pure ?_)
  show wpAny _ _ (cRoomFor "comparison" [.type Y, .type Z] >>= _) _ _ _
  refine wpAny_bind (wpAny_cRoomFor_byValue rfl ?_)
  refine wpAny_bind (wpAny_callSpecialIfBound?_slot (name := Str.ofString "__eq__") (hX s) slot_type_eq' (wpAny_mono hc (fun v s' h => ?_) fun _ _ e => e))
  rcases h with ⟨rfl, q⟩ | ⟨b, rfl, q⟩
  · exact wpAny_pure q
  · show wpAny _ _ (truthy (.bool b) >>= _) _ _ _
    exact wpAny_bind (wpAny_truthy_bool (wpAny_pure q))
theorem ne_type_same {Y : String} {Q : Value → Shared → Prop} (hX : ∀ s' : Shared, s'.TypeIs (.type Y) "type") (h : Q (.bool false) s) : wpAny (model prog w) A (compareOp .NotEq (.type Y) (.type Y)) Q E s := by
  show wpAny _ A (richCompare .NotEq _ _) Q E s
  refine wpAny_richCompare_same (T := "type") (hX s) (hX s) slot_type_ne (call_ne_types hX ?_)
  exact call_gives TypeEq.slot_type_eq (hX s) F.entry_object_eq (F.args_object_eq_2 _ _) (TypeEq.object_eq_same rfl (by simp)) (.inr ⟨true, rfl, (by intro e; cases e), h⟩)
theorem richCompare_ne_decline {a b : Value} {T id : String} {k : Bool} {Q : Value → Shared → Prop} (ha : ∀ s' : Shared, s'.TypeIs a T) (hb : ∀ s' : Shared, s'.TypeIs b T)
    (h1 : Slot T (cmpInfo .NotEq).2.1 id) (h2 : Slot T (cmpInfo .NotEq).2.2 id) (hv : [a, b].any Value.onHeap = false) (hk : isSame a b = pure k)
    (hc : wpAny (model prog w) A (call (.builtin id) [a, b]) (fun v s1 => v = .notImplemented ∧ wpAny (model prog w) A (call (.builtin id) [b, a]) (fun v s2 => v = .notImplemented ∧ Q (.bool (!k)) s2) E s1) E s) :
    wpAny (model prog w) A (richCompare .NotEq a b) Q E s := by
  rcases hi : cmpInfo CmpOp.NotEq with ⟨sym, f, r⟩
  rw [hi] at h1 h2
  simp only [richCompare, hi, (ha s).oneThing_none]
  try with_reducible refine wpAny_holding ?_
  refine wpAny_bind (wpAny_cRoomFor_or (.inl hv) ?_)
  refine wpAny_bind (wpAny_typeOf (ha s) (wpAny_bind (wpAny_typeOf (hb s) ?_)))
  simp only [bne_self_eq_false, Bool.false_eq_true, if_false, pure_bind, Bool.not_false, if_true]
  refine wpAny_bind (m := tryCompare a _ b) (wpAny_tryCompare_declines (ha s) h1 (wpAny_mono hc (fun v s1 h1 => ⟨h1.1, ?_⟩) fun _ _ x => x))
  refine wpAny_bind (m := tryCompare b _ a) (wpAny_tryCompare_declines (hb s1) h2 (wpAny_mono h1.2 (fun v s2 h2 => ⟨h2.1, ?_⟩) fun _ _ x => x))
  refine wpAny_bind (wpAny_rule (wpAny_bind (wpAny_of_eq hk (wpAny_pure h2.2))))
theorem ne_type_other {Y Z : String} {Q : Value → Shared → Prop} (hX : ∀ s' : Shared, s'.TypeIs (.type Y) "type") (hY : ∀ s' : Shared, s'.TypeIs (.type Z) "type") (hne : (Value.type Y == Value.type Z) = false) (h : Q (.bool true) s) :
    wpAny (model prog w) A (compareOp .NotEq (.type Y) (.type Z)) Q E s := by
  have hne' : (Value.type Z == Value.type Y) = false := by
    rw [Bool.eq_false_iff] at hne ⊢
    intro e
    exact hne (by rw [beq_iff_eq] at e ⊢; exact e.symm)
  show wpAny _ A (richCompare .NotEq _ _) Q E s
  refine richCompare_ne_decline (T := "type") (k := false) hX hY slot_type_ne slot_type_ne_refl rfl (by rw [isSame_plain rfl, hne]) (call_ne_types hX ?_)
  refine call_gives TypeEq.slot_type_eq (hX s) F.entry_object_eq (F.args_object_eq_2 _ _) (TypeEq.object_eq_other rfl hne) (.inl ⟨rfl, rfl, call_ne_types hY ?_⟩)
  exact call_gives TypeEq.slot_type_eq (hY s) F.entry_object_eq (F.args_object_eq_2 _ _) (TypeEq.object_eq_other rfl hne') (.inl ⟨rfl, rfl, h⟩)
end
/-- the kinds of plain values -/
def tyNames : List String := ["NoneType", "bool", "int", "str", "tuple", "list"]
theorem meta_of {n : String} (h : n ∈ tyNames) (s : Shared) : s.TypeIs (.type n) "type" := by
  simp only [tyNames, List.mem_cons, List.not_mem_nil, or_false] at h
  rcases h with rfl | rfl | rfl | rfl | rfl | rfl
  · exact TypeEq.meta_NoneType s
  · exact TypeEq.meta_bool s
  · exact TypeEq.meta_int s
  · exact TypeEq.meta_str s
  · exact TypeEq.meta_tuple s
  · exact TypeEq.meta_list s
def rTyC (f : Bool → Bool) : R2 := fun x y H Q => ∃ m n, x = .ty m ∧ y = .ty n ∧ m ∈ tyNames ∧ n ∈ tyNames ∧ Q (.bl (f (decide (m = n)))) H
section
variable {X : Cx}
theorem op_eqTy : OpR X (compareOp .Eq) (rTyC id) := by
  intro pins s σ H x y v u Q I rx ry h
  obtain ⟨m, n, rfl, rfl, hm, hn, q⟩ := h
  cases (show v = Value.type m from rx)
  cases (show u = Value.type n from ry)
  by_cases e : m = n
  · subst e
    rw [decide_eq_true rfl] at q
    exact TypeEq.eq_type_same (meta_of hm) ⟨.bl true, H, I, rfl, q⟩
  · rw [decide_eq_false e] at q
    exact TypeEq.eq_type_other (meta_of hm) (meta_of hn) (by simp [e]) ⟨.bl false, H, I, rfl, q⟩
theorem op_neTy : OpR X (compareOp .NotEq) (rTyC not) := by
  intro pins s σ H x y v u Q I rx ry h
  obtain ⟨m, n, rfl, rfl, hm, hn, q⟩ := h
  cases (show v = Value.type m from rx)
  cases (show u = Value.type n from ry)
  by_cases e : m = n
  · subst e
    rw [decide_eq_true rfl] at q
    exact ne_type_same (meta_of hm) ⟨.bl false, H, I, rfl, q⟩
  · rw [decide_eq_false e] at q
    exact ne_type_other (meta_of hm) (meta_of hn) (by simp [e]) ⟨.bl true, H, I, rfl, q⟩

/-! ### the read of xs[i] op= e -/
def gtList : V → V → Hp → VK → Prop := fun o i H Q => ∃ (l : Addr) (xs : List V) (j : Nat) (x : V), o = .ref l ∧ i = .int j ∧ H l = some (.lst xs) ∧ xs[j]? = some x ∧ Q x H
theorem get_list : PGet X gtList := by
  intro pins s σ H o i ov iv Q I ro ri h
  obtain ⟨l, xs, j, x, rfl, rfl, hl, hx, q⟩ := h
  cases (show ov = Value.ref l from ro)
  obtain ⟨t, rfl⟩ := (show ∃ t, iv = Value.int (j : Int) t from ri)
  obtain ⟨its, rv, p, hz⟩ := I.list (SqL.of hl)
  obtain ⟨u, hu, ru⟩ := rv.get hx
  have hlt : j < xs.length := (List.getElem?_eq_some_iff.mp hx).1
  have hls := rv.length
  refine wpAny_getItem_list p.isList (by omega) (by have : sizeLine < 2 ^ 62 := by decide
                                                    omega) ?_ ⟨x, H, I, ru, q⟩
  simpa using hu
def ipB (f : Int → Int → Int) : TIp := fun x y H Q => ∃ i j, x = .int i ∧ y = .int j ∧ Q (.int (f i j)) H
end

/-! ### heaps: what was tracked stands, tables may have grown -/
def isTbl : HO → Prop
  | .tbl _ => True
  | _ => False
structure Ext (H H' : Hp) : Prop where
  keep : ∀ b o, H b = some o → ¬ isTbl o → H' b = some o
  tabs : ∀ P, Gx.TabG H P → Gx.TabG H' P
  live : ∀ b o, H b = some o → ∃ o', H' b = some o'
theorem Ext.refl (H : Hp) : Ext H H := ⟨fun _ _ e _ => e, fun _ t => t, fun _ o e => ⟨o, e⟩⟩
theorem Ext.trans {H H1 H2 : Hp} (a : Ext H H1) (b : Ext H1 H2) : Ext H H2 := ⟨fun c o e n => b.keep c o (a.keep c o e n) n, fun P t => b.tabs P (a.tabs P t), fun c o e => let ⟨o1, e1⟩ := a.live c o e; b.live c o1 e1⟩
theorem Ext.tabbed {P : Addr} {H H' : Hp} (h : Gx.TabG H P) (t : Gx.Tabbed P H H') : Ext H H' := by
  obtain ⟨t1, t2⟩ := t
  refine ⟨fun b o e n => ?_, fun Q hQ => ?_, fun b o e => ?_⟩
  · by_cases hb : b = P
    · obtain ⟨ps, e2, _⟩ := h
      rw [hb, e2] at e
      cases e
      exact (n trivial).elim
    · rw [t2 b hb]
      exact e
  · by_cases hb : Q = P
    · rw [hb]
      exact t1
    · obtain ⟨ps, e, k⟩ := hQ
      exact ⟨ps, by rw [t2 Q hb]; exact e, k⟩
  · by_cases hb : b = P
    · obtain ⟨ps, e, _⟩ := t1
      exact ⟨_, by rw [hb]; exact e⟩
    · exact ⟨o, by rw [t2 b hb]; exact e⟩
theorem Ext.new {H : Hp} {p : Addr} {o : HO} (h : H p = none) : Ext H (upd H p o) :=
  ⟨fun b u e _ => by rw [upd_ne (ne_of_none e h)]; exact e, fun Q ⟨ps, e, k⟩ => ⟨ps, by rw [upd_ne (ne_of_none e h)]; exact e, k⟩, fun b u e => ⟨u, by rw [upd_ne (ne_of_none e h)]; exact e⟩⟩
/-- a list of ours is written: from the state ahead of its making nothing is seen -/
theorem Ext.write {H H' : Hp} {p : Addr} {o : HO} (x : Ext H H') (h : H p = none) : Ext H (upd H' p o) :=
  ⟨fun b u e n => by rw [upd_ne (ne_of_none e h)]; exact x.keep b u e n, fun Q hQ => by
    obtain ⟨ps, e, k⟩ := x.tabs Q hQ
    obtain ⟨ps0, e0, _⟩ := hQ
    exact ⟨ps, by rw [upd_ne (ne_of_none e0 h)]; exact e, k⟩, fun b u e => by
    obtain ⟨u', e'⟩ := x.live b u e
    exact ⟨u', by rw [upd_ne (ne_of_none e h)]; exact e'⟩⟩
theorem Ext.free {H H' : Hp} (x : Ext H H') {p : Addr} (h : H' p = none) : H p = none := by
  cases e : H p with
  | none => rfl
  | some o =>
    obtain ⟨o', e'⟩ := x.live p o e
    rw [h] at e'
    cases e'
theorem Ext.rd {H H' : Hp} (x : Ext H H') {a : Addr} {u : HO} (n : ¬ isTbl u) (h : Rd H a u) : Rd H' a u := by
  rcases h with h | ⟨o, h⟩
  · exact .inl (x.keep a u h n)
  · exact .inr ⟨o, x.keep a _ h fun z => z⟩
theorem Ext.sqT {K : PySem.W.Frag} {H H' : Hp} (x : Ext H H') {a : Addr} {xs : List V} (h : SqT K H a xs) : SqT K H' a xs := h.elim (fun z => .inl (x.rd (fun z => z) z)) .inr
theorem Ext.sqL {K : PySem.W.Frag} {H H' : Hp} (x : Ext H H') {a : Addr} {xs : List V} (h : SqL K H a xs) : SqL K H' a xs := h.elim (fun z => .inl (x.rd (fun z => z) z)) .inr
theorem Ext.lst {H H' : Hp} (x : Ext H H') {a : Addr} {xs : List V} (h : H a = some (.lst xs)) : H' a = some (.lst xs) := x.keep a _ h fun z => z
theorem Ext.tup {H H' : Hp} (x : Ext H H') {a : Addr} {xs : List V} (h : H a = some (.tup xs)) : H' a = some (.tup xs) := x.keep a _ h fun z => z
mutual
theorem dp_ext {K : PySem.W.Frag} {H H' : Hp} (x : Ext H H') : ∀ {v : V} {d : PyData}, Dp K H v d → Dp K H' v d
  | _, _, .non => .non
  | _, _, .bl b => .bl b
  | _, _, .int i => .int i
  | _, _, .str z => .str z
  | _, _, .lst h hs => .lst (x.sqL h) (dpAll_ext x hs)
  | _, _, .tup h hs => .tup (x.sqT h) (dpAll_ext x hs)
theorem dpAll_ext {K : PySem.W.Frag} {H H' : Hp} (x : Ext H H') : ∀ {vs : List V} {ds : List PyData}, DpAll K H vs ds → DpAll K H' vs ds
  | _, _, .nil => .nil
  | _, _, .cons h hs => .cons (dp_ext x h) (dpAll_ext x hs)
end
theorem dp_tup {K : PySem.W.Frag} {H : Hp} {v : V} {ds : List PyData} (h : Dp K H v (.tuple ds)) : ∃ a xs, v = .ref a ∧ SqT K H a xs ∧ DpAll K H xs ds := by
  cases h with
  | tup h hs => exact ⟨_, _, rfl, h, hs⟩
theorem dp_lst {K : PySem.W.Frag} {H : Hp} {v : V} {ds : List PyData} (h : Dp K H v (.list ds)) : ∃ a xs, v = .ref a ∧ SqL K H a xs ∧ DpAll K H xs ds := by
  cases h with
  | lst h hs => exact ⟨_, _, rfl, h, hs⟩
theorem dp_int {K : PySem.W.Frag} {H : Hp} {v : V} {i : Int} (h : Dp K H v (.int i)) : v = .int i := by cases h; rfl
theorem dpAll_len {K : PySem.W.Frag} {H : Hp} : ∀ {vs : List V} {ds : List PyData}, DpAll K H vs ds → vs.length = ds.length
  | _, _, .nil => rfl
  | _, _, .cons _ hs => congrArg (· + 1) (dpAll_len hs)
theorem dpAll_get {K : PySem.W.Frag} {H : Hp} : ∀ {vs : List V} {ds : List PyData} {i : Nat} {d : PyData}, DpAll K H vs ds → ds[i]? = some d → ∃ v, vs[i]? = some v ∧ Dp K H v d
  | _, _, _, _, .nil, e => by simp at e
  | _, _, 0, _, .cons h _, e => by simp at e; subst e; exact ⟨_, rfl, h⟩
  | _, _, i + 1, d, .cons _ hs, e => by
    obtain ⟨v, h1, h2⟩ := dpAll_get (i := i) (d := d) hs (by simpa using e)
    exact ⟨v, by simpa using h1, h2⟩
theorem dpAll_get' {K : PySem.W.Frag} {H : Hp} : ∀ {vs : List V} {ds : List PyData} {i : Nat} {v : V}, DpAll K H vs ds → vs[i]? = some v → ∃ d, ds[i]? = some d ∧ Dp K H v d
  | _, _, _, _, .nil, e => by simp at e
  | _, _, 0, _, .cons h _, e => by simp at e; subst e; exact ⟨_, rfl, h⟩
  | _, _, i + 1, v, .cons _ hs, e => by
    obtain ⟨d, h1, h2⟩ := dpAll_get' (i := i) (v := v) hs (by simpa using e)
    exact ⟨d, by simpa using h1, h2⟩
theorem dpAll_app {K : PySem.W.Frag} {H : Hp} : ∀ {vs us : List V} {ds es : List PyData}, DpAll K H vs ds → DpAll K H us es → DpAll K H (vs ++ us) (ds ++ es)
  | _, _, _, _, .nil, h => h
  | _, _, _, _, .cons a hs, h => .cons a (dpAll_app hs h)
theorem dpAll_ints {K : PySem.W.Frag} {H : Hp} : ∀ {vs : List V} {ns : List Int}, DpAll K H vs (ns.map .int) → vs = ns.map V.int
  | [], [], _ => rfl
  | _, _ :: _, .cons h hs => by rw [List.map_cons, dp_int h, dpAll_ints hs]
theorem dpAll_of_ints {K : PySem.W.Frag} {H : Hp} : ∀ (ns : List Int), DpAll K H (ns.map V.int) (ns.map .int)
  | [] => .nil
  | n :: ns => .cons (.int n) (dpAll_of_ints ns)
theorem dp_ints {K : PySem.W.Frag} {H : Hp} {v : V} {ns : List Int} (h : Dp K H v (.tuple (ns.map .int))) : ∃ a, v = .ref a ∧ SqT K H a (ns.map V.int) := by
  obtain ⟨a, xs, rfl, h1, h2⟩ := dp_tup h
  exact ⟨a, rfl, by rw [← dpAll_ints h2]; exact h1⟩
/-- a tuple just laid -/
theorem dp_new {K : PySem.W.Frag} {H : Hp} {p : Addr} {vs : List V} {ds : List PyData} (hp : H p = none) (h : DpAll K H vs ds) : Dp K (upd H p (.tup vs)) (.ref p) (.tuple ds) := .tup (SqT.of upd_same) (dpAll_ext (Ext.new hp) h)

/-! ### a def whose code object is known; a callee -/
structure FunC (K : PySem.W.Frag) (x qual : Str) (st : Stmt) (f : Addr) (fd : FuncData) (c : Addr) : Prop where
  ex : ∃ (oc : Value) (od : Option Addr) (kV doc pm : Value) (an : Option Addr) (ct : Value) (osl : Array (Option Value)),
    fd = PySem.W.fnOf x qual (defArgs st) (defBody st) (defScope st) .none kV doc pm an (.ref c) ct ∧ K.lookup f = some ⟨oc, od, .func fd, osl⟩ ∧ PySem.W.codeIn K (.ref c) qual = true
  kp : PySem.W.keepIn K (.ref f) = true
theorem FunC.fun {K : PySem.W.Frag} {x qual : Str} {st : Stmt} {f : Addr} {fd : FuncData} {c : Addr} (F : FunC K x qual st f fd c) : Fun K x qual st f fd :=
  ⟨let ⟨oc, od, kV, doc, pm, an, ct, osl, h⟩ := F.ex; ⟨oc, od, kV, doc, pm, an, .ref c, ct, osl, h⟩, F.kp⟩
section
variable {P : Program} {w : World} {K : PySem.W.Frag} {mg : Str → Option Value} {base : Heap}
theorem FunC.ok {x qual : Str} {st : Stmt} {f : Addr} {fd : FuncData} {c : Addr} {N ps : List Str} {k : Nat} {sp : Sp} (F : FunC K x qual st f fd c) (S : FnScope N ps (defScope st)) (len : ∀ vs H Q E, sp vs H Q E → vs.length = ps.length)
    (hbody : ∀ (A : Around) (outer : List Env) (s : Shared) (H : Hp) (vs : List V) (Q : VK) (E : XK), Room k (A.deeper (envOfC qual (defScope st) s.heap.objs.size f (.ref c))) → sp vs H Q E →
      ∃ t, PSs (cxOf CX0 P w K mg base N qual (defScope st) f (.ref c) A outer s H E).nox (defBody st) t ∧ t { nx := fun _ H' => Q .non H', rt := Q } (start N vs) H) : FnOk P w K mg base CX0 (k + 1) f fd ps sp := by
  obtain ⟨oc, od, kV, doc, pm, an, ct, osl, rfl, lk, hcd⟩ := F.ex
  refine fn_of lk hcd S len fun A outer s H vs Q E hr hsp => ?_
  obtain ⟨t, h, q⟩ := hbody A outer s H vs Q E hr hsp
  exact ⟨t, h.nox, q⟩
/-- a callee by its name: its promise, how its arguments bind -/
structure Cal (P : Program) (w : World) (K : PySem.W.Frag) (mg : Str → Option Value) (base : Heap) (k : Nat) (x : Str) (ps : List Str) (sp : Sp) : Prop where
  ex : ∃ (f : Addr) (fd : FuncData), FnOk P w K mg base CX0 k f fd ps sp ∧ mg x = some (.ref f) ∧ PySem.W.keepIn K (.ref f) = true ∧ Binds K fd ps []
theorem Cal.mono {j k : Nat} {x : Str} {ps : List Str} {sp : Sp} (C : Cal P w K mg base j x ps sp) (h : j ≤ k) : Cal P w K mg base k x ps sp :=
  ⟨let ⟨f, fd, h1, h2⟩ := C.ex; ⟨f, fd, h1.mono h, h2⟩⟩
end
section
variable {X : Cx} {k : Nat} {x : Str} {ps : List Str} {sp : Sp} {p pos : Pos} {e : Expr} {es : List Expr} {t : TA}
theorem pe_cal (C : Cal X.prog X.w X.K X.mg X.base k x ps sp) (hr : Room k X.A) (hg : Gl X x) (ha : PA X (e :: es) t) (hdb : (x == ("__debug__" : Str)) = false := by decide)
    (he : starEach (e :: es) X.env = (false, eval e X.env) :: starEach es X.env := by rfl) (hpl : (backTo pos (starEach es X.env)).any (·.1) = false := by rfl) :
    PE X (.Call (.Name x p) (e :: es) [] pos) (tCall sp [] E0 t) := by
  obtain ⟨f, fd, h1, h2, h3, h4⟩ := C.ex
  exact pe_call h1 hr hg h2 h3 h4 .nil pass0 ha hdb he hpl
end
/-- the built-in names that the text leaves as they are -/
structure Bl (mg : Str → Option Value) : Prop where
  type : mg "type" = none
  len : mg "len" = none
  all : mg "all" = none
  sum : mg "sum" = none
  tuple : mg "tuple" = none
  list : mg "list" = none
  range : mg "range" = none
  int : mg "int" = none
  bool : mg "bool" = none
  str : mg "str" = none
  min : mg "min" = none
  max : mg "max" = none
  sorted : mg "sorted" = none
  isinstance : mg "isinstance" = none
  set : mg "set" = none
abbrev Tabs (ts : List Addr) (H : Hp) : Prop := ∀ P ∈ ts, Gx.TabG H P
theorem Tabs.ext {ts : List Addr} {H H' : Hp} (t : Tabs ts H) (x : Ext H H') : Tabs ts H' := fun P hP => x.tabs P (t P hP)
end Bx

set_option Elab.async false
set_option linter.all false
set_option maxRecDepth 100000
set_option maxHeartbeats 1000000
/-! Mx: masks, lots, and what hangs together: plain mathematics. -/
namespace Mk
/-! ### masks -/
def bits (n m : Nat) : List Nat := (List.range n).filter fun i => m.testBit i
def mask (ps : List Nat) : Nat := (ps.map fun p => 2 ^ p).sum
theorem mem_bits {n m q : Nat} : q ∈ bits n m ↔ q < n ∧ m.testBit q = true := by
  unfold bits
  rw [List.mem_filter, List.mem_range]
theorem lt_of_bit {m n q : Nat} (h : m < 2 ^ n) (hq : m.testBit q = true) : q < n := by
  apply Classical.byContradiction
  intro z
  have := Nat.testBit_lt_two_pow (x := m) (i := q) (Nat.lt_of_lt_of_le h (Nat.pow_le_pow_right (by decide) (by omega)))
  rw [this] at hq
  cases hq
theorem range_pair (n : Nat) : (List.range n).Pairwise (· < ·) := List.pairwise_lt_range
theorem bits_pair (n m : Nat) : (bits n m).Pairwise (· < ·) := (range_pair n).filter _
theorem bits_len (n m : Nat) : (bits n m).length ≤ n := by
  have := List.length_filter_le (fun i => m.testBit i) (List.range n)
  rw [List.length_range] at this
  exact this
/-- ascending lists with the same members are the same -/
theorem asc_ext : ∀ {a b : List Nat}, a.Pairwise (· < ·) → b.Pairwise (· < ·) → (∀ q, q ∈ a ↔ q ∈ b) → a = b
  | [], [], _, _, _ => rfl
  | [], y :: b, _, _, h => absurd ((h y).mpr List.mem_cons_self) (by simp)
  | x :: a, [], _, _, h => absurd ((h x).mp List.mem_cons_self) (by simp)
  | x :: a, y :: b, ha, hb, h => by
    rw [List.pairwise_cons] at ha hb
    have e : x = y := by
      have h1 := (h x).mp List.mem_cons_self
      have h2 := (h y).mpr List.mem_cons_self
      rcases List.mem_cons.mp h1 with z | z
      · exact z
      · rcases List.mem_cons.mp h2 with u | u
        · exact u.symm
        · have := hb.1 x z
          have := ha.1 y u
          omega
    subst e
    congr 1
    refine asc_ext ha.2 hb.2 fun q => ⟨fun hq => ?_, fun hq => ?_⟩
    · rcases List.mem_cons.mp ((h q).mp (List.mem_cons_of_mem _ hq)) with z | z
      · have := ha.1 q hq
        omega
      · exact z
    · rcases List.mem_cons.mp ((h q).mpr (List.mem_cons_of_mem _ hq)) with z | z
      · have := hb.1 q hq
        omega
      · exact z
theorem mask_lt : ∀ {ps : List Nat} {n : Nat}, ps.Pairwise (· < ·) → (∀ p ∈ ps, p < n) → mask ps < 2 ^ n := by
  intro ps
  -- from the greatest on
  have key : ∀ (ps : List Nat) (n : Nat), ps.Pairwise (fun a b => b < a) → (∀ p ∈ ps, p < n) → mask ps < 2 ^ n := by
    intro ps
    induction ps with
    | nil => intro n _ _; exact Nat.two_pow_pos n
    | cons p r ih =>
      intro n hp hn
      rw [List.pairwise_cons] at hp
      have h1 := ih p hp.2 hp.1
      have h2 : p < n := hn p List.mem_cons_self
      have h3 : 2 ^ (p + 1) ≤ 2 ^ n := Nat.pow_le_pow_right (by decide) h2
      have h4 : mask (p :: r) = 2 ^ p + mask r := rfl
      rw [h4]
      rw [Nat.pow_succ] at h3
      omega
  intro n hp hn
  have e : mask ps = mask ps.reverse := by
    unfold mask
    rw [← List.sum_reverse, List.map_reverse]
  rw [e]
  refine key _ n ?_ fun p hq => hn p (List.mem_reverse.mp hq)
  rw [List.pairwise_reverse]
  exact hp
theorem bit_mask : ∀ {ps : List Nat}, ps.Pairwise (· < ·) → ∀ q, (mask ps).testBit q = decide (q ∈ ps) := by
  -- from the greatest on: 2 ^ p + (less)
  have key : ∀ (ps : List Nat), ps.Pairwise (fun a b => b < a) → ∀ q, (mask ps).testBit q = decide (q ∈ ps) := by
    intro ps
    induction ps with
    | nil => intro _ q; simp [mask]
    | cons p r ih =>
      intro hp q
      rw [List.pairwise_cons] at hp
      have hlt : mask r < 2 ^ p := by
        have e : mask r = mask r.reverse := by
          unfold mask
          rw [← List.sum_reverse, List.map_reverse]
        rw [e]
        exact mask_lt (by rw [List.pairwise_reverse]; exact hp.2) fun x hx => hp.1 x (List.mem_reverse.mp hx)
      have h4 : mask (p :: r) = 2 ^ p + mask r := rfl
      rw [h4]
      rcases Nat.lt_trichotomy q p with h | h | h
      · rw [Nat.testBit_two_pow_add_gt h, ih hp.2]
        have : q ≠ p := by omega
        simp [this]
      · subst h
        rw [Nat.testBit_two_pow_add_eq, Nat.testBit_lt_two_pow hlt]
        simp
      · have hlt2 : 2 ^ p + mask r < 2 ^ q := by
          have h3 : 2 ^ (p + 1) ≤ 2 ^ q := Nat.pow_le_pow_right (by decide) h
          rw [Nat.pow_succ] at h3
          omega
        rw [Nat.testBit_lt_two_pow hlt2]
        have h1 : q ≠ p := by omega
        have h2 : q ∉ r := fun z => by
          have := hp.1 q z
          omega
        simp [h1, h2]
  intro ps hp q
  have e : mask ps = mask ps.reverse := by
    unfold mask
    rw [← List.sum_reverse, List.map_reverse]
  rw [e, key _ (by rw [List.pairwise_reverse]; exact hp)]
  simp
theorem bits_mask {n : Nat} {ps : List Nat} (hp : ps.Pairwise (· < ·)) (hn : ∀ p ∈ ps, p < n) : bits n (mask ps) = ps := by
  refine asc_ext (bits_pair _ _) hp fun q => ?_
  rw [mem_bits, bit_mask hp]
  simp only [decide_eq_true_eq]
  exact ⟨fun h => h.2, fun h => ⟨hn q h, h⟩⟩
theorem eq_of_bits {a b : Nat} (h : ∀ q, a.testBit q = true ↔ b.testBit q = true) : a = b := Nat.eq_of_testBit_eq fun q => by
  have := h q
  cases e1 : a.testBit q <;> cases e2 : b.testBit q <;> simp_all
theorem mask_bits {n m : Nat} (h : m < 2 ^ n) : mask (bits n m) = m := eq_of_bits fun q => by
  rw [bit_mask (bits_pair _ _)]
  simp only [decide_eq_true_eq]
  rw [mem_bits]
  exact ⟨fun z => z.2, fun z => ⟨lt_of_bit h z, z⟩⟩
theorem bits_any {n k m : Nat} (h1 : m < 2 ^ n) (h2 : m < 2 ^ k) : bits n m = bits k m := asc_ext (bits_pair _ _) (bits_pair _ _) fun q => by
  rw [mem_bits, mem_bits]
  exact ⟨fun z => ⟨lt_of_bit h2 z.2, z.2⟩, fun z => ⟨lt_of_bit h1 z.2, z.2⟩⟩
theorem lt_of_sub {n r m : Nat} (h : m < 2 ^ n) (s : ∀ q, r.testBit q = true → m.testBit q = true) : r < 2 ^ n := by
  apply Nat.lt_pow_two_of_testBit
  intro i hi
  cases e : r.testBit i with
  | false => rfl
  | true => exact absurd (lt_of_bit h (s i e)) (by omega)
/-! ### the lowest bit -/
theorem and_neg (m : Nat) (h : 0 < m) : ∃ q, m.testBit q = true ∧ (∀ p, p < q → m.testBit p = false) ∧ PySem.Builtin.bitAnd (m : Int) (-(m : Int)) = ((2 ^ q : Nat) : Int) := by
  have key : ∀ (m : Nat), 0 < m → ∃ q, m.testBit q = true ∧ (∀ p, p < q → m.testBit p = false) ∧ m - (m &&& (m - 1)) = 2 ^ q ∧ (m &&& (m - 1)) ≤ m := by
    intro m
    induction m using Nat.strongRecOn with
    | ind m ih =>
    intro h
    rcases Nat.mod_two_eq_zero_or_one m with e | e
    · obtain ⟨k, rfl⟩ : ∃ k, m = 2 * k := ⟨m / 2, by omega⟩
      obtain ⟨q, h1, h2, h3, h4⟩ := ih k (by omega) (by omega)
      have ea : (2 * k &&& (2 * k - 1)) = 2 * (k &&& (k - 1)) := by
        apply Nat.eq_of_testBit_eq
        intro i
        cases i with
        | zero => simp [Nat.testBit_and]
        | succ i =>
          rw [Nat.testBit_and, Nat.testBit_succ, Nat.testBit_succ, Nat.testBit_succ]
          have e1 : 2 * k / 2 = k := by omega
          have e2 : (2 * k - 1) / 2 = k - 1 := by omega
          have e3 : 2 * (k &&& (k - 1)) / 2 = (k &&& (k - 1)) := by omega
          rw [e1, e2, e3, Nat.testBit_and]
      refine ⟨q + 1, ?_, fun p hp => ?_, ?_, ?_⟩
      · rw [Nat.testBit_succ]
        have e1 : 2 * k / 2 = k := by omega
        rw [e1]
        exact h1
      · cases p with
        | zero => simp
        | succ p =>
          rw [Nat.testBit_succ]
          have e1 : 2 * k / 2 = k := by omega
          rw [e1]
          exact h2 p (by omega)
      · rw [ea, Nat.pow_succ]
        omega
      · rw [ea]
        omega
    · refine ⟨0, by simp [Nat.testBit_zero, e], fun p hp => by omega, ?_, ?_⟩
      · have ea : (m &&& (m - 1)) = m - 1 := by
          apply Nat.eq_of_testBit_eq
          intro i
          rw [Nat.testBit_and]
          cases i with
          | zero =>
            have : (m - 1) % 2 = 0 := by omega
            simp [Nat.testBit_zero, this]
          | succ i =>
            rw [Nat.testBit_succ, Nat.testBit_succ]
            have e1 : (m - 1) / 2 = m / 2 := by omega
            rw [e1, Bool.and_self]
        rw [ea]
        omega
      · exact Nat.and_le_left
  obtain ⟨q, h1, h2, h3, h4⟩ := key m h
  refine ⟨q, h1, h2, ?_⟩
  unfold PySem.Builtin.bitAnd PySem.Builtin.bitNot
  have e1 : decide ((0 : Int) ≤ (m : Int)) = true := by simp
  have e2 : decide ((0 : Int) ≤ -(m : Int)) = false := by
    apply decide_eq_false
    omega
  rw [e1, e2]
  show (m : Int) - (((m : Int).toNat &&& (-(-(m : Int)) - 1).toNat : Nat) : Int) = _
  have e3 : (m : Int).toNat = m := Int.toNat_natCast m
  have e4 : (-(-(m : Int)) - 1).toNat = m - 1 := by omega
  rw [e3, e4, ← h3]
  omega

/-! ### graphs -/
def adj (bs : List (Nat × Nat)) (i j : Nat) : Bool := bs.contains (min i j, max i j)
theorem adj_comm (bs : List (Nat × Nat)) (i j : Nat) : adj bs i j = adj bs j i := by
  unfold adj
  rw [Nat.min_comm, Nat.max_comm]
/-- from p to q by borders, within S -/
inductive Conn (bs : List (Nat × Nat)) (S : Nat → Prop) : Nat → Nat → Prop
  | refl {p : Nat} : S p → Conn bs S p p
  | step {p q r : Nat} : Conn bs S p q → adj bs q r = true → S r → Conn bs S p r
section
variable {bs : List (Nat × Nat)} {S T : Nat → Prop} {p q r : Nat}
theorem Conn.fst (h : Conn bs S p q) : S p := by
  induction h with
  | refl h => exact h
  | step _ _ _ ih => exact ih
theorem Conn.snd (h : Conn bs S p q) : S q := by
  cases h with
  | refl h => exact h
  | step _ _ h => exact h
theorem Conn.trans (h1 : Conn bs S p q) (h2 : Conn bs S q r) : Conn bs S p r := by
  induction h2 with
  | refl _ => exact h1
  | step _ a s ih => exact .step ih a s
theorem Conn.one (h1 : S p) (h2 : S q) (a : adj bs p q = true) : Conn bs S p q := .step (.refl h1) a h2
theorem Conn.symm (h : Conn bs S p q) : Conn bs S q p := by
  induction h with
  | refl h => exact .refl h
  | step c a s ih => exact (Conn.one s c.snd (by rw [adj_comm]; exact a)).trans ih
theorem Conn.mono (h : Conn bs S p q) (k : ∀ x, S x → T x) : Conn bs T p q := by
  induction h with
  | refl h => exact .refl (k _ h)
  | step _ a s ih => exact .step ih a (k _ s)
/-- within a part that is closed nothing else is come to -/
theorem Conn.closed (h : Conn bs S p q) (hp : T p) (k : ∀ x y, T x → S y → adj bs x y = true → T y) : Conn bs T p q ∧ T q := by
  induction h with
  | refl _ => exact ⟨.refl hp, hp⟩
  | step _ a s ih =>
    have t := k _ _ ih.2 s a
    exact ⟨.step ih.1 a t, t⟩
end
abbrev In (m : Nat) : Nat → Prop := fun x => m.testBit x = true
/-- r: what is come to from start within m -/
def Rch (bs : List (Nat × Nat)) (m start r : Nat) : Prop := ∀ q, r.testBit q = true ↔ ∃ p, start.testBit p = true ∧ Conn bs (In m) p q
theorem Rch.uniq {bs : List (Nat × Nat)} {m start r r' : Nat} (h : Rch bs m start r) (h' : Rch bs m start r') : r = r' := eq_of_bits fun q => (h q).trans (h' q).symm
/-- the loop of reached: what holds between two turns -/
structure Walk (bs : List (Nat × Nat)) (m start seen fresh : Nat) : Prop where
  st : ∀ q, start.testBit q = true → seen.testBit q = true
  sub : ∀ q, fresh.testBit q = true → seen.testBit q = true
  sound : ∀ q, seen.testBit q = true → ∃ p, start.testBit p = true ∧ Conn bs (In m) p q
  done : ∀ q r, seen.testBit q = true → fresh.testBit q = false → adj bs q r = true → m.testBit r = true → seen.testBit r = true
theorem Walk.begin {bs : List (Nat × Nat)} {m start : Nat} (h : ∀ q, start.testBit q = true → m.testBit q = true) : Walk bs m start start start :=
  ⟨fun _ h => h, fun _ h => h, fun q hq => ⟨q, hq, .refl (h q hq)⟩, fun q r h1 h2 => by rw [h1] at h2; cases h2⟩
theorem Walk.fin {bs : List (Nat × Nat)} {m start seen : Nat} (w : Walk bs m start seen 0) : Rch bs m start seen := fun q => by
  refine ⟨w.sound q, fun h => ?_⟩
  obtain ⟨p, hp, c⟩ := h
  induction c with
  | refl _ => exact w.st _ hp
  | step c a s ih => exact w.done _ _ ih (Nat.zero_testBit _) a s
theorem Walk.turn {bs : List (Nat × Nat)} {m start seen fresh around : Nat} (w : Walk bs m start seen fresh) (ha : ∀ r, around.testBit r = true ↔ ∃ q, fresh.testBit q = true ∧ adj bs q r = true) :
    Walk bs m start (seen ||| (around &&& (m ^^^ seen))) (around &&& (m ^^^ seen)) := by
  have sm : ∀ q, seen.testBit q = true → m.testBit q = true := fun q hq => by
    obtain ⟨p, _, c⟩ := w.sound q hq
    exact c.snd
  have hn : ∀ r, (around &&& (m ^^^ seen)).testBit r = true ↔ around.testBit r = true ∧ m.testBit r = true ∧ seen.testBit r = false := fun r => by
    rw [Nat.testBit_and, Nat.testBit_xor]
    have := sm r
    cases h1 : around.testBit r <;> cases h2 : m.testBit r <;> cases h3 : seen.testBit r <;> simp_all
  refine ⟨fun q hq => ?_, fun q hq => ?_, fun q hq => ?_, fun q r h1 h2 a hr => ?_⟩
  · rw [Nat.testBit_or, w.st q hq]; rfl
  · rw [Nat.testBit_or, hq, Bool.or_true]
  · rw [Nat.testBit_or, Bool.or_eq_true] at hq
    rcases hq with hq | hq
    · exact w.sound q hq
    · obtain ⟨h1, h2, _⟩ := (hn q).mp hq
      obtain ⟨x, h3, h4⟩ := (ha q).mp h1
      obtain ⟨p, hp, c⟩ := w.sound x (w.sub x h3)
      exact ⟨p, hp, .step c h4 h2⟩
  · rw [Nat.testBit_or, h2, Bool.or_false] at h1
    rw [Nat.testBit_or, Bool.or_eq_true]
    cases e : seen.testBit r with
    | true => exact .inl rfl
    | false =>
      right
      rw [hn]
      refine ⟨(ha r).mpr ⟨q, ?_, a⟩, hr, e⟩
      cases ef : fresh.testBit q with
      | true => rfl
      | false =>
        have := w.done q r h1 ef a hr
        rw [this] at e
        cases e
theorem Walk.le {bs : List (Nat × Nat)} {m start seen fresh : Nat} (w : Walk bs m start seen fresh) : seen ≤ m := by
  apply Nat.le_of_testBit
  intro i hi
  obtain ⟨p, _, c⟩ := w.sound i hi
  exact c.snd
theorem or_gt {a b : Nat} (h : a &&& b = 0) (hb : b ≠ 0) : a < a ||| b := by
  have h1 : a ≤ a ||| b := Nat.left_le_or
  rcases Nat.lt_or_eq_of_le h1 with z | z
  · exact z
  · exfalso
    apply hb
    apply eq_of_bits
    intro q
    rw [Nat.zero_testBit]
    refine ⟨fun hq => ?_, fun z => by cases z⟩
    have e1 : (a ||| b).testBit q = true := by rw [Nat.testBit_or, hq, Bool.or_true]
    rw [← z] at e1
    have e2 : (a &&& b).testBit q = true := by rw [Nat.testBit_and, e1, hq]; rfl
    rw [h, Nat.zero_testBit] at e2
    exact e2

/-! ### links -/
theorem bit_or_pow (x b j : Nat) : (x ||| 2 ^ b).testBit j = (x.testBit j || decide (b = j)) := by
  rw [Nat.testBit_or, Nat.testBit_two_pow]
/-- lk: for each of n places the mask of its neighbours -/
structure Lk (n : Nat) (bs : List (Nat × Nat)) (lk : List Nat) : Prop where
  len : lk.length = n
  bit : ∀ i j, i < n → (lk.getD i 0).testBit j = adj bs i j
theorem Lk.nil (n : Nat) : Lk n [] (List.replicate n 0) := ⟨by simp, fun i j hi => by
  rw [List.getD_eq_getElem?_getD, List.getElem?_replicate, if_pos hi]
  simp [adj]⟩
theorem getD_set {l : List Nat} {a i x : Nat} (ha : a < l.length) : (l.set a x).getD i 0 = if i = a then x else l.getD i 0 := by
  rw [List.getD_eq_getElem?_getD, List.getD_eq_getElem?_getD, List.getElem?_set]
  by_cases h : a = i
  · subst h
    rw [if_pos rfl, if_pos rfl, if_pos ha]
    rfl
  · rw [if_neg h, if_neg (fun z => h z.symm)]
theorem Lk.add {n : Nat} {bs : List (Nat × Nat)} {lk : List Nat} (h : Lk n bs lk) {a b : Nat} (hab : a < b) (hb : b < n) :
    Lk n (bs ++ [(a, b)]) ((lk.set a (lk.getD a 0 ||| 2 ^ b)).set b (lk.getD b 0 ||| 2 ^ a)) := by
  have hl := h.len
  refine ⟨by simp [h.len], fun i j hi => ?_⟩
  have e : adj (bs ++ [(a, b)]) i j = (adj bs i j || decide (min i j = a ∧ max i j = b)) := by
    unfold adj
    rw [List.contains_eq_mem, List.contains_eq_mem]
    simp only [List.mem_append, List.mem_singleton, Prod.mk.injEq]
    by_cases h1 : (min i j, max i j) ∈ bs <;> simp [h1]
  rw [e, getD_set (by simp; omega)]
  by_cases h1 : i = b
  · subst h1
    rw [if_pos rfl, bit_or_pow, h.bit _ _ hi]
    congr 1
    apply decide_eq_decide.mpr
    omega
  · rw [if_neg h1, getD_set (by omega)]
    by_cases h2 : i = a
    · subst h2
      rw [if_pos rfl, bit_or_pow, h.bit _ _ hi]
      congr 1
      apply decide_eq_decide.mpr
      omega
    · rw [if_neg h2, h.bit _ _ hi]
      have : decide (min i j = a ∧ max i j = b) = false := by
        apply decide_eq_false
        omega
      rw [this, Bool.or_false]
/-- the borders of a land of n places -/
def Bs (n : Nat) (bs : List (Nat × Nat)) : Prop := ∀ b ∈ bs, b.1 < b.2 ∧ b.2 < n
theorem adj_lt {n : Nat} {bs : List (Nat × Nat)} (h : Bs n bs) {i j : Nat} (a : adj bs i j = true) : i < n ∧ j < n ∧ i ≠ j := by
  unfold adj at a
  rw [List.contains_eq_mem, decide_eq_true_eq] at a
  have := h _ a
  simp only at this
  omega
/-- all that a mask has as neighbours, gathered by its bits -/
theorem around_bits {n : Nat} {bs : List (Nat × Nat)} {lk : List Nat} (h : Lk n bs lk) {m : Nat} (hm : m < 2 ^ n) (r : Nat) :
    ((bits n m).foldl (fun a p => a ||| lk.getD p 0) 0).testBit r = true ↔ ∃ q, m.testBit q = true ∧ adj bs q r = true := by
  have key : ∀ (l : List Nat) (a : Nat), (l.foldl (fun a p => a ||| lk.getD p 0) a).testBit r = true ↔ a.testBit r = true ∨ ∃ q ∈ l, (lk.getD q 0).testBit r = true := by
    intro l
    induction l with
    | nil => intro a; simp
    | cons p l ih =>
      intro a
      rw [List.foldl_cons, ih, Nat.testBit_or, Bool.or_eq_true]
      constructor
      · rintro ((z | z) | ⟨q, hq, z⟩)
        · exact .inl z
        · exact .inr ⟨p, List.mem_cons_self, z⟩
        · exact .inr ⟨q, List.mem_cons_of_mem _ hq, z⟩
      · rintro (z | ⟨q, hq, z⟩)
        · exact .inl (.inl z)
        · rcases List.mem_cons.mp hq with e | hq
          · rw [e] at z
            exact .inl (.inr z)
          · exact .inr ⟨q, hq, z⟩
  rw [key]
  constructor
  · rintro (z | ⟨q, hq, z⟩)
    · simp at z
    · obtain ⟨h1, h2⟩ := mem_bits.mp hq
      exact ⟨q, h2, by rw [← h.bit q r h1]; exact z⟩
  · rintro ⟨q, hq, a⟩
    have hqn := lt_of_bit hm hq
    exact .inr ⟨q, mem_bits.mpr ⟨hqn, hq⟩, by rw [h.bit q r hqn]; exact a⟩
theorem fold_lt {n : Nat} {bs : List (Nat × Nat)} {lk : List Nat} (h : Lk n bs lk) (hb : Bs n bs) {m : Nat} (hm : m < 2 ^ n) : (bits n m).foldl (fun a p => a ||| lk.getD p 0) 0 < 2 ^ n := by
  apply Nat.lt_pow_two_of_testBit
  intro i hi
  cases e : ((bits n m).foldl (fun a p => a ||| lk.getD p 0) 0).testBit i with
  | false => rfl
  | true =>
    obtain ⟨q, _, a⟩ := (around_bits h hm i).mp e
    have := (adj_lt hb a).2.1
    omega
/-- the pieces of a mask, from the lowest bit on -/
inductive Pcs (bs : List (Nat × Nat)) : Nat → List Nat → Prop
  | nil : Pcs bs 0 []
  | cons {m q p : Nat} {l : List Nat} : m.testBit q = true → (∀ x, x < q → m.testBit x = false) → Rch bs m (2 ^ q) p → Pcs bs (m ^^^ p) l → Pcs bs m (p :: l)
theorem Rch.sub {bs : List (Nat × Nat)} {m start p : Nat} (h : Rch bs m start p) : ∀ q, p.testBit q = true → m.testBit q = true := fun q hq => by
  obtain ⟨x, _, c⟩ := (h q).mp hq
  exact c.snd
theorem xor_sub {m p : Nat} (h : ∀ q, p.testBit q = true → m.testBit q = true) (q : Nat) : (m ^^^ p).testBit q = true ↔ m.testBit q = true ∧ p.testBit q = false := by
  rw [Nat.testBit_xor]
  have := h q
  cases h1 : m.testBit q <;> cases h2 : p.testBit q <;> simp_all
theorem xor_lt {m p q : Nat} (h : ∀ q, p.testBit q = true → m.testBit q = true) (hq : p.testBit q = true) : m ^^^ p < m := by
  have e : (m ^^^ p) ||| p = m := eq_of_bits fun x => by
    rw [Nat.testBit_or, Bool.or_eq_true, xor_sub h]
    have := h x
    cases h1 : m.testBit x <;> cases h2 : p.testBit x <;> simp_all
  have a : (m ^^^ p) &&& p = 0 := eq_of_bits fun x => by
    rw [Nat.testBit_and, Bool.and_eq_true, xor_sub h, Nat.zero_testBit]
    simp_all
  have hp : p ≠ 0 := fun z => by rw [z, Nat.zero_testBit] at hq; cases hq
  have := or_gt a hp
  rw [e] at this
  exact this

theorem low_uniq {m q q' : Nat} (h : m.testBit q = true) (l : ∀ x, x < q → m.testBit x = false) (h' : m.testBit q' = true) (l' : ∀ x, x < q' → m.testBit x = false) : q = q' := by
  rcases Nat.lt_trichotomy q q' with z | z | z
  · rw [l' q z] at h; cases h
  · exact z
  · rw [l q' z] at h'; cases h'
theorem Pcs.uniq {bs : List (Nat × Nat)} {m : Nat} {l : List Nat} (h : Pcs bs m l) : ∀ {l' : List Nat}, Pcs bs m l' → l = l' := by
  induction h with
  | nil =>
    intro l' h'
    cases h' with
    | nil => rfl
    | cons hq _ _ _ => simp at hq
  | @cons m q p l hq hl hR _ ih =>
    intro l' h'
    cases h' with
    | nil => simp at hq
    | @cons _ q' p' l2 hq' hl' hR' hP' =>
      have e := low_uniq hq hl hq' hl'
      subst e
      have e2 := hR.uniq hR'
      subst e2
      rw [ih hP']
open Classical in
/-- the pieces -/
noncomputable def pcs (bs : List (Nat × Nat)) (m : Nat) : List Nat := if h : ∃ l, Pcs bs m l then h.choose else []
theorem Pcs.eq {bs : List (Nat × Nat)} {m : Nat} {l : List Nat} (h : Pcs bs m l) : pcs bs m = l := by
  unfold pcs
  rw [dif_pos ⟨l, h⟩]
  exact (Exists.choose_spec (⟨l, h⟩ : ∃ l, Pcs bs m l)).uniq h
end Mk

set_option Elab.async false
set_option linter.all false
set_option maxRecDepth 100000
set_option maxHeartbeats 4000000
/-! Bs: the turns of a generator expression over a source of known length; scopes by a look. -/
namespace Gx
open PySem PySem.Spec PyProof.Rows L2 Bx

/-- the scopes of the names, by a look -/
def gChk (ND : List Str) (sc scope : Scope) (N : List Str) (src : List (Option Nat)) : Bool :=
  decide (scope.kind = .function) && !scope.isCoroutine && (scope.names.all fun y => decide (y.2 ≠ .cell)) && decide (scope.names.lookup (".0" : Str) = some NameKind.local) &&
  (scope.names.all fun y => decide (y.2 = .free → sc.names.lookup y.1 = some .cell ∨ sc.names.lookup y.1 = some .free)) && decide (src.length = N.length) &&
  (List.range src.length).all fun i => match src[i]? with
    | some (some j) => match N[i]?, ND[j]? with
      | some x, some z => decide (x = z) && decide (scope.names.lookup x = some .free)
      | _, _ => false
    | _ => true
theorem gOk {ND : List Str} {sc scope : Scope} {N : List Str} {src : List (Option Nat)} (h : gChk ND sc scope N src = true) : GOk ND sc scope N src := by
  unfold gChk at h
  simp only [Bool.and_eq_true, decide_eq_true_eq, Bool.not_eq_true', List.all_eq_true] at h
  obtain ⟨⟨⟨⟨⟨⟨h1, h2⟩, h3⟩, h4⟩, h5⟩, h6⟩, h7⟩ := h
  refine ⟨h1, h2, h3, h4, h5, h6, fun i j e => ?_⟩
  have hi : i < src.length := (List.getElem?_eq_some_iff.mp e).1
  have q := h7 i (List.mem_range.mpr hi)
  rw [e] at q
  cases e1 : N[i]? with
  | none => simp [e1] at q
  | some x =>
    cases e2 : ND[j]? with
    | none => simp [e1, e2] at q
    | some z =>
      simp only [e1, e2, Bool.and_eq_true, decide_eq_true_eq] at q
      exact ⟨x, rfl, by rw [q.1], q.2⟩

/-- a source: n items, it i the i-th one, while Ph stands -/
structure Src (J : It) (n : Nat) (it : Nat → V) (Ph : Hp → Prop) : Prop where
  go : ∀ i H, Ph H → i < n → J.go i H
  stop : ∀ H, Ph H → J.stop n H
  yld : ∀ i H x H', Ph H → i < n → J.yld i H x H' → H' = H ∧ x = it i
theorem src_range {lo : Int} {n : Nat} {Ph : Hp → Prop} : Src (Itr lo n) n (fun i => .int (lo + i)) Ph := ⟨fun _ _ _ h => h, fun _ _ => Nat.le_refl _, fun _ _ _ _ _ _ h => h⟩
theorem src_tup {K : PySem.W.Frag} {a : Addr} {xs : List V} {Ph : Hp → Prop} (h : ∀ H, Ph H → SqT K H a xs) : Src (Itt K a) xs.length (fun i => xs.getD i .non) Ph where
  go := fun i H p hi => ⟨xs, xs[i], h H p, List.getElem?_eq_getElem hi⟩
  stop := fun H p => ⟨xs, h H p, Nat.le_refl _⟩
  yld := fun i H x H' p hi y => ⟨y.1, by rw [List.getD_eq_getElem?_getD, y.2 xs (h H p)]; rfl⟩
theorem src_lst {K : PySem.W.Frag} {a : Addr} {xs : List V} {Ph : Hp → Prop} (h : ∀ H, Ph H → SqL K H a xs) : Src (Itl K a) xs.length (fun i => xs.getD i .non) Ph where
  go := fun i H p hi => ⟨xs, xs[i], h H p, List.getElem?_eq_getElem hi⟩
  stop := fun H p => ⟨xs, h H p, Nat.le_refl _⟩
  yld := fun i H x H' p hi y => ⟨y.1, by rw [List.getD_eq_getElem?_getD, y.2 xs (h H p)]; rfl⟩

section
variable {J : It} {n : Nat} {it : Nat → V} {Ph : Hp → Prop} {g : TG} {tt : TT} {te : TE} {vs : List Nat} {σg : L2.St} {H : Hp} {Q : VK}
theorem g_all {Qt Qf : Hp → Prop} (S : Src J n it Ph) (p : Nat → Bool) (h0 : Ph H)
    (step : ∀ i H (C : V → Hp → Prop), Ph H → i < n → (∀ H4, Ph H4 → C (.bl (p i)) H4) → g (it i) σg H fun σ2 H2 => wipe σ2 vs = σg ∧ te σ2 H2 C)
    (fin : ∀ H, Ph H → (List.range n).all p = true → Qt H) (finF : ∀ H, Ph H → (List.range n).all p = false → Qf H) :
    ∃ W : Nat → Nat → List V → Hp → Prop, (∃ m, W 0 m [] H) ∧ GTurn J g tYes te vs σg (pAll Qf) (fun _ H => Qt H) W := by
  refine ⟨fun i m _ H => Ph H ∧ i ≤ n ∧ m = n - i ∧ ∀ j, j < i → p j = true, ⟨n, h0, Nat.zero_le _, by omega, fun j hj => by omega⟩, fun i m ys H ⟨hp, hi, hm, ha⟩ => ?_⟩
  by_cases hn : i = n
  · subst hn
    exact .inl ⟨S.stop H hp, fin H hp (List.all_eq_true.mpr fun j hj => ha j (List.mem_range.mp hj))⟩
  · have hlt : i < n := by omega
    refine .inr ⟨S.go i H hp hlt, fun x H' y => ?_⟩
    obtain ⟨rfl, rfl⟩ := S.yld i H x H' hp hlt y
    refine step i H' _ hp hlt fun H4 hp4 => ⟨p i, rfl, ?_⟩
    cases e : p i with
    | true => exact iteT ⟨n - (i + 1), by omega, hp4, hlt, rfl, fun j hj => by
        by_cases z : j = i
        · rw [z]; exact e
        · exact ha j (by omega)⟩
    | false =>
      refine iteF (finF H4 hp4 ?_)
      rw [Bool.eq_false_iff]
      intro z
      rw [List.all_eq_true.mp z i (List.mem_range.mpr hlt)] at e
      cases e
theorem g_sum (S : Src J n it Ph) (f : Nat → Int) (h0 : Ph H)
    (step : ∀ i H (C : V → Hp → Prop), Ph H → i < n → (∀ H4, Ph H4 → C (.int (f i)) H4) → g (it i) σg H fun σ2 H2 => wipe σ2 vs = σg ∧ te σ2 H2 C)
    (fin : ∀ H, Ph H → Q (.int ((List.range n).map f).sum) H) :
    ∃ W : Nat → Nat → List V → Hp → Prop, (∃ m, W 0 m [] H) ∧ GTurn J g tYes te vs σg pSum (fun ys H => ∀ ns : List Int, ys = ns.map V.int → Q (.int ns.sum) H) W := by
  refine ⟨fun i m ys H => Ph H ∧ i ≤ n ∧ m = n - i ∧ ys = ((List.range i).map f).map V.int, ⟨n, h0, Nat.zero_le _, by omega, rfl⟩, fun i m ys H ⟨hp, hi, hm, hy⟩ => ?_⟩
  by_cases hn : i = n
  · subst hn
    refine .inl ⟨S.stop H hp, fun ns e => ?_⟩
    rw [hy] at e
    have e2 : (List.range i).map f = ns := by
      have inj : ∀ (a b : List Int), a.map V.int = b.map V.int → a = b := fun a => by
        induction a with
        | nil => intro b h; cases b with
          | nil => rfl
          | cons y b => cases h
        | cons x a ih => intro b h; cases b with
          | nil => cases h
          | cons y b =>
            injection h with h1 h2
            injection h1 with h1
            rw [h1, ih b h2]
      exact inj _ _ e
    rw [← e2]
    exact fin H hp
  · have hlt : i < n := by omega
    refine .inr ⟨S.go i H hp hlt, fun x H' y => ?_⟩
    obtain ⟨rfl, rfl⟩ := S.yld i H x H' hp hlt y
    refine step i H' _ hp hlt fun H4 hp4 => ⟨⟨f i, rfl⟩, n - (i + 1), by omega, hp4, hlt, rfl, ?_⟩
    rw [hy, List.range_succ, List.map_append, List.map_append]
    rfl
/-- tuple(.. if ..), the target a name; kp i: whether the i-th item is kept; Pw: by the turn and what is out -/
theorem g_tup {o : Nat} {Pw : Nat → List V → Hp → Prop} (S : ∀ i ys, Src J n it (Pw i ys)) (hn : n ≤ sizeLine) (kp : Nat → Bool) (hw : ∀ x, wipe (σg.set o (some x)) vs = σg) (h0 : Pw 0 [] H)
    (len : ∀ i ys H, Pw i ys H → ys.length ≤ i)
    (test : ∀ i ys H (C : Bool → Hp → Prop), Pw i ys H → i < n → (∀ H2, Pw i ys H2 → C (kp i) H2) → tt (σg.set o (some (it i))) H C)
    (skip : ∀ i ys H, Pw i ys H → i < n → kp i = false → Pw (i + 1) ys H)
    (elt : ∀ i ys H (C : V → Hp → Prop), Pw i ys H → i < n → kp i = true → (∀ v H4, Pw (i + 1) (ys ++ [v]) H4 → C v H4) → te (σg.set o (some (it i))) H C)
    (fin : ∀ ys H, Pw n ys H → ∀ p, H p = none → Q (.ref p) (upd H p (.tup ys))) :
    ∃ W : Nat → Nat → List V → Hp → Prop, (∃ m, W 0 m [] H) ∧ GTurn J (gName o) tt te vs σg pTup (fun ys H => ∀ p, H p = none → Q (.ref p) (upd H p (.tup ys))) W := by
  refine ⟨fun i m ys H => Pw i ys H ∧ i ≤ n ∧ m = n - i, ⟨n, h0, Nat.zero_le _, by omega⟩, fun i m ys H ⟨hp, hi, hm⟩ => ?_⟩
  by_cases e : i = n
  · subst e
    exact .inl ⟨(S i ys).stop H hp, fin ys H hp⟩
  · have hlt : i < n := by omega
    refine .inr ⟨(S i ys).go i H hp hlt, fun x H' y => ?_⟩
    obtain ⟨rfl, rfl⟩ := (S i ys).yld i H x H' hp hlt y
    refine ⟨hw _, test i ys H' _ hp hlt fun H2 h2 => ?_⟩
    cases hk : kp i with
    | true => exact iteT (elt i ys H2 _ h2 hlt hk fun v H4 h4 => ⟨by have := len i ys H2 h2; omega, n - (i + 1), by omega, h4, hlt, rfl⟩)
    | false => exact iteF ⟨n - (i + 1), by omega, skip i ys H2 h2 hlt hk, hlt, rfl⟩
end
end Gx
namespace Bx
open PySem PySem.Spec PyProof.Rows L2
theorem ix_tupK {X : Cx} {K : PySem.W.Frag} (h : X.K = K) : IxR X (rIxT K) := h ▸ ix_tup
theorem pt_truthK {X : Cx} {K : PySem.W.Frag} {a : Expr} {ta : TE} (h : X.K = K) (ha : PE X a ta) (he : ∀ whole, isTrue a X.env whole = (do let v ← whole; standAt a.pos; holding [v] (truthy v))) :
    PT X a (fun σ H Q => ta σ H fun x H' => ∃ k, TruV K x H' k ∧ Q k H') := h ▸ pt_truth ha he
theorem call_lenK {X : Cx} {K : PySem.W.Frag} (h : X.K = K) : CallR X (.builtin "len") (fun xs H Q => ∃ x n, xs = [x] ∧ LenV K x H n ∧ Q (.int n) H) := h ▸ call_len
theorem ix_lstK {X : Cx} {K : PySem.W.Frag} (h : X.K = K) : IxR X (rIxL K) := h ▸ ix_list
end Bx

set_option Elab.async false
set_option linter.all false
set_option maxRecDepth 100000
set_option maxHeartbeats 4000000
/-! My: places reached one by one. -/
namespace Mk
theorem nodup_le : ∀ (n : Nat) (l : List Nat), l.Nodup → (∀ x ∈ l, x < n) → l.length ≤ n
  | 0, [], _, _ => Nat.le_refl _
  | 0, x :: _, _, h => by have := h x List.mem_cons_self; omega
  | n + 1, l, nd, h => by
    by_cases e : n ∈ l
    · have ih := nodup_le n (l.erase n) (nd.erase n) fun x hx => by
        have h1 := (List.Nodup.mem_erase_iff nd).mp hx
        have h2 := h x h1.2
        have := h1.1
        omega
      rw [List.length_erase_of_mem e] at ih
      omega
    · have ih := nodup_le n l nd fun x hx => by
        have h2 := h x hx
        have : x ≠ n := fun z => e (z ▸ hx)
        omega
      omega
/-- places reached from p within ps, the first at_ of them gone through -/
structure Rw (bs : List (Nat × Nat)) (ps : List Nat) (p : Nat) (fnd : List Nat) (at_ : Nat) : Prop where
  nd : fnd.Nodup
  sound : ∀ x, x ∈ fnd → Conn bs (· ∈ ps) p x
  here : p ∈ fnd
  done : ∀ j x, j < at_ → fnd[j]? = some x → ∀ y, y ∈ ps → adj bs x y = true → y ∈ fnd
  le : at_ ≤ fnd.length
theorem Rw.begin {bs : List (Nat × Nat)} {ps : List Nat} {p : Nat} (h : p ∈ ps) : Rw bs ps p [p] 0 :=
  ⟨by simp, fun x hx => by rw [List.mem_singleton.mp hx]; exact .refl h, by simp, fun j x hj => by omega, by simp⟩
theorem Rw.turn {bs : List (Nat × Nat)} {n : Nat} {ps fnd : List Nat} {p at_ x : Nat} (w : Rw bs ps p fnd at_) (hx : fnd[at_]? = some x) (hb : Bs n bs) :
    Rw bs ps p (fnd ++ ((List.range n).filter fun k => adj bs k x).filter fun k => decide (k ∈ ps) && decide (k ∉ fnd)) (at_ + 1) := by
  have hlt : at_ < fnd.length := (List.getElem?_eq_some_iff.mp hx).1
  have hmem : ∀ y, y ∈ (((List.range n).filter fun k => adj bs k x).filter fun k => decide (k ∈ ps) && decide (k ∉ fnd)) ↔ y < n ∧ adj bs y x = true ∧ y ∈ ps ∧ y ∉ fnd := fun y => by
    rw [List.mem_filter, List.mem_filter, List.mem_range, Bool.and_eq_true, decide_eq_true_eq, decide_eq_true_eq]
    constructor
    · rintro ⟨⟨a, b⟩, c, d⟩; exact ⟨a, b, c, d⟩
    · rintro ⟨a, b, c, d⟩; exact ⟨⟨a, b⟩, c, d⟩
  refine ⟨?_, fun y hy => ?_, List.mem_append_left _ w.here, fun j z hj hz y hy ha => ?_, by rw [List.length_append]; omega⟩
  · refine List.nodup_append.mpr ⟨w.nd, (List.nodup_range.filter _).filter _, fun a ha b hb2 e => ?_⟩
    subst e
    exact ((hmem a).mp hb2).2.2.2 ha
  · rcases List.mem_append.mp hy with h | h
    · exact w.sound y h
    · obtain ⟨_, a, b, _⟩ := (hmem y).mp h
      exact .step (w.sound x (List.mem_of_getElem? hx)) (by rw [adj_comm]; exact a) b
  · by_cases hin : y ∈ fnd
    · exact List.mem_append_left _ hin
    · rw [List.getElem?_append_left (by omega)] at hz
      by_cases e : j = at_
      · subst e
        rw [hx] at hz
        cases hz
        exact List.mem_append_right _ ((hmem y).mpr ⟨(adj_lt hb ha).2.1, by rw [adj_comm]; exact ha, hy, hin⟩)
      · exact absurd (w.done j z (by omega) hz y hy ha) hin
theorem Rw.fin {bs : List (Nat × Nat)} {ps fnd : List Nat} {p at_ : Nat} (w : Rw bs ps p fnd at_) (h : fnd.length ≤ at_) (x : Nat) : x ∈ fnd ↔ Conn bs (· ∈ ps) p x := by
  refine ⟨w.sound x, fun c => ?_⟩
  refine (c.closed (T := (· ∈ fnd)) w.here fun y z hy hz a => ?_).2
  obtain ⟨j, hj, e⟩ := List.getElem_of_mem hy
  exact w.done j y (by omega) (by rw [List.getElem?_eq_getElem hj, e]) z hz a
/-- the pieces gone through so far, and what is left -/
structure Pw (bs : List (Nat × Nat)) (ps left : List Nat) (rs : List (List Nat)) : Prop where
  asc : left.Pairwise (· < ·)
  sub : ∀ x, x ∈ left → x ∈ ps
  clo : ∀ x, x ∈ left → ∀ y, Conn bs (· ∈ ps) x y → y ∈ left
  pcs : ∀ qs, Pcs bs (mask left) qs → Pcs bs (mask ps) (rs.map mask ++ qs)
  good : ∀ r, r ∈ rs → r.Pairwise (· < ·) ∧ ∀ x, x ∈ r → x ∈ ps
  len : rs.length + left.length ≤ ps.length
theorem Pw.begin {bs : List (Nat × Nat)} {ps : List Nat} (h : ps.Pairwise (· < ·)) : Pw bs ps ps [] :=
  ⟨h, fun _ h => h, fun x _ y c => c.snd, fun qs h => h, fun r hr => (nomatch hr), by simp⟩
theorem Pw.fin {bs : List (Nat × Nat)} {ps : List Nat} {rs : List (List Nat)} (w : Pw bs ps [] rs) : Pcs bs (mask ps) (rs.map mask) := by
  have := w.pcs [] .nil
  rwa [List.append_nil] at this
theorem Pw.turn {bs : List (Nat × Nat)} {ps tl r : List Nat} {rs : List (List Nat)} {x0 : Nat} (w : Pw bs ps (x0 :: tl) rs) (ha : r.Pairwise (· < ·)) (hr : ∀ x, x ∈ r ↔ Conn bs (· ∈ ps) x0 x) :
    Pw bs ps ((x0 :: tl).filter fun x => decide (x ∉ r)) (rs ++ [r]) ∧ ((x0 :: tl).filter fun x => decide (x ∉ r)).length < (x0 :: tl).length := by
  have h0 : x0 ∈ x0 :: tl := List.mem_cons_self
  have h0r : x0 ∈ r := (hr x0).mpr (.refl (w.sub _ h0))
  have hsub : ∀ x, x ∈ r → x ∈ x0 :: tl := fun x hx => w.clo x0 h0 x ((hr x).mp hx)
  have hasc := w.asc
  have hrch : Rch bs (mask (x0 :: tl)) (2 ^ x0) (mask r) := fun q => by
    rw [bit_mask ha, decide_eq_true_eq, hr]
    constructor
    · intro c
      refine ⟨x0, by simp [Nat.testBit_two_pow], ?_⟩
      have c2 := (c.closed (T := (· ∈ x0 :: tl)) h0 fun x y hx hy a => w.clo x hx y (.one (w.sub x hx) hy a)).1
      exact c2.mono fun x hx => by
        show (mask (x0 :: tl)).testBit x = true
        rw [bit_mask hasc]
        exact decide_eq_true hx
    · rintro ⟨p, hp, c⟩
      rw [Nat.testBit_two_pow, decide_eq_true_eq] at hp
      subst hp
      exact c.mono fun x hx => by
        have hx : (mask (x0 :: tl)).testBit x = true := hx
        rw [bit_mask hasc, decide_eq_true_eq] at hx
        exact w.sub x hx
  have hfa : ((x0 :: tl).filter fun x => decide (x ∉ r)).Pairwise (· < ·) := hasc.filter _
  have hmem : ∀ x, x ∈ ((x0 :: tl).filter fun x => decide (x ∉ r)) ↔ x ∈ x0 :: tl ∧ x ∉ r := fun x => by
    rw [List.mem_filter, decide_eq_true_eq]
  have hmask : mask ((x0 :: tl).filter fun x => decide (x ∉ r)) = mask (x0 :: tl) ^^^ mask r := eq_of_bits fun q => by
    rw [xor_sub (fun q hq => by
      rw [bit_mask ha, decide_eq_true_eq] at hq
      rw [bit_mask hasc]
      exact decide_eq_true (hsub q hq)), bit_mask hfa, bit_mask hasc, bit_mask ha, decide_eq_true_eq, decide_eq_true_eq, decide_eq_false_iff_not]
    exact hmem q
  have hlt : ((x0 :: tl).filter fun x => decide (x ∉ r)).length < (x0 :: tl).length := by
    rw [List.filter_cons_of_neg (by simp [h0r])]
    have := List.length_filter_le (fun x => decide (x ∉ r)) tl
    rw [List.length_cons]
    omega
  refine ⟨⟨hfa, fun x hx => w.sub x ((hmem x).mp hx).1, fun x hx y c => ?_, fun qs hq => ?_, fun s hs => ?_, ?_⟩, hlt⟩
  · obtain ⟨h1, h2⟩ := (hmem x).mp hx
    refine (hmem y).mpr ⟨w.clo x h1 y c, fun hy => h2 ?_⟩
    exact (hr x).mpr (((hr y).mp hy).trans c.symm)
  · rw [hmask] at hq
    rw [List.map_append, List.append_assoc]
    refine w.pcs _ (.cons ?_ (fun x hx => ?_) hrch hq)
    · rw [bit_mask hasc]
      exact decide_eq_true h0
    · rw [bit_mask hasc]
      refine decide_eq_false fun hm => ?_
      rcases List.mem_cons.mp hm with e | e
      · omega
      · have := List.rel_of_pairwise_cons hasc e
        omega
  · rcases List.mem_append.mp hs with e | e
    · exact w.good s e
    · rw [List.mem_singleton.mp e]
      exact ⟨ha, fun x hx => w.sub x (hsub x hx)⟩
  · have := w.len
    rw [List.length_append, List.length_singleton]
    omega
end Mk

set_option Elab.async false
set_option linter.all false
set_option maxRecDepth 100000
set_option maxHeartbeats 4000000
namespace Mk
theorem sub_le : ∀ {l m : List Nat}, l.Nodup → (∀ x, x ∈ l → x ∈ m) → l.length ≤ m.length
  | [], m, _, _ => Nat.zero_le _
  | x :: l, m, nd, h => by
    rw [List.nodup_cons] at nd
    have hx := h x List.mem_cons_self
    have ih := sub_le (l := l) (m := m.erase x) nd.2 fun y hy => by
      have hne : y ≠ x := fun e => nd.1 (e ▸ hy)
      exact (List.mem_erase_of_ne hne).mpr (h y (List.mem_cons_of_mem _ hy))
    rw [List.length_erase_of_mem hx] at ih
    have := List.length_pos_of_mem hx
    rw [List.length_cons]
    omega
theorem filt_sum (f : Nat → Bool) : ∀ l : List Nat, l.length = (l.filter f).length + (l.filter fun x => !f x).length
  | [] => rfl
  | x :: l => by
    have ih := filt_sum f l
    by_cases h : f x = true
    · rw [List.filter_cons_of_pos h, List.filter_cons_of_neg (by simp [h]), List.length_cons, List.length_cons]
      omega
    · rw [List.filter_cons_of_neg h, List.filter_cons_of_pos (by simp [h]), List.length_cons, List.length_cons]
      omega
/-- what hangs together is one piece, and back -/
theorem pcs_one {bs : List (Nat × Nat)} {ps : List Nat} {p : Nat} (ha : ps.Pairwise (· < ·)) (hp : p ∈ ps) (hc : ∀ x, x ∈ ps → Conn bs (· ∈ ps) p x) : Pcs bs (mask ps) [mask ps] := by
  cases ps with
  | nil => cases hp
  | cons q r =>
    have hb := bit_mask ha
    refine .cons (q := q) (by rw [hb]; simp) (fun x hx => ?_) (fun x => ?_) (by rw [Nat.xor_self]; exact .nil)
    · rw [hb]
      refine decide_eq_false fun hm => ?_
      rcases List.mem_cons.mp hm with e | e
      · omega
      · have := List.rel_of_pairwise_cons ha e
        omega
    · rw [hb, decide_eq_true_eq]
      have mono : ∀ {a b : Nat}, Conn bs (· ∈ q :: r) a b → Conn bs (In (mask (q :: r))) a b := fun c => c.mono fun y hy => by
        show (mask (q :: r)).testBit y = true
        rw [hb]
        exact decide_eq_true hy
      constructor
      · intro hx
        refine ⟨q, by simp [Nat.testBit_two_pow], mono ?_⟩
        exact (hc q List.mem_cons_self).symm.trans (hc x hx)
      · rintro ⟨_, _, c⟩
        have := c.snd
        have h2 : (mask (q :: r)).testBit x = true := this
        rwa [hb, decide_eq_true_eq] at h2
theorem Pcs.none {bs : List (Nat × Nat)} {m : Nat} {l : List Nat} (h : Pcs bs m l) (e : l = []) : m = 0 := by
  cases h with
  | nil => rfl
  | cons _ _ _ _ => cases e
theorem Pcs.len1 {bs : List (Nat × Nat)} {m : Nat} {l : List Nat} (h : Pcs bs m l) (e : l.length = 1) : ∃ q, Rch bs m (2 ^ q) m := by
  cases h with
  | nil => cases e
  | @cons _ q p l2 hq hlow hR hP =>
    have e2 : l2 = [] := List.length_eq_zero_iff.mp (by rw [List.length_cons] at e; omega)
    have h0 := hP.none e2
    have : m = p := by
      have h1 : (m ^^^ p) ^^^ p = m := by rw [Nat.xor_assoc, Nat.xor_self, Nat.xor_zero]
      rw [h0, Nat.zero_xor] at h1
      exact h1.symm
    subst this
    exact ⟨q, hR⟩
theorem one_pcs {bs : List (Nat × Nat)} {ps : List Nat} (ha : ps.Pairwise (· < ·)) {l : List Nat} (hl : Pcs bs (mask ps) l) (h : l.length = 1) {p x : Nat} (hp : p ∈ ps) (hx : x ∈ ps) : Conn bs (· ∈ ps) p x := by
  obtain ⟨q, hR⟩ := hl.len1 h
  have hb := bit_mask ha
  have key : ∀ y, y ∈ ps → Conn bs (· ∈ ps) q y := fun y hy => by
    obtain ⟨z, hz, c⟩ := (hR y).mp (by rw [hb]; exact decide_eq_true hy)
    rw [Nat.testBit_two_pow, decide_eq_true_eq] at hz
    subst hz
    exact c.mono fun w hw => by
      have hw : (mask ps).testBit w = true := hw
      rwa [hb, decide_eq_true_eq] at hw
  exact (key p hp).symm.trans (key x hx)
/-- every part that hangs together can be grown place by place -/
theorem grown {bs : List (Nat × Nat)} {ps : List Nat} {p : Nat} (hp : p ∈ ps) (nd : ps.Nodup) (hc : ∀ x, x ∈ ps → Conn bs (· ∈ ps) p x) : ∀ k, k < ps.length → ∃ l : List Nat, l.length = k + 1 ∧ l.Nodup ∧ (∀ x, x ∈ l → x ∈ ps) ∧ p ∈ l ∧ ∀ x, x ∈ l → Conn bs (· ∈ l) p x
  | 0, _ => ⟨[p], rfl, by simp, fun x hx => by rw [List.mem_singleton.mp hx]; exact hp, by simp, fun x hx => by rw [List.mem_singleton.mp hx]; exact .refl (by simp)⟩
  | k + 1, hk => by
    obtain ⟨l, h1, h2, h3, h4, h5⟩ := grown hp nd hc k (by omega)
    -- a place beside it
    have hex : ∃ y z, y ∈ l ∧ z ∈ ps ∧ z ∉ l ∧ adj bs y z = true := by
      refine Classical.byContradiction fun hno => ?_
      have hall : ∀ x, x ∈ ps → x ∈ l := fun x hx => ((hc x hx).closed (T := (· ∈ l)) h4 fun y z hy hz a => Classical.byContradiction fun hz2 => hno ⟨y, z, hy, hz, hz2, a⟩).2
      have := sub_le nd hall
      omega
    obtain ⟨y, z, hy, hz, hzl, a⟩ := hex
    have hm : ∀ x, x ∈ l → x ∈ z :: l := fun x hx => List.mem_cons_of_mem _ hx
    refine ⟨z :: l, by rw [List.length_cons, h1], List.nodup_cons.mpr ⟨hzl, h2⟩, fun x hx => ?_, hm p h4, fun x hx => ?_⟩
    · rcases List.mem_cons.mp hx with e | e
      · rw [e]; exact hz
      · exact h3 x e
    · rcases List.mem_cons.mp hx with e | e
      · rw [e]
        exact .step ((h5 y hy).mono hm) a List.mem_cons_self
      · exact (h5 x e).mono hm
theorem mask_less {ps : List Nat} (ha : ps.Pairwise (· < ·)) {p : Nat} (hp : p ∈ ps) : mask (ps.filter fun x => decide (x ≠ p)) = mask ps ^^^ 2 ^ p := eq_of_bits fun q => by
  rw [bit_mask (ha.filter _), Nat.testBit_xor, bit_mask ha, Nat.testBit_two_pow, decide_eq_true_eq, List.mem_filter, decide_eq_true_eq]
  by_cases h1 : q ∈ ps <;> by_cases h2 : p = q
  · simp [h1, h2]
  · simp [h1, h2]; exact fun z => h2 z.symm
  · exact absurd (h2 ▸ hp) h1
  · simp [h1, h2]
/-- a lot that hangs together has a place, another than p, without which it hangs together -/
theorem other {bs : List (Nat × Nat)} {ps : List Nat} {p : Nat} (ha : ps.Pairwise (· < ·)) (hp : p ∈ ps) (hc : ∀ x, x ∈ ps → Conn bs (· ∈ ps) p x) (h2 : 2 ≤ ps.length) : ∃ v, v ∈ ps ∧ v ≠ p ∧ ∃ l, Pcs bs (mask ps ^^^ 2 ^ v) l ∧ l.length = 1 := by
  have nd : ps.Nodup := ha.imp fun h e => by omega
  obtain ⟨l, h1, hnd, h3, h4, h5⟩ := grown hp nd hc (ps.length - 2) (by omega)
  have hex : ∃ v, v ∈ ps ∧ v ∉ l := Classical.byContradiction fun hno => by
    have hall : ∀ x, x ∈ ps → x ∈ l := fun x hx => Classical.byContradiction fun h => hno ⟨x, hx, h⟩
    have := sub_le nd hall
    omega
  obtain ⟨v, hv, hvl⟩ := hex
  have hvp : v ≠ p := fun e => hvl (e ▸ h4)
  -- the others are l
  have hmem : ∀ x, x ∈ ps.filter (fun x => decide (x ≠ v)) → x ∈ l := fun x hx => Classical.byContradiction fun hxl => by
    rw [List.mem_filter, decide_eq_true_eq] at hx
    have nd3 : (x :: v :: l).Nodup := List.nodup_cons.mpr ⟨fun h => by
      rcases List.mem_cons.mp h with e | e
      · exact hx.2 e
      · exact hxl e, List.nodup_cons.mpr ⟨hvl, hnd⟩⟩
    have hall : ∀ y, y ∈ x :: v :: l → y ∈ ps := fun y hy => by
      rcases List.mem_cons.mp hy with e | e
      · rw [e]; exact hx.1
      · rcases List.mem_cons.mp e with e | e
        · rw [e]; exact hv
        · exact h3 y e
    have := sub_le nd3 hall
    simp only [List.length_cons] at this
    omega
  have hm2 : ∀ x, x ∈ l → x ∈ ps.filter (fun x => decide (x ≠ v)) := fun x hx => by
    rw [List.mem_filter, decide_eq_true_eq]
    exact ⟨h3 x hx, fun e => hvl (e ▸ hx)⟩
  refine ⟨v, hv, hvp, [mask (ps.filter fun x => decide (x ≠ v))], ?_, rfl⟩
  rw [← mask_less ha hv]
  exact pcs_one (ha.filter _) (hm2 p h4) fun x hx => (h5 x (hmem x hx)).mono hm2
theorem two_le {l : List Nat} {u v : Nat} (hu : u ∈ l) (hv : v ∈ l) (h : u ≠ v) : 2 ≤ l.length := by
  match l, hu, hv with
  | [], hu, _ => cases hu
  | [x], hu, hv => exact absurd ((List.mem_singleton.mp hu).trans (List.mem_singleton.mp hv).symm) h
  | _ :: _ :: _, _, _ => simp
/-- of a lot of two places at least that hangs together, two places at least are no cut places -/
theorem two_free {bs : List (Nat × Nat)} {ps l : List Nat} (ha : ps.Pairwise (· < ·)) (hl : Pcs bs (mask ps) l) (h1 : l.length = 1) (h2 : 2 ≤ ps.length) :
    2 ≤ ps.length - (ps.filter fun p => decide ((pcs bs (mask ps)).length < (pcs bs (mask ps ^^^ 2 ^ p)).length)).length := by
  have hn : ∃ p, p ∈ ps := by
    cases ps with
    | nil => cases h2
    | cons p r => exact ⟨p, List.mem_cons_self⟩
  obtain ⟨p, hp⟩ := hn
  obtain ⟨u, hu, _, lu, hlu, hlu1⟩ := other ha hp (fun x hx => one_pcs ha hl h1 hp hx) h2
  obtain ⟨v, hv, hvu, lv, hlv, hlv1⟩ := other ha hu (fun x hx => one_pcs ha hl h1 hu hx) h2
  have hsum := filt_sum (fun p => decide ((pcs bs (mask ps)).length < (pcs bs (mask ps ^^^ 2 ^ p)).length)) ps
  have m1 : ∀ w lw, w ∈ ps → Pcs bs (mask ps ^^^ 2 ^ w) lw → lw.length = 1 → w ∈ ps.filter (fun p => !decide ((pcs bs (mask ps)).length < (pcs bs (mask ps ^^^ 2 ^ p)).length)) := fun w lw hw hlw e => by
    rw [List.mem_filter]
    refine ⟨hw, ?_⟩
    rw [hl.eq, hlw.eq, h1, e]
    rfl
  have := two_le (m1 u lu hu hlu hlu1) (m1 v lv hv hlv hlv1) (fun e => hvu e.symm)
  omega
end Mk

set_option Elab.async false
set_option linter.all false
set_option maxRecDepth 100000
set_option maxHeartbeats 4000000
/-! My3: what pieces are: apart, all, each of them hanging together, by their least places. -/
namespace Mk
structure Parted (bs : List (Nat × Nat)) (m : Nat) (qs : List Nat) : Prop where
  all : ∀ x, m.testBit x = true ↔ ∃ q, q ∈ qs ∧ q.testBit x = true
  apart : qs.Pairwise fun a b => ∀ x, a.testBit x = true → b.testBit x = true → False
  asc : qs.Pairwise fun a b => ∃ x, a.testBit x = true ∧ ∀ y, b.testBit y = true → x < y
  one : ∀ q, q ∈ qs → ∃ x, q.testBit x = true ∧ ∀ y, q.testBit y = true → Conn bs (In q) x y
theorem Pcs.parted {bs : List (Nat × Nat)} {m : Nat} {qs : List Nat} (h : Pcs bs m qs) : Parted bs m qs := by
  induction h with
  | nil => exact ⟨fun x => by simp, .nil, .nil, fun q hq => nomatch hq⟩
  | @cons m q p l hq hlow hR hP ih =>
    have hsub := hR.sub
    have hqp : p.testBit q = true := (hR q).mpr ⟨q, by simp [Nat.testBit_two_pow], .refl hq⟩
    have hx := fun z => xor_sub hsub z
    have hin : ∀ r, r ∈ l → ∀ z, r.testBit z = true → m.testBit z = true ∧ p.testBit z = false := fun r hr z hz => (hx z).mp ((ih.all z).mpr ⟨r, hr, hz⟩)
    refine ⟨fun x => ?_, ?_, ?_, fun r hr => ?_⟩
    · constructor
      · intro hm
        cases hp : p.testBit x with
        | true => exact ⟨p, List.mem_cons_self, hp⟩
        | false =>
          obtain ⟨r, hr, hrx⟩ := (ih.all x).mp ((hx x).mpr ⟨hm, hp⟩)
          exact ⟨r, List.mem_cons_of_mem _ hr, hrx⟩
      · rintro ⟨r, hr, hrx⟩
        rcases List.mem_cons.mp hr with e | e
        · rw [e] at hrx; exact hsub x hrx
        · exact (hin r e x hrx).1
    · rw [List.pairwise_cons]
      refine ⟨fun r hr z h1 h2 => ?_, ih.apart⟩
      have := (hin r hr z h2).2
      rw [h1] at this
      cases this
    · rw [List.pairwise_cons]
      refine ⟨fun r hr => ⟨q, hqp, fun y hy => ?_⟩, ih.asc⟩
      obtain ⟨h1, h2⟩ := hin r hr y hy
      rcases Nat.lt_trichotomy q y with e | e | e
      · exact e
      · rw [← e, hqp] at h2; cases h2
      · rw [hlow y e] at h1; cases h1
    · rcases List.mem_cons.mp hr with e | e
      · subst e
        refine ⟨q, hqp, fun y hy => ?_⟩
        obtain ⟨z, hz, c⟩ := (hR y).mp hy
        rw [Nat.testBit_two_pow, decide_eq_true_eq] at hz
        subst hz
        refine (c.closed (T := In r) hqp fun a b ha hb2 ad => ?_).1
        obtain ⟨z, hz, c2⟩ := (hR a).mp ha
        exact (hR b).mpr ⟨z, hz, .step c2 ad hb2⟩
      · exact ih.one r e
/-- more borders, what hangs together still does -/
theorem Conn.more {bs bs' : List (Nat × Nat)} {S : Nat → Prop} {p q : Nat} (k : ∀ b, b ∈ bs → b ∈ bs') (h : Conn bs S p q) : Conn bs' S p q := by
  induction h with
  | refl h => exact .refl h
  | step _ a h2 ih =>
    refine .step ih ?_ h2
    unfold adj at a ⊢
    rw [List.contains_iff_mem] at a ⊢
    exact k _ a
end Mk

set_option Elab.async false
set_option linter.all false
set_option maxRecDepth 100000
set_option maxHeartbeats 4000000
/-! Ly: what the laws' own steps want: heaps that change at some lists alone; membership in tuples of data. -/
namespace Bx
open PySem PySem.Spec PyProof.Rows L2
section
variable {X : Cx}
def rInDT (K : PySem.W.Frag) (neg : Bool) : R2 := fun x y H Q => ∃ d ds, Dp K H x d ∧ Dp K H y (.tuple ds) ∧ SeqAt.shaped d = true ∧ SeqAt.shaped (.tuple ds) = true ∧ Q (.bl (neg ^^ (ds.any fun z => PyData.eqv z d))) H
theorem op_inDT (hu : X.A.units + 65 < cLine) : OpR X (compareOp .In) (rInDT X.K false) := by
  intro pins s σ H x y v u Q I rx ry h
  obtain ⟨d, ds, hd, he, sd, se, q⟩ := h
  obtain ⟨as, r1⟩ := Dp.reads I d x v hd rx
  obtain ⟨bs, r2⟩ := Dp.reads I (.tuple ds) y u he ry
  refine SeqAt.in_tuple_reads r2 r1 (SeqAt.canLay_of_shaped se) (SeqAt.canLay_of_shaped sd) (PyProof.Rows.room_in_shaped sd hu) ⟨.bl (ds.any fun y => y.eqv d), H, I, rfl, ?_⟩
  rw [Bool.false_xor] at q
  exact q
end
def isLs : HO → Prop
  | .lst _ => True
  | _ => False
/-- the heap has grown, tables and the lists at S may hold other things -/
structure ExtS (S : List Addr) (H H' : Hp) : Prop where
  keep : ∀ b o, H b = some o → ¬ isTbl o → (isLs o → b ∉ S) → H' b = some o
  tabs : ∀ P, Gx.TabG H P → Gx.TabG H' P
  live : ∀ b o, H b = some o → ∃ o', H' b = some o'
theorem ExtS.of {S : List Addr} {H H' : Hp} (x : Ext H H') : ExtS S H H' := ⟨fun b o e n _ => x.keep b o e n, x.tabs, x.live⟩
theorem ExtS.refl (S : List Addr) (H : Hp) : ExtS S H H := .of (.refl H)
theorem ExtS.trans {S : List Addr} {H H1 H2 : Hp} (a : ExtS S H H1) (b : ExtS S H1 H2) : ExtS S H H2 :=
  ⟨fun c o e n m => b.keep c o (a.keep c o e n m) n m, fun P t => b.tabs P (a.tabs P t), fun c o e => let ⟨o1, e1⟩ := a.live c o e; b.live c o1 e1⟩
theorem ExtS.new {S : List Addr} {H : Hp} {p : Addr} {o : HO} (h : H p = none) : ExtS S H (upd H p o) := .of (.new h)
theorem ExtS.free {S : List Addr} {H H' : Hp} (x : ExtS S H H') {p : Addr} (h : H' p = none) : H p = none := by
  cases e : H p with
  | none => rfl
  | some o =>
    obtain ⟨o', e'⟩ := x.live p o e
    rw [h] at e'
    cases e'
/-- a list of S, or one that was not there ahead, is written -/
theorem ExtS.write {S : List Addr} {H H' : Hp} {p : Addr} {o : HO} (x : ExtS S H H') (h : H p = none ∨ (p ∈ S ∧ ∃ xs, H p = some (.lst xs))) : ExtS S H (upd H' p o) := by
  refine ⟨fun b u e n m => ?_, fun Q hQ => ?_, fun b u e => ?_⟩
  · by_cases hb : b = p
    · subst hb
      rcases h with h | ⟨h1, xs, h2⟩
      · rw [h] at e; cases e
      · rw [h2] at e
        cases e
        exact absurd h1 (m trivial)
    · rw [upd_ne hb]
      exact x.keep b u e n m
  · obtain ⟨ps, e, k⟩ := x.tabs Q hQ
    obtain ⟨ps0, e0, _⟩ := hQ
    have hb : Q ≠ p := by
      intro e1
      subst e1
      rcases h with h | ⟨_, xs, h2⟩
      · rw [h] at e0; cases e0
      · rw [h2] at e0; cases e0
    exact ⟨ps, by rw [upd_ne hb]; exact e, k⟩
  · by_cases hb : b = p
    · exact ⟨o, by rw [hb, upd_same]⟩
    · rw [upd_ne hb]
      exact x.live b u e
theorem ExtS.rd {S : List Addr} {H H' : Hp} (x : ExtS S H H') {a : Addr} {u : HO} (n : ¬ isTbl u) (l : ¬ isLs u) (h : Rd H a u) : Rd H' a u := by
  rcases h with h | ⟨o, h⟩
  · exact .inl (x.keep a u h n fun z => absurd z l)
  · exact .inr ⟨o, x.keep a _ h (fun z => z) fun z => z.elim⟩
theorem ExtS.sqT {S : List Addr} {K : PySem.W.Frag} {H H' : Hp} (x : ExtS S H H') {a : Addr} {xs : List V} (h : SqT K H a xs) : SqT K H' a xs := h.elim (fun z => .inl (x.rd (fun z => z) (fun z => z) z)) .inr
theorem ExtS.lst {S : List Addr} {H H' : Hp} (x : ExtS S H H') {a : Addr} {xs : List V} (n : a ∉ S) (h : H a = some (.lst xs)) : H' a = some (.lst xs) := x.keep a _ h (fun z => z) fun _ => n
theorem ExtS.tup {S : List Addr} {H H' : Hp} (x : ExtS S H H') {a : Addr} {xs : List V} (h : H a = some (.tup xs)) : H' a = some (.tup xs) := x.keep a _ h (fun z => z) fun z => z.elim
theorem ExtS.dT {S : List Addr} {H H' : Hp} (x : ExtS S H H') {a : Addr} {xs : List (List L2.Key × V)} (h : H a = some (.dT xs)) : H' a = some (.dT xs) := x.keep a _ h (fun z => z) fun z => z.elim
mutual
/-- data without a list in it -/
def noL : PyData → Bool
  | .list _ => false
  | .tuple ds => noLs ds
  | _ => true
def noLs : List PyData → Bool
  | [] => true
  | d :: ds => noL d && noLs ds
end
theorem noLs_map {α : Type} (f : α → PyData) (h : ∀ x, noL (f x) = true) : ∀ xs : List α, noLs (xs.map f) = true
  | [] => rfl
  | x :: xs => by rw [List.map_cons, noLs, h, noLs_map f h xs]; rfl
mutual
theorem dp_extS {S : List Addr} {K : PySem.W.Frag} {H H' : Hp} (x : ExtS S H H') : ∀ {v : V} {d : PyData}, noL d = true → Dp K H v d → Dp K H' v d
  | _, _, _, .non => .non
  | _, _, _, .bl b => .bl b
  | _, _, _, .int i => .int i
  | _, _, _, .str z => .str z
  | _, _, n, .lst h hs => absurd n (by simp [noL])
  | _, _, n, .tup h hs => .tup (x.sqT h) (dpAll_extS x (by simpa [noL] using n) hs)
theorem dpAll_extS {S : List Addr} {K : PySem.W.Frag} {H H' : Hp} (x : ExtS S H H') : ∀ {vs : List V} {ds : List PyData}, noLs ds = true → DpAll K H vs ds → DpAll K H' vs ds
  | _, _, _, .nil => .nil
  | _, _, n, .cons h hs => .cons (dp_extS x (Bool.and_eq_true_iff.mp (by simpa [noLs] using n)).1 h) (dpAll_extS x (Bool.and_eq_true_iff.mp (by simpa [noLs] using n)).2 hs)
end
theorem depthAll_le {n : Nat} : ∀ {ds : List PyData}, (∀ d ∈ ds, d.depth ≤ n) → PyData.depthAll ds ≤ n
  | [], _ => by simp [PyData.depthAll]
  | d :: ds, h => by
    have ih := depthAll_le (n := n) (ds := ds) fun x hx => h x (List.mem_cons_of_mem _ hx)
    have h1 := h d List.mem_cons_self
    simp [PyData.depthAll]
    omega
theorem canLayAll_of : ∀ {ds : List PyData}, (∀ d ∈ ds, d.canLay0 = true) → PyData.canLayAll0 ds = true
  | [], _ => by simp [PyData.canLayAll0]
  | d :: ds, h => by
    have ih := canLayAll_of (ds := ds) fun x hx => h x (List.mem_cons_of_mem _ hx)
    have h1 := h d List.mem_cons_self
    simp [PyData.canLayAll0, ih, h1]
structure Sh (n : Nat) (d : PyData) : Prop where
  lay : d.canLay0 = true
  dep : d.depth ≤ n
theorem Sh.int (n : Nat) (i : Int) : Sh (n + 1) (.int i) := ⟨by simp [PyData.canLay0], by simp [PyData.depth]⟩
theorem Sh.tup {n : Nat} {ds : List PyData} (h : ∀ d ∈ ds, Sh n d) : Sh (n + 1) (.tuple ds) := ⟨by
  have := canLayAll_of fun d hd => (h d hd).lay
  simp [PyData.canLay0, this], by
  have := depthAll_le fun d hd => (h d hd).dep
  simp [PyData.depth]; omega⟩
theorem Sh.lst {n : Nat} {ds : List PyData} (h : ∀ d ∈ ds, Sh n d) : Sh (n + 1) (.list ds) := ⟨by
  have := canLayAll_of fun d hd => (h d hd).lay
  simp [PyData.canLay0, this], by
  have := depthAll_le fun d hd => (h d hd).dep
  simp [PyData.depth]; omega⟩
theorem Sh.shaped {n : Nat} {d : PyData} (h : Sh n d) (hn : n ≤ 64) : SeqAt.shaped d = true := by
  unfold SeqAt.shaped
  rw [h.lay, decide_eq_true (by have := h.dep; omega)]
  rfl
theorem Sh.ints {n : Nat} (xs : List Int) : Sh (n + 2) (.list (xs.map .int)) := .lst fun d hd => by
  obtain ⟨i, _, rfl⟩ := List.mem_map.mp hd
  exact .int _ i
theorem Sh.intsT {n : Nat} (xs : List Int) : Sh (n + 2) (.tuple (xs.map .int)) := .tup fun d hd => by
  obtain ⟨i, _, rfl⟩ := List.mem_map.mp hd
  exact .int _ i
theorem eqv_nil (xs : List PyData) : PyData.eqv (.list xs) (.list []) = xs.isEmpty := by
  cases xs <;> simp [PyData.eqv, PyData.eqvAll]
theorem eqv_nilT (xs : List PyData) : PyData.eqv (.tuple xs) (.tuple []) = xs.isEmpty := by
  cases xs <;> simp [PyData.eqv, PyData.eqvAll]
theorem via {T : TS} {D : L2.Ends} {σ : L2.St} {H : Hp} (Pz : L2.St → Hp → Prop) (h1 : ∀ σ H, Pz σ H → D.nx σ H) (h2 : ∀ nx : L2.St → Hp → Prop, (∀ σ H, Pz σ H → nx σ H) → T { D with nx := nx } σ H) : T D σ H := h2 D.nx h1
theorem u65 {k : Nat} {A : Around} (h : Room k A) : A.units + 65 < cLine := by
  have := h.un
  omega
theorem op_inDTK {X : Cx} {K : PySem.W.Frag} (h : X.K = K) (hu : X.A.units + 65 < cLine) : OpR X (compareOp .In) (rInDT K false) := h ▸ op_inDT hu
theorem op_inK {X : Cx} {K : PySem.W.Frag} (h : X.K = K) : OpR X (compareOp .In) (rIn K false) := h ▸ op_in_seq
theorem op_notInK {X : Cx} {K : PySem.W.Frag} (h : X.K = K) : OpR X (compareOp .NotIn) (rIn K true) := h ▸ op_notIn_seq
theorem op_neDK {X : Cx} {K : PySem.W.Frag} (h : X.K = K) (hu : X.A.units + 64 < cLine) : OpR X (compareOp .NotEq) (rNeD K) := h ▸ op_neD hu
theorem op_eqDK {X : Cx} {K : PySem.W.Frag} (h : X.K = K) (hu : X.A.units + 64 < cLine) : OpR X (compareOp .Eq) (rEqD K) := h ▸ op_eqD hu
theorem cr_sortedK {X : Cx} {K : PySem.W.Frag} (h : X.K = K) : CallR X (.builtin "sorted") (rSorted K) := h ▸ cr_sorted
theorem pe_tupleOfK {X : Cx} {K : PySem.W.Frag} {a : Expr} {ta : TE} {p pos : Pos} (h : X.K = K) (hg : Gl X "tuple") (hm : X.mg "tuple" = none) (ha : PE X a ta) (na : starEach [a] X.env = (false, eval a X.env) :: starEach [] X.env := by rfl) : PE X (.Call (.Name "tuple" p) [a] [] pos) (tThen ta (kTup K)) := h ▸ pe_tupleOf hg hm ha na
theorem pg_tupK {X : Cx} {K : PySem.W.Frag} {pos : Pos} {es : List Expr} {k : Nat} {t : TGs} {n : Nat} (h : X.K = K) (hc : X.calm = true) (ht : PGs X es t) (h1 : (assignEach es X.env).length = n := by rfl) (h2 : List.findIdx? (fun x => x.fst) (assignEach es X.env) = none := by rfl) : PG X (.Tuple es k pos) (L2.gTup K n t) := h ▸ pg_tup hc ht h1 h2
end Bx

set_option Elab.async false
set_option linter.all false
set_option maxRecDepth 100000
set_option maxHeartbeats 4000000
/-! Lz: a call with all arguments by name. -/
namespace Bx
open PySem PySem.Spec PyProof.Rows L2
section
variable {X : Cx} {CX : CXT} {k : Nat} {f : Addr} {fd : FuncData} {ps ks : List Str} {sp : Sp} {E : XK} {x : Str} {p pos : Pos} {kws : List Keyword} {tk : TA} {g : List Value → List Value → List Value} {gV : List V → List V → List V}
/-- f(k = v, ..) -/
theorem pe_callKO (F : FnOk X.prog X.w X.K X.mg X.base CX k f fd ps sp) (hr : Room k X.A) (hg : Gl X x) (hm : X.mg x = some (.ref f)) (hk : PySem.W.keepIn X.K (.ref f) = true) (hb : KBinds X.K fd ps ks g gV) (hx : Passes CX X E)
    (hkw : PK X kws tk) (hall : (backToKw pos (keywordEach kws X.env)).all (·.1.isSome) = true := by rfl) (hks : (backToKw pos (keywordEach kws X.env)).filterMap (·.1) = ks := by rfl)
    (hdb : (x == ("__debug__" : Str)) = false := by decide)
    (hpl : ((backTo pos (starEach [] X.env)).any (·.1) || (backToKw pos (keywordEach kws X.env)).any (·.1.isNone)) = false := by rfl) :
    PE X (.Call (.Name x p) [] kws pos) (tCallK sp gV E tNil tk) := by
  refine ⟨fun pins s σ H Q I h => ?_⟩
  refine wpAny_Call_Name_kw (ld_glob I hg hm ?_ hdb)
  refine PySem.W.callWith_KW0 (h₀ := X.base) I.ok.mod.kin hk hall ?_ hpl
  refine thn (hkw.run pos pins s σ H _ I h) fun ws s2 ⟨zs, H2, I2, rz, q2⟩ => ⟨I2.kIn, ?_⟩
  rw [hks]
  exact run_fnk F hr hb hx I2 .nil rz q2
end
structure CalK (P : Program) (w : World) (K : PySem.W.Frag) (mg : Str → Option Value) (base : Heap) (k : Nat) (x : Str) (ps ks : List Str) (g : {α : Type} → List α → List α → List α) (sp : Sp) : Prop where
  ex : ∃ (f : Addr) (fd : FuncData), FnOk P w K mg base CX0 k f fd ps sp ∧ mg x = some (.ref f) ∧ PySem.W.keepIn K (.ref f) = true ∧ KBinds K fd ps ks g g
section
variable {X : Cx} {k : Nat} {x : Str} {ps ks : List Str} {sp : Sp} {p pos : Pos} {kws : List Keyword} {tk : TA} {g : {α : Type} → List α → List α → List α}
theorem pe_calK (C : CalK X.prog X.w X.K X.mg X.base k x ps ks g sp) (hr : Room k X.A) (hg : Gl X x) (hkw : PK X kws tk) (hall : (backToKw pos (keywordEach kws X.env)).all (·.1.isSome) = true := by rfl) (hks : (backToKw pos (keywordEach kws X.env)).filterMap (·.1) = ks := by rfl)
    (hdb : (x == ("__debug__" : Str)) = false := by decide)
    (hpl : ((backTo pos (starEach [] X.env)).any (·.1) || (backToKw pos (keywordEach kws X.env)).any (·.1.isNone)) = false := by rfl) : PE X (.Call (.Name x p) [] kws pos) (tCallK sp g E0 tNil tk) := by
  obtain ⟨f, fd, h1, h2, h3, h4⟩ := C.ex
  exact pe_callKO h1 hr hg h2 h3 h4 pass0 hkw hall hks hdb hpl
end
/-- two arguments, named the other way about -/
def swp {α : Type} : List α → List α → List α
  | [], [b, a] => [a, b]
  | _, _ => []
theorem swp_rel {vs zs : List V} {us ws : List Value} (h1 : Vals vs us) (h2 : Vals zs ws) : Vals (swp vs zs) (swp us ws) := by
  cases h1 with
  | cons _ _ => exact .nil
  | nil =>
    cases h2 with
    | nil => exact .nil
    | cons a h3 =>
      cases h3 with
      | nil => exact .nil
      | cons b h4 =>
        cases h4 with
        | nil => exact .cons b (.cons a .nil)
        | cons _ _ => exact .nil
theorem pi_tupK {X : Cx} {K : PySem.W.Frag} {tg e : Expr} {td : TE} (h : X.K = K) (hd : PE X e td) : PI X tg e (iTup K td) := h ▸ pi_tup hd
theorem pi_listK {X : Cx} {K : PySem.W.Frag} {tg e : Expr} {td : TE} (h : X.K = K) (hd : PE X e td) : PI X tg e (iList K td) := h ▸ pi_list hd
end Bx

set_option Elab.async false
set_option linter.all false
set_option maxRecDepth 100000
set_option maxHeartbeats 4000000
/-! Tm: a tuple times nought or one. -/
namespace Bx
open PySem PySem.Spec PyProof.Rows L2
theorem tuple_mul1 (l : Addr) (items : Array Value) (n : Nat) (dd : Option Addr) (sl : Array (Option Value)) (x : Int) (u : Tok) (c0 : (decide (x < -(2 ^ 63)) || decide (x ≥ 2 ^ 63)) = false) (c1 : (items.isEmpty || x == 1) = true) :
    Meets (Builtin.«tuple.__mul__» ⟨[.ref l, .int x u], []⟩) (fun _ R s => s.heap.get? l = some { cls := .type "tuple", dict := dd, data := .seq items n, slots := sl } ∧ R (.ok (.ret (Value.ref l))) s) :=
  .of_wp fun prog w A R s h => by
    obtain ⟨hp, g, d, tk, os⟩ := s
    obtain ⟨hl, h⟩ := h
    have f1 := AutoSeq1.idx_int
    wp_walk using wpAny_loadPart' hl
    repeat (first
      | (refine wpAny_ite_false (decide_eq_false (by rw [c0]; exact Bool.false_ne_true)) ?_; wp_walk using wpAny_loadPart' hl)
      | (refine wpAny_ite_true (decide_eq_true c1) ?_; wp_walk using wpAny_loadPart' hl))
    exact ⟨_, rfl, h⟩
theorem tuple_mul0 (l : Addr) (items : Array Value) (n : Nat) (dd : Option Addr) (sl : Array (Option Value)) (x : Int) (u : Tok) (c0 : (decide (x < -(2 ^ 63)) || decide (x ≥ 2 ^ 63)) = false) (c1 : (items.isEmpty || x == 1) = false) (c2 : (decide (x ≤ 0) || items.isEmpty) = true) :
    Meets (Builtin.«tuple.__mul__» ⟨[.ref l, .int x u], []⟩) (fun _ R s => s.heap.get? l = some { cls := .type "tuple", dict := dd, data := .seq items n, slots := sl } ∧
      R (.ok (.ret (Value.ref s.heap.objs.size))) { s with heap := s.heap.push { cls := Value.type "tuple", data := Data.seq #[] }, toks := s.toks }) :=
  .of_wp fun prog w A R s h => by
    obtain ⟨hp, g, d, tk, os⟩ := s
    obtain ⟨hl, h⟩ := h
    have f1 := AutoSeq1.idx_int
    wp_walk using wpAny_loadPart' hl
    repeat (first
      | (refine wpAny_ite_false (decide_eq_false (by rw [c0]; exact Bool.false_ne_true)) ?_; wp_walk using wpAny_loadPart' hl)
      | (refine wpAny_ite_false (decide_eq_false (by rw [c1]; exact Bool.false_ne_true)) ?_; wp_walk using wpAny_loadPart' hl)
      | (refine wpAny_ite_true (decide_eq_true c2) ?_; wp_walk using wpAny_loadPart' hl))
    exact ⟨_, rfl, h⟩
def rRep01 (K : PySem.W.Frag) : R2 := fun x y H Q => ∃ l k xs, x = .ref l ∧ y = .int k ∧ SqT K H l xs ∧ xs ≠ [] ∧ ((k = 1 ∧ Q (.ref l) H) ∨ (k = 0 ∧ ∀ p, H p = none → Q (.ref p) (upd H p (.tup []))))
theorem op_rep01 {X : Cx} : OpR X (binaryOp .Mult) (rRep01 X.K) := by
  intro pins s σ H x y v u Q I rx ry h
  obtain ⟨l, k, xs, rfl, rfl, hT, hne, hk⟩ := h
  cases rx
  obtain ⟨t, rfl⟩ := ry
  obtain ⟨its, r, ⟨⟨cls, dd, data, sl⟩, ho, hc, n, hd⟩, hs⟩ := I.tuple hT
  simp only at hc hd
  subst hc hd
  have hle : its.length = xs.length := r.length.symm
  have hn : its ≠ [] := fun e => hne (by
    rw [e] at hle
    exact List.eq_nil_of_length_eq_zero hle.symm)
  have hi : its.toArray.isEmpty = false := by
    cases its with
    | nil => exact absurd rfl hn
    | cons a b => rfl
  rcases hk with ⟨rfl, q⟩ | ⟨rfl, q⟩
  · have c1 : (its.toArray.isEmpty || (1 : Int) == 1) = true := by rw [hi]; rfl
    refine wpAny_binaryOp_repeat_ref (T := "tuple") (U := "int") (by decide) ⟨_, ho, rfl⟩ (fun s' => typeIs_int s' 1 t) noFill_tuple_mul F.fills_int_mul F.slot_int_rmul repeat_tuple F.slot_int_index.lookup
      (call_meets F.slot_int_rmul (typeIs_int s 1 t) F.entry_int_rmul (F.args_int_rmul_2 _ _) (int_rmul_tuple 1 t l its.toArray n dd sl)
        ⟨ho, rfl, ⟨_, ho, rfl⟩, call_meets F.slot_tuple_mul ⟨_, ho, rfl⟩ F.entry_tuple_mul (F.args_tuple_mul_2 _ _) (tuple_mul1 l its.toArray n dd sl 1 t (by decide) c1) ⟨ho, ?_⟩⟩)
    exact ⟨.ref l, H, I, rfl, q⟩
  · have c1 : (its.toArray.isEmpty || (0 : Int) == 1) = false := by rw [hi]; rfl
    have c2 : (decide ((0 : Int) ≤ 0) || its.toArray.isEmpty) = true := by rw [hi]; rfl
    refine wpAny_binaryOp_repeat_ref (T := "tuple") (U := "int") (by decide) ⟨_, ho, rfl⟩ (fun s' => typeIs_int s' 0 t) noFill_tuple_mul F.fills_int_mul F.slot_int_rmul repeat_tuple F.slot_int_index.lookup
      (call_meets F.slot_int_rmul (typeIs_int s 0 t) F.entry_int_rmul (F.args_int_rmul_2 _ _) (int_rmul_tuple 0 t l its.toArray n dd sl)
        ⟨ho, rfl, ⟨_, ho, rfl⟩, call_meets F.slot_tuple_mul ⟨_, ho, rfl⟩ F.entry_tuple_mul (F.args_tuple_mul_2 _ _) (tuple_mul0 l its.toArray n dd sl 0 t (by decide) c1 c2) ⟨ho, ?_⟩⟩)
    refine ⟨.ref s.heap.objs.size, _, I.laid (t' := s.toks) (o := .tup []) (fun b ob q => Heap.get?_push_of_some _ q) (Nat.le_refl _) ?_, rfl, q _ (I.hok.fresh (Nat.le_refl _))⟩
    exact ⟨by show 0 ≤ sizeLine; exact Nat.zero_le _, _, .nil, IsTup.new _ _⟩
end Bx
namespace Gx
open PySem PySem.Spec PyProof.Rows L2 Bx
section
variable {J : It} {n : Nat} {it : Nat → V} {g : TG} {tt : TT} {te : TE} {vs : List Nat} {σg : L2.St} {H : Hp} {Q : VK}
/-- tuple(.. if ..), any target -/
theorem g_tupG {Pw : Nat → List V → Hp → Prop} (S : ∀ i ys, Src J n it (Pw i ys)) (hn : n ≤ sizeLine) (h0 : Pw 0 [] H) (len : ∀ i ys H, Pw i ys H → ys.length ≤ i)
    (step : ∀ i ys H, Pw i ys H → i < n → g (it i) σg H fun σ2 H2 => wipe σ2 vs = σg ∧ tt σ2 H2 fun b H3 => if b = true then te σ2 H3 fun v H4 => ys.length < sizeLine ∧ ∃ m', m' < n - i ∧ Pw (i + 1) (ys ++ [v]) H4 ∧ i + 1 ≤ n ∧ m' = n - (i + 1) else ∃ m', m' < n - i ∧ Pw (i + 1) ys H3 ∧ i + 1 ≤ n ∧ m' = n - (i + 1))
    (fin : ∀ ys H, Pw n ys H → ∀ p, H p = none → Q (.ref p) (upd H p (.tup ys))) :
    ∃ W : Nat → Nat → List V → Hp → Prop, (∃ m, W 0 m [] H) ∧ GTurn J g tt te vs σg pTup (fun ys H => ∀ p, H p = none → Q (.ref p) (upd H p (.tup ys))) W := by
  refine ⟨fun i m ys H => Pw i ys H ∧ i ≤ n ∧ m = n - i, ⟨n, h0, Nat.zero_le _, by omega⟩, fun i m ys H ⟨hp, hi, hm⟩ => ?_⟩
  by_cases e : i = n
  · subst e
    exact .inl ⟨(S i ys).stop H hp, fin ys H hp⟩
  · have hlt : i < n := by omega
    refine .inr ⟨(S i ys).go i H hp hlt, fun x H' y => ?_⟩
    obtain ⟨rfl, rfl⟩ := (S i ys).yld i H x H' hp hlt y
    subst hm
    exact step i ys H' hp hlt
end
end Gx

set_option Elab.async false
set_option linter.all false
set_option maxRecDepth 100000
set_option maxHeartbeats 4000000
/-! Tu: sets of tuples of ints as large as a table of 128 slots holds them (76): the library's own rule ends below 64. Hashes of the keys are unlike: a search asks one entry. -/
namespace Tu
open PySem PySem.Spec PyProof.Rows L2
section
variable {P : Program} {w : World} {A : Around} {E : Value → Shared → Prop} {s : Shared}
/-- a set of tuples on a heap, the tuples' objects aside -/
structure Lies (P : Program) (w : World) (h : Heap) (a : Addr) (L : List (Addr × List Int)) (es : Array (Int × Value)) (ep : Nat) (t : SetTable) : Prop where
  obj : ∃ o, h.get? a = some o ∧ o.ExactSet ∧ o.data = .set es ep t
  row : es.toList = rowsOf P w L
  tbl : TabOk t (L.map fun p => thash P w p.2)
  one : (L.map (·.2)).Nodup
  pln : t.plain = true
  ord : w.params.followText "set-order" = true ∨ t.led = true
  gap : L.length * 5 < t.mask * 3
theorem rows_num {L : List (Addr × List Int)} {es : Array (Int × Value)} (e : es.toList = rowsOf P w L) : es.size = L.length := by
  rw [← Array.length_toList, e, rowsOf, List.length_map]
theorem rows_ent {L : List (Addr × List Int)} {es : Array (Int × Value)} (e : es.toList = rowsOf P w L) {i : Nat} {p : Addr × List Int} (h : L[i]? = some p) : es[i]? = some (thash P w p.2, Value.ref p.1) := by
  rw [← Array.getElem?_toList, e, rowsOf, List.getElem?_map, h]
  rfl
variable {a : Addr} {L : List (Addr × List Int)} {es : Array (Int × Value)} {ep : Nat} {t : SetTable}
theorem fits_of (hz : t.place.size = es.size) (hd : t.dummies = #[]) (hm : es.size ≤ t.mask) : t.fits es.size = true := by
  unfold SetTable.fits SetTable.fill
  rw [hd, hz]
  simp [hm]
theorem Lies.plc (Z : Lies P w s.heap a L es ep t) : t.place.size = es.size := by
  rw [Z.tbl.sz, List.length_map, rows_num Z.row]
theorem Lies.num (Z : Lies P w s.heap a L es ep t) : L.length ≤ 76 := by
  have g := Z.gap
  rcases Z.tbl.mok with e | e | e <;> rw [e] at g <;> omega
theorem Lies.fit (Z : Lies P w s.heap a L es ep t) : t.fits es.size = true :=
  fits_of Z.plc Z.tbl.dm (by have := Z.gap; have := rows_num Z.row; omega)

/-! ### a search -/
theorem seek (Z : Lies P w s.heap a L es ep t) (tt : ∀ p ∈ L, IsT P w s.heap p.2 p.1) {x : Addr} {k : List Int} (hx : IsT P w s.heap k x) (hu : A.units < cLine)
    (inj : ∀ p ∈ L, thash P w p.2 = thash P w k → p.2 = k) {Q : SetFound → Shared → Prop} (yes : k ∈ L.map (·.2) → Q (.there none) s)
    (no : ∀ K, k ∉ L.map (·.2) → way t.mask (thash P w k) K ∉ t.place.toList → (∀ c, c < K → way t.mask (thash P w k) c ∈ t.place.toList) → Q (.free (way t.mask (thash P w k) K) false) s) :
    wpAny (model P w) A (setSearch a (.ref x) (thash P w k) true) Q E s := by
  obtain ⟨o, ho, hex, hd⟩ := Z.obj
  obtain ⟨K, f1, f2, f3⟩ := Z.tbl.first (by have := Z.gap; rw [List.length_map]; omega) (thash P w k)
  unfold setSearch
  show wpAny (model P w) A (setSearchFrom a (.ref x) (thash P w k) true (99999 + 1) none) Q E s
  rw [setSearchFrom_succ]
  refine wpAny_bind (wpAny_setState_of ho hd Z.fit ?_)
  dsimp only
  refine wp_if_neg (by unfold SetTable.gaveWay; rw [mask_odd Z.tbl.mok]; decide) ?_
  try refine wpAny_bind (wpAny_pure ?_)
  have word := go_spec t Z.tbl.ris Z.tbl.dm (fun i => (es[i]?.map (·.1)).getD 0) (thash P w k) (10 * SetTable.turns t.mask) K (t.probeStart (thash P w k)) rfl f1 f3 f2
  rcases word with ⟨q, i, hq, hi, hh, -, pr⟩ | ⟨hn, pr⟩
  · have pr2 : t.probe (fun i => (es[i]?.map (·.1)).getD 0) (thash P w k) ((none : Option SetTable.Probe).getD (t.probeStart (thash P w k))) = _ := pr
    rw [pr2]
    dsimp only
    have hil : i < L.length := by
      have z := (List.getElem?_eq_some_iff.mp hi).1
      rw [Array.length_toList, Z.plc, rows_num Z.row] at z
      exact z
    have hL := List.getElem?_eq_getElem hil
    have hmem := List.getElem_mem hil
    generalize L[i] = p at hL hmem
    have hent := rows_ent Z.row hL
    have hkey : p.2 = k := inj p hmem (by
      simp only [hent] at hh
      exact hh)
    have last : wpAny (model P w) A (searchRest a (.ref x) (thash P w k) true 99999 es t (nth t.mask (t.probeStart (thash P w k)) q).j i (nth t.mask (t.probeStart (thash P w k)) (q + 1))) Q E s := by
      unfold searchRest
      rw [hent]
      refine wpAny_bind (wpAny_holding (wpAny_eqBool_tuple hu (tt p hmem) hx ?_))
      refine wpAny_bind (wpAny_setState_of ho hd Z.fit ?_)
      exact wp_if_pos (by simp [hkey]) (wpAny_pure (yes (List.mem_map.mpr ⟨p, hmem, hkey⟩)))
    cases hl : t.led with
    | true =>
      refine wp_if_neg (by simp) ?_
      try refine wpAny_bind (wpAny_pure ?_)
      exact last
    | false =>
      refine wp_if_pos (by simp) (wpAny_bind (seen_tup hx (fun y hy => ?_) ?_))
      · obtain ⟨e, he, rfl⟩ := List.mem_map.mp hy
        have h1 : e ∈ es.toList := by
          have z : e ∈ es ∧ e.1 = thash P w k := by simpa using he
          simpa using z.1
        rw [Z.row] at h1
        obtain ⟨p2, hp2, rfl⟩ := List.mem_map.mp h1
        exact ⟨p2.2, p2.1, rfl, tt p2 hp2⟩
      · refine wp_if_neg Bool.false_ne_true ?_
        try refine wpAny_bind (wpAny_pure ?_)
        exact last
  · have pr2 : t.probe (fun i => (es[i]?.map (·.1)).getD 0) (thash P w k) ((none : Option SetTable.Probe).getD (t.probeStart (thash P w k))) = _ := pr
    rw [pr2]
    refine wpAny_pure (no K (fun hm => ?_) f2 f3)
    obtain ⟨p, hp, hk⟩ := List.mem_map.mp hm
    obtain ⟨i, hi, rfl⟩ := List.getElem_of_mem hp
    have hL := List.getElem?_eq_getElem hi
    have hil : i < t.place.toList.length := by
      rw [Array.length_toList, Z.plc, rows_num Z.row]
      exact hi
    have hj := List.getElem?_eq_getElem hil
    obtain ⟨c, hc, e⟩ := Z.tbl.before f2 (h := thash P w k) (by rw [List.getElem?_map, hL, ← hk]; rfl) hj
    refine hn c i hc (by rw [hj, ← e]; rfl) ?_
    simp only [rows_ent Z.row hL]
    exact congrArg (thash P w) hk

/-! ### a larger table -/
theorem regrow {o : Obj} (ho : s.heap.get? a = some o) (hex : o.ExactSet) (hd : o.data = .set es ep t) (hr : es.toList = rowsOf P w L) (hz : t.place.size = es.size) (hdm : t.dummies = #[]) (hm : es.size ≤ t.mask)
    (nd : (L.map (·.2)).Nodup) (hp : t.plain = true) (hl : w.params.followText "set-order" = true ∨ t.led = true) {want M : Nat} (hw : SetTable.sizeAbove want = M + 1) (hM : MaskOk M) (hg : L.length * 5 < M * 3) {Q : Unit → Shared → Prop}
    (hQ : ∀ h' L' es' ep' t', Heap.SameBut a s.heap h' → Lies P w h' a L' es' ep' t' → L'.Perm L → Q () { s with heap := h' }) : wpAny (model P w) A (setRelay a want) Q E s := by
  have hn := rows_num hr
  have hM2 : M ≤ 127 := by rcases hM with e | e | e <;> omega
  obtain ⟨t', order, e1, e2, e3, e4, e5, e6, -⟩ := relaid_ok t (hs := es.map (·.1)) (wanted := want) (by rw [hw]; rfl) hM (by rw [Array.size_map, hn]; omega)
  rw [Array.size_map, hn] at e2
  obtain ⟨N, r1, r2, r3⟩ := order_rows L es order hr e2
  rw [← r3] at e3
  have hs2 : (order.filterMap (es[·]?)).size = es.size := by rw [rows_num r1, r2.length_eq, hn]
  rw [setRelay_eq]
  refine wpAny_bind (wpAny_setState_of ho hd (fits_of hz hdm hm) ?_)
  dsimp only
  refine wp_if_neg (by rw [hw, sizeLine_eq]; omega) ?_
  try refine wpAny_bind (wpAny_pure ?_)
  rw [e1]
  dsimp only
  refine wpAny_bind (wp_if_neg (by rw [hs2]; simp) ?_)
  try refine wpAny_bind (wpAny_pure ?_)
  refine wpAny_pure (wpAny_storeSet_of ho hd ?_ (by rw [hs2, hn, sizeLine_eq]; omega))
  refine hQ _ N (order.filterMap (es[·]?)) (ep + 1) t' (Heap.SameBut.update ..) ⟨⟨_, store_at ho hd, ⟨hex.1, hex.2.1, hex.2.2⟩, rfl⟩, r1, e3, (r2.map (·.2)).nodup_iff.mpr nd, by rw [e6]; exact hp, by rw [e5]; exact hl, ?_⟩ r2
  rw [r2.length_eq, e4]
  exact hg

/-! ### one more -/
theorem put_in (Z : Lies P w s.heap a L es ep t) (tt : ∀ p ∈ L, IsT P w s.heap p.2 p.1) {x : Addr} {k : List Int} (hx : IsT P w s.heap k x) (hu : A.units < cLine)
    (inj : ∀ p ∈ L, thash P w p.2 = thash P w k → p.2 = k) (few : k ∉ L.map (·.2) → L.length < 76) {Q : Bool → Shared → Prop}
    (old : k ∈ L.map (·.2) → Q false s) (new : k ∉ L.map (·.2) → ∀ h' N es' ep' t', Heap.SameBut a s.heap h' → Lies P w h' a N es' ep' t' → N.Perm ((x, k) :: L) → Q true { s with heap := h' }) :
    wpAny (model P w) A (setAddHashed a (.ref x) (thash P w k)) Q E s := by
  obtain ⟨o, ho, hex, hd⟩ := Z.obj
  have hn := rows_num Z.row
  unfold setAddHashed
  refine wpAny_holding ?_
  show wpAny (model P w) A (setAddHashedIn a (.ref x) (thash P w k) (99999 + 1)) Q E s
  rw [setAddHashedIn_succ]
  refine wpAny_bind (wpAny_setState_of ho hd Z.fit ?_)
  dsimp only
  refine wp_if_neg (by simp [byScan, Value.scannable]) ?_
  try refine wpAny_bind (wpAny_pure ?_)
  refine wpAny_bind (seek Z tt hx hu inj (fun h => wpAny_pure (old h)) fun K hk n1 n2 => ?_)
  have few := few hk
  have put := Z.tbl.put n1 n2
  generalize way t.mask (thash P w k) K = at_ at put ⊢
  dsimp only
  refine wpAny_bind (wpAny_setState_of ho hd Z.fit ?_)
  dsimp only
  obtain ⟨u1, u2, u3, u4, u5, u6, -, -, u9⟩ := put
  have pl : (t.put at_).1.plain = true := by rw [u6]; exact Z.pln
  have od : w.params.followText "set-order" = true ∨ (t.put at_).1.led = true := by rw [u5]; exact Z.ord
  have h1 : (SetTable.insertAt es (SetTable.below t.place at_) (thash P w k, Value.ref x)).toList = rowsOf P w (L.take (SetTable.below t.place at_) ++ (x, k) :: L.drop (SetTable.below t.place at_)) := by
    rw [SetTable.toList_insertAt, rows_put, Z.row]
  have h2 := put_perm L (SetTable.below t.place at_) (x, k)
  have h3 : (L.map fun p => thash P w p.2).take (SetTable.below t.place at_) ++ thash P w k :: (L.map fun p => thash P w p.2).drop (SetTable.below t.place at_) = (L.take (SetTable.below t.place at_) ++ (x, k) :: L.drop (SetTable.below t.place at_)).map fun p => thash P w p.2 := by
    simp [List.map_take, List.map_drop]
  rw [h3] at u3
  clear h3
  rw [List.length_map] at u9
  generalize t.put at_ = pt at u1 u3 u4 u5 u6 u9 pl od ⊢
  obtain ⟨t1, b⟩ := pt
  dsimp only at u1 u3 u4 u5 u6 u9 pl od ⊢
  subst u1
  generalize SetTable.insertAt es (SetTable.below t.place at_) (thash P w k, Value.ref x) = es1 at h1 ⊢
  generalize L.take (SetTable.below t.place at_) ++ (x, k) :: L.drop (SetTable.below t.place at_) = N at h1 h2 u3
  have hN : N.length = L.length + 1 := h2.length_eq
  have he1 : es1.size = L.length + 1 := by rw [rows_num h1, hN]
  have nd : (N.map (·.2)).Nodup := by
    rw [(h2.map (·.2)).nodup_iff]
    exact List.nodup_cons.mpr ⟨hk, Z.one⟩
  first
    | (refine wpAny_bind ?_; refine wp_if_pos pl ?_; refine hashBy_tup hx ?_)
    | refine wp_if_pos pl (wpAny_bind (hashBy_tup hx ?_))
  simp only [if_true]
  refine wpAny_bind (wpAny_storeSet_of ho hd ?_ (by rw [he1, sizeLine_eq]; omega))
  have sb : Heap.SameBut a s.heap (s.heap.update a (Obj.putSet es1 t1)) := Heap.SameBut.update ..
  have ho1 := store_at (es' := es1) (t' := t1) ho hd
  generalize s.heap.update a (Obj.putSet es1 t1) = g1 at sb ho1 ⊢
  have gap := Z.gap
  cases hf : t1.tooFull with
  | false =>
    first
      | refine wp_if_neg (by simp) ?_
      | (refine wpAny_bind ?_; refine wp_if_neg (by simp) ?_; refine wpAny_pure ?_)
    refine wpAny_pure (new hk g1 N es1 (ep + 1) t1 sb ⟨⟨_, ho1, ⟨hex.1, hex.2.1, hex.2.2⟩, rfl⟩, h1, u3, nd, pl, od, ?_⟩ h2)
    unfold SetTable.tooFull at hf
    rw [decide_eq_false_iff_not, u9] at hf
    omega
  | true =>
    unfold SetTable.tooFull at hf
    rw [decide_eq_true_eq, u9, u4] at hf
    have two : (t.mask = 7 ∧ L.length = 4) ∨ (t.mask = 31 ∧ L.length = 18) := by
      rcases Z.tbl.mok with e | e | e
      · exact .inl ⟨e, by omega⟩
      · exact .inr ⟨e, by omega⟩
      · omega
    have hz1 : t1.place.size = es1.size := by rw [u3.sz, List.length_map, hN, he1]
    have grow : ∃ M, SetTable.sizeAbove (SetTable.grown (es.size + 1)) = M + 1 ∧ MaskOk M ∧ N.length * 5 < M * 3 := by
      rw [hn, hN]
      rcases two with ⟨_, e⟩ | ⟨_, e⟩ <;> rw [e]
      · exact ⟨31, size_20, .inr (.inl rfl), by decide⟩
      · exact ⟨127, size_76, .inr (.inr rfl), by decide⟩
    obtain ⟨M, g2, g3, g4⟩ := grow
    have go : wpAny (model P w) A (setRelay a (SetTable.grown (es.size + 1))) (fun _ s' => wpAny (model P w) A (pure true) Q E s') E { s with heap := g1 } :=
      regrow (s := { s with heap := g1 }) ho1 ⟨hex.1, hex.2.1, hex.2.2⟩ rfl h1 hz1 u3.dm (by rw [he1, u4]; rcases two with ⟨e, e2⟩ | ⟨e, e2⟩ <;> omega) nd pl od g2 g3 g4 fun h' N' es' ep' t' sb2 Z2 pm =>
        wpAny_pure (new hk h' N' es' ep' t' (sb.trans sb2) Z2 (pm.trans h2))
    first
      | (refine wpAny_bind ?_; refine wp_if_pos (by simp) ?_; exact go)
      | (refine wp_if_pos (by simp) ?_; refine wpAny_bind ?_; exact go)
end
end Tu

set_option Elab.async false
set_option linter.all false
set_option maxRecDepth 100000
set_option maxHeartbeats 4000000
/-! Tu2: set(xs) of a list of tuples, sorted of it. -/
namespace Tu
open PySem PySem.Spec PyProof.Rows L2
/-- the keys that may come: not too many, of unlike hashes -/
structure Dom (P : Program) (w : World) (D : List (List Int)) : Prop where
  few : D.length ≤ 76
  inj : ∀ k, k ∈ D → ∀ m, m ∈ D → thash P w k = thash P w m → k = m
theorem len_sub {α : Type} [DecidableEq α] : ∀ {l D : List α}, l.Nodup → (∀ x, x ∈ l → x ∈ D) → l.length ≤ D.length
  | [], _, _, _ => Nat.zero_le _
  | x :: l, D, n, h => by
    have n' := List.nodup_cons.mp n
    have hx := h x List.mem_cons_self
    have q := len_sub (D := D.erase x) n'.2 fun y hy => (List.mem_erase_of_ne (fun e => n'.1 (by rw [← e]; exact hy))).mpr (h y (List.mem_cons_of_mem _ hy))
    rw [List.length_erase_of_mem hx] at q
    have := List.length_pos_of_mem hx
    rw [List.length_cons]
    omega
section
variable {P : Program} {w : World} {A : Around} {E : Value → Shared → Prop} {s : Shared}
theorem Lies.on {h h' : Heap} {a : Addr} {L : List (Addr × List Int)} {es : Array (Int × Value)} {ep : Nat} {t : SetTable} (Z : Lies P w h a L es ep t) (k : ∀ o, h.get? a = some o → h'.get? a = some o) : Lies P w h' a L es ep t :=
  ⟨let ⟨o, h1, h2⟩ := Z.obj; ⟨o, k o h1, h2⟩, Z.row, Z.tbl, Z.one, Z.pln, Z.ord, Z.gap⟩
/-- the set at S has what the first i items of ks are; what stood at h0 stands -/
structure Stage (P : Program) (w : World) (D : List (List Int)) (ks : List (Addr × List Int)) (S : Addr) (h0 : Heap) (i : Nat) (h : Heap) : Prop where
  old : ∀ b o, h0.get? b = some o → h.get? b = some o
  set_ : ∃ L es ep t, Lies P w h S L es ep t ∧ Got ks i L
/-- what stays over all steps -/
structure Base (P : Program) (w : World) (D : List (List Int)) (ks : List (Addr × List Int)) (S : Addr) (h0 : Heap) : Prop where
  dom : Dom P w D
  tup : ∀ p ∈ ks, IsT P w h0 p.2 p.1
  sub : ∀ p ∈ ks, p.2 ∈ D
  new : h0.get? S = none
variable {D : List (List Int)} {ks : List (Addr × List Int)} {S : Addr} {h0 : Heap} {i : Nat}
theorem Stage.moved {h h' : Heap} (B : Base P w D ks S h0) (Z : Stage P w D ks S h0 i h) (k1 : ∀ o, h.get? S = some o → h'.get? S = some o) (k2 : ∀ b o, h0.get? b = some o → h.get? b = some o → h'.get? b = some o) : Stage P w D ks S h0 i h' :=
  ⟨fun b o e => k2 b o e (Z.old b o e), let ⟨L, es, ep, t, z, g⟩ := Z.set_; ⟨L, es, ep, t, z.on k1, g⟩⟩
theorem stage_add (B : Base P w D ks S h0) (Z : Stage P w D ks S h0 i s.heap) {p : Addr × List Int} (hp : ks[i]? = some p) (hu : A.units < cLine) {Q : Bool → Shared → Prop}
    (hQ : ∀ b h' tk, Heap.SameBut S s.heap h' → Stage P w D ks S h0 (i + 1) h' → s.toks ≤ tk → Q b { s with heap := h', toks := tk }) : wpAny (model P w) A (setAdd S (.ref p.1)) Q E s := by
  obtain ⟨L, es, ep, t, z, g⟩ := Z.set_
  have hin := List.mem_of_getElem? hp
  have up : ∀ {k b}, IsT P w h0 k b → IsT P w s.heap k b := fun x => isT_keep x Z.old
  have inL : ∀ q ∈ L, q ∈ ks := fun q hq => List.mem_of_mem_take (g.sub q hq)
  have hx := up (B.tup p hin)
  have keep : ∀ h', Heap.SameBut S s.heap h' → ∀ b o, h0.get? b = some o → h'.get? b = some o := fun h' sb b o e => by
    refine (sb.2 b fun q => ?_).trans (Z.old b o e)
    rw [q, B.new] at e
    cases e
  unfold setAdd
  refine wpAny_holding (wpAny_bind (wpAny_pyHash_tuple hu hx ?_))
  refine put_in (s := { s with toks := s.toks + (p.2.length + 1) }) z (fun q hq => up (B.tup q (inL q hq))) hx hu (fun q hq e => B.dom.inj _ (B.sub q (inL q hq)) _ (B.sub p hin) e) (fun hm => ?_) (fun hm => ?_) fun hm h' N es' ep' t' sb z' pm => ?_
  · have q := len_sub (l := p.2 :: L.map (·.2)) (D := D) (List.nodup_cons.mpr ⟨hm, z.one⟩) fun k hk => by
      rcases List.mem_cons.mp hk with e | e
      · exact e ▸ B.sub p hin
      · obtain ⟨r, hr, e2⟩ := List.mem_map.mp e
        exact e2 ▸ B.sub r (inL r hr)
    have := B.dom.few
    rw [List.length_cons, List.length_map] at q
    omega
  · exact hQ false s.heap _ (.refl S s.heap) ⟨Z.old, L, es, ep, t, z, g.same hp hm⟩ (Nat.le_add_right _ _)
  · exact hQ true h' _ sb ⟨keep h' sb, N, es', ep', t', z', g.more hp pm⟩ (Nat.le_add_right _ _)

/-! ### the loop of set.update -/
theorem fill {I : Addr} {fp wr : List Addr} {G : Array GenState → Array GenState → Prop} {Pv : Nat → Value → Prop} {St : Nat → Shared → Prop} {R : Result → Shared → Prop}
    (W : WalksS P w A.in1 I fp wr G ks.length Pv St) (B : Base P w D ks S h0) (hS : S ∉ fp) (val : ∀ i v, Pv i v → ∃ p, ks[i]? = some p ∧ v = .ref p.1) (hw : ∀ b ∈ wr, h0.get? b = none) (hu : A.in1.units < cLine) (m : Nat) :
    ∀ (i : Nat) (s : Shared), i + m = ks.length → St i s → Stage P w D ks S h0 i s.heap → (∀ s', Moved (S :: wr) G s s' → Stage P w D ks S h0 ks.length s'.heap → R (.ok (.ret .none)) s') →
      codeAny (model P w) A (.builtin "set.update.loop" ⟨[.ref S, .ref I], []⟩) R s := by
  have nS : S ∉ wr := fun h => hS (W.sub _ h)
  have wide : ∀ b ∈ wr, b ∈ S :: wr := fun b => List.mem_cons_of_mem S
  have over : ∀ {s s' : Shared} {i : Nat}, Moved wr G s s' → Stage P w D ks S h0 i s.heap → Stage P w D ks S h0 i s'.heap := fun mv z =>
    z.moved B (fun o e => mv.heap S o nS e) fun b o e1 e2 => mv.heap b o (fun hb => by rw [hw b hb] at e1; cases e1) e2
  induction m with
  | zero =>
    intro i s hm hst z hR
    obtain rfl : i = ks.length := by omega
    refine codeAny_builtin F.entry_set_update_loop (by
      rw [Around.under_plainId F.plain_set_update_loop _]
      exact (show wpAny _ A.in1 (pyNext (.ref I) >>= _) _ _ s from wpAny_bind (W.done s _ _ hst fun s' mv => wpAny_pure (hR s' (mv.mono wide) (over mv z)))))
  | succ m ih =>
    intro i s hm hst z hR
    refine codeAny_builtin F.entry_set_update_loop ?_
    rw [Around.under_plainId F.plain_set_update_loop _]
    refine (show wpAny _ A.in1 (pyNext (.ref I) >>= _) _ _ s from wpAny_bind (W.item i s _ _ (by omega) hst fun v s' hv hst' mv => ?_))
    obtain ⟨p, hp, rfl⟩ := val i v hv
    refine (show wpAny _ A.in1 (holding [Value.ref p.1] (setAdd S (.ref p.1)) >>= _) _ _ s' from wpAny_bind (wpAny_holding (stage_add B (over mv z) hp hu fun b h' tk sb z' ht => ?_)))
    have other : ∀ c, c ≠ S → h'.get? c = s'.heap.get? c := fun c hc => sb.2 c hc
    refine wpAny_pure ⟨plainId_quiet F.plain_set_update_loop _, ih (i + 1) _ (by omega) (W.frame _ s' _ _ hst' ht fun c hc o e => ?_) z' fun s'' mv2 z2 => hR s'' (Moved.trans W.gtrans ((mv.mono wide).then_heap ht fun c o hc e => ?_) mv2) z2⟩
    · exact (other c fun q => hS (q ▸ hc)).trans e
    · exact (other c fun q => hc (q ▸ List.mem_cons_self)).trans e
end
end Tu

set_option Elab.async false
set_option linter.all false
set_option maxRecDepth 100000
set_option maxHeartbeats 4000000
/-! Tu3: the call set(xs) and sorted of that set, as rules of the layer. -/
namespace Tu
open PySem PySem.Spec PyProof.Rows L2
section
variable {P : Program} {w : World} {A : Around} {E : Value → Shared → Prop} {s : Shared} {D : List (List Int)} {ks : List (Addr × List Int)}
/-- a set as it is made -/
abbrev bare (w : World) : Obj := { cls := .type "set", dict := none, data := .set #[] 0 (.fresh 0 0 (!w.params.followText "set-order")) }
theorem bare_lies {h : Heap} {a : Addr} (e : h.get? a = some (bare w)) : Lies P w h a [] #[] 0 (.fresh 0 0 (!w.params.followText "set-order")) := by
  refine ⟨⟨_, e, ⟨rfl, rfl, rfl⟩, rfl⟩, rfl, ⟨.nil, rfl, rfl, .inl rfl, (fun x hx => nomatch hx), (fun i h j hi => nomatch hi)⟩, .nil, rfl, ?_, by show 0 * 5 < 7 * 3; decide⟩
  show _ ∨ (!w.params.followText "set-order") = true
  cases w.params.followText "set-order"
  · exact .inr rfl
  · exact .inl rfl
theorem val_at {items : Array Value} (e : items.toList = ks.map fun p => Value.ref p.1) (i : Nat) (v : Value) (h : items[i]? = some v) : ∃ p, ks[i]? = some p ∧ v = .ref p.1 := by
  rw [← Array.getElem?_toList, e, List.getElem?_map, Option.map_eq_some_iff] at h
  obtain ⟨p, h1, h2⟩ := h
  exact ⟨p, h1, h2.symm⟩
theorem beyond {h : Heap} {b : Addr} (hb : h.objs.size ≤ b) : h.get? b = none := by
  cases q : h.get? b with
  | none => rfl
  | some o => exact absurd (Heap.lt_size q) (Nat.not_lt.mpr hb)
/-- set.__init__ of the list, the bare set at the heap's end -/
theorem init_list {l : Addr} {items : Array Value} (hh : A.handled = none) (hl : s.heap.IsList l items) (hit : items.toList = ks.map fun p => Value.ref p.1) (hk : ∀ p ∈ ks, IsT P w s.heap p.2 p.1) (dm : Dom P w D) (hD : ∀ p ∈ ks, p.2 ∈ D) (hu : A.units + 1 < cLine)
    {R : PySem.Fin → Shared → Prop} (h : ∀ h' tk, Stage P w D ks s.heap.objs.size s.heap ks.length h' → R (.done (.ret .none)) { s with heap := h', toks := tk }) :
    wpAny (model P w) A (Builtin.«set.__init__» ⟨[.ref s.heap.objs.size, .ref l], []⟩) R E { s with heap := s.heap.push (bare w) } := by
  have fresh : s.heap.get? s.heap.objs.size = none := beyond (Nat.le_refl _)
  have at0 : (s.heap.push (bare w)).get? s.heap.objs.size = some (bare w) := Heap.get?_push_size _ rfl
  have size : (s.heap.push (bare w)).objs.size = s.heap.objs.size + 1 := Heap.size_push ..
  have kind : Shared.TypeIs { s with heap := s.heap.push (bare w) } (.ref s.heap.objs.size) "set" := ⟨_, at0, rfl⟩
  obtain ⟨⟨cl, dc, dt, sl⟩, lo, rfl, n, rfl⟩ := hl
  have llt := Heap.lt_size lo
  have lo1 := Heap.get?_push_of_some (bare w) lo
  have list1 : (s.heap.push (bare w)).IsList l items := ⟨_, lo1, rfl, n, rfl⟩
  have no1 := F.sub_list_set
  have no2 := F.sub_list_frozenset
  have no3 : (Value.type "list" == Value.type "dict") = false := by decide
  unfold Builtin.«set.__init__» noKeywords Builtin.Frozenset.updateFrom
  generalize eI : pyIter = it
  wp_walk
  subst eI
  refine wpAny_pyIter_list list1 (wpAny_bind (wpAny_runValue ?_))
  have ne1 : l ≠ (s.heap.push (bare w)).objs.size := by rw [size]; exact Nat.ne_of_lt (Nat.lt_succ_of_lt llt)
  have num : items.size = ks.length := by rw [← Array.length_toList, hit, List.length_map]
  have W := (Walks.list (prog := P) (w := w) (A := A.in1) (by simp [hh]) (s.heap.push (bare w)).objs.size l ne1 items).toS
  rw [num] at W
  have B : Base P w D ks s.heap.objs.size s.heap := ⟨dm, hk, hD, fresh⟩
  refine fill W B (fun q => by rw [size] at q; rcases List.mem_cons.mp q with q | q; exact absurd q (Nat.ne_of_lt (Nat.lt_succ_self _)); exact absurd (List.mem_singleton.mp q) (Nat.ne_of_gt llt)) (val_at hit) (fun b hb => beyond (by rw [List.mem_singleton.mp hb, size]; exact Nat.le_succ _)) hu ks.length 0 _ (Nat.zero_add _) ⟨⟨_, Heap.get?_push_size _ rfl, rfl, rfl⟩, list1.push _⟩
    ⟨fun b o e => Heap.get?_push_of_some _ (Heap.get?_push_of_some _ e), _, _, _, _, bare_lies (Heap.get?_push_of_some _ at0), .zero ks⟩ fun s' mv z => ?_
  obtain ⟨h', g', d', tk', os'⟩ := s'
  obtain rfl : g' = s.gens := mv.gens
  obtain rfl : d' = s.drawn := mv.drawn
  obtain rfl : os' = s.os := mv.os
  exact wpAny_pure (wpAny_pure (h h' tk' z))
/-- set(xs) -/
theorem made {l : Addr} {items : Array Value} {Q : Value → Shared → Prop} (hh : A.handled = none) (hl : s.heap.IsList l items) (hit : items.toList = ks.map fun p => Value.ref p.1) (hk : ∀ p ∈ ks, IsT P w s.heap p.2 p.1) (dm : Dom P w D) (hD : ∀ p ∈ ks, p.2 ∈ D) (hu : A.units + 4 < cLine)
    (h : ∀ h' tk, Stage P w D ks s.heap.objs.size s.heap ks.length h' → Q (.ref s.heap.objs.size) { s with heap := h', toks := tk }) : wpAny (model P w) A (call (.type "set") [.ref l]) Q E s := by
  have ⟨cl, tl, mro⟩ := F.called_set.mro
  have f1 := F.called_set.made
  have f2 := F.called_set.sub
  have f3 := F.called_set.notType
  have f4 := F.called_set.canCreate
  have f5 := F.typeCall_set_1 (.ref l)
  refine wpAny_call (codeAny_of_tree (show wpAny _ _ (callAny (.type "set") _) _ _ _ from wpAny_pure ⟨Code.quiet_builtin _ (by decide +kernel), codeAny_builtin F.entry_type_call ?_⟩))
  rw [Around.under_plain (weight_type_call_type "set" [.ref l] []) rfl]
  repeat' first
    | assumption
    | wp_step
  refine codeAny_mono (code_set_led1 (.ref l) (E := E) (Q₁ := fun v s1 => v = .ref s.heap.objs.size ∧ s1 = { s with heap := s.heap.push (bare w) }) ⟨rfl, rfl⟩) fun r s1 hr => ?_
  rcases r with e | fl
  · exact hr
  · cases fl with
    | ret v =>
      obtain ⟨rfl, rfl⟩ := hr
      have at0 : (s.heap.push (bare w)).get? s.heap.objs.size = some (bare w) := Heap.get?_push_size _ rfl
      have kind : Shared.TypeIs { s with heap := s.heap.push (bare w) } (.ref s.heap.objs.size) "set" := ⟨_, at0, rfl⟩
      have g1 := F.called_set.init.lookup
      have g2 := F.called_set.init.bind (.ref s.heap.objs.size)
      repeat' first
        | assumption
        | wp_step
      refine codeAny_mono (codeAny_call_builtin (R := wants (fun r s2 => r = .none ∧ ∃ h' tk, s2 = { s with heap := h', toks := tk } ∧ Stage P w D ks s.heap.objs.size s.heap ks.length h') E) F.called_set.init.plain F.entry_set_init (check_set_init_1 kind
        (init_list (by simp [hh]) hl hit hk dm hD (by simp; omega) fun h' tk z => ⟨rfl, h', tk, rfl, z⟩))) fun r s2 hr => ?_
      rcases r with e | fl
      · exact hr
      · cases fl with
        | ret v =>
          obtain ⟨rfl, h', tk, rfl, z⟩ := hr
          repeat' first
            | assumption
            | wp_step
          exact h h' tk z
        | _ => exact hr.elim
    | _ => exact hr.elim
end
end Tu

set_option Elab.async false
set_option linter.all false
set_option maxRecDepth 100000
set_option maxHeartbeats 4000000
/-! Tu4: sorted of a set of pairs; both calls as rules of the layer. -/
namespace Tu
open PySem PySem.Spec PyProof.Rows L2
/-- one pair of ints ahead of another -/
def ahead (x y : List Int) : Prop := x.getD 0 0 < y.getD 0 0 ∨ (x.getD 0 0 = y.getD 0 0 ∧ x.getD 1 0 < y.getD 1 0)
section
variable {P : Program} {w : World} {A : Around} {E : Value → Shared → Prop} {s : Shared}
/-- the two ints that stand at an address, by a list that tells -/
def told (L : List (Addr × List Int)) (v : Value) : Int × Int := match v with
  | .ref b => match L.find? (fun p => decide (p.1 = b)) with
    | some p => (p.2.getD 0 0, p.2.getD 1 0)
    | none => (0, 0)
  | _ => (0, 0)
theorem told_at {h : Heap} {L : List (Addr × List Int)} (tt : ∀ p ∈ L, IsT P w h p.2 p.1) {p : Addr × List Int} (hp : p ∈ L) : told L (.ref p.1) = (p.2.getD 0 0, p.2.getD 1 0) := by
  show (match L.find? (fun q => decide (q.1 = p.1)) with | some q => (q.2.getD 0 0, q.2.getD 1 0) | none => (0, 0)) = _
  cases e : L.find? (fun q => decide (q.1 = p.1)) with
  | none => exact absurd (List.find?_eq_none.mp e p hp) (by simp)
  | some q =>
    have h1 : q.1 = p.1 := by simpa using List.find?_some e
    have h2 := tt q (List.mem_of_find?_eq_some e)
    rw [h1] at h2
    show (q.2.getD 0 0, q.2.getD 1 0) = _
    rw [h2.inj (tt p hp)]
theorem isPair_of {h : Heap} {k : List Int} {b : Addr} (x : IsT P w h k b) (h2 : k.length = 2) : Srt.IsPair h (.ref b) (k.getD 0 0) (k.getD 1 0) := by
  obtain ⟨o, items, n, ho, hc, hd, hi⟩ := x
  match k, h2 with
  | [i, j], _ =>
    cases hi' : items.toList with
    | nil => rw [hi'] at hi; cases hi
    | cons u us =>
      rw [hi'] at hi
      cases hi with
      | cons a1 r1 =>
        cases r1 with
        | cons a2 r2 =>
          cases r2
          obtain ⟨t1, rfl⟩ := Value.isInt_shape a1
          obtain ⟨t2, rfl⟩ := Value.isInt_shape a2
          have e : items = #[Value.int i t1, Value.int j t2] := by
            apply Array.toList_inj.mp
            rw [hi']
          exact ⟨b, o, t1, t2, n, rfl, ho, hc, by rw [hd, e]; rfl⟩
/-- lists of addresses out of others -/
theorem back {L : List (Addr × List Int)} : ∀ {vs : List Value}, (∀ v ∈ vs, ∃ p ∈ L, v = Value.ref p.1) → ∃ N : List (Addr × List Int), vs = N.map (fun p => Value.ref p.1) ∧ ∀ p ∈ N, p ∈ L
  | [], _ => ⟨[], rfl, fun _ h => nomatch h⟩
  | v :: vs, h => by
    obtain ⟨p, hp, rfl⟩ := h v List.mem_cons_self
    obtain ⟨N, rfl, hN⟩ := back (vs := vs) fun u hu => h u (List.mem_cons_of_mem _ hu)
    exact ⟨p :: N, rfl, fun q hq => by
      rcases List.mem_cons.mp hq with e | e
      · exact e ▸ hp
      · exact hN q e⟩
theorem addr_one {h : Heap} {L : List (Addr × List Int)} (tt : ∀ p ∈ L, IsT P w h p.2 p.1) {p q : Addr × List Int} (hp : p ∈ L) (hq : q ∈ L) (e : p.1 = q.1) : p = q := by
  have h1 := tt p hp
  rw [e] at h1
  exact Prod.ext e (h1.inj (tt q hq))
theorem perm_back {h : Heap} {L N : List (Addr × List Int)} (tt : ∀ p ∈ L, IsT P w h p.2 p.1) (one : (L.map (·.2)).Nodup) (hN : ∀ p ∈ N, p ∈ L) (pm : (N.map fun p => Value.ref p.1).Perm (L.map fun p => Value.ref p.1)) : N.Perm L := by
  have nL : L.Nodup := List.Pairwise.of_map (·.2) (fun _ _ hne e => hne (congrArg _ e)) one
  have nA : (L.map fun p => Value.ref p.1).Nodup := List.pairwise_map.mpr (nL.imp_of_mem fun hp hq hne e => hne (addr_one tt hp hq (Value.ref.inj e)))
  have nN : N.Nodup := List.Pairwise.of_map (fun p : Addr × List Int => Value.ref p.1) (fun a b hne e => hne (by rw [e])) (pm.nodup_iff.mpr nA)
  refine (List.perm_ext_iff_of_nodup nN nL).mpr fun p => ⟨hN p, fun hp => ?_⟩
  obtain ⟨q, hq, e⟩ := List.mem_map.mp (pm.mem_iff.mpr (List.mem_map.mpr ⟨p, hp, rfl⟩))
  rw [← addr_one tt (hN q hq) hp (Value.ref.inj e)]
  exact hq
theorem sort_set {a : Addr} {L : List (Addr × List Int)} {es : Array (Int × Value)} {ep : Nat} {t : SetTable} {Q : Value → Shared → Prop} (Z : Lies P w s.heap a L es ep t) (tt : ∀ p ∈ L, IsT P w s.heap p.2 p.1) (hh : A.handled = none) (two : ∀ p ∈ L, p.2.length = 2)
    (hQ : ∀ s' b (out : Array Value) (c : Nat) (N : List (Addr × List Int)), (∀ d o, s.heap.get? d = some o → s'.heap.get? d = some o) → s'.gens = s.gens → s'.os = s.os → s.heap.objs.size ≤ b → s'.heap.get? b = some (seqObj "list" out c) →
      out.toList = N.map (fun q => Value.ref q.1) → N.Perm L → N.Pairwise (fun p q => ahead p.2 q.2) → Q (.ref b) s') : wpAny (model P w) A (call (.builtin "sorted") [.ref a]) Q E s := by
  obtain ⟨o, ho, hex, hd⟩ := Z.obj
  have num := Z.num
  have num2 := rows_num Z.row
  apply Calls.call_function_entry kind_sorted plain_sorted entry_sorted (args_sorted1 _)
  unfold Builtin.«sorted»
  apply wpAny_bind (m := checkCount "sorted" 1 1 _)
  apply wpAny_pure
  refine wpAny_bind (collect_set (A := A.in1) hh ⟨o, ho, hex.1, hd⟩ Z.fit (by unfold scanBound; omega) Z.tbl.ris Z.ord fun s1 vs kp hz hg hos pm => ?_)
  have refs : es.toList.map (·.2) = L.map fun q => Value.ref q.1 := by
    rw [Z.row, rowsOf, List.map_map]
    rfl
  rw [refs] at pm
  have inL : ∀ v ∈ vs, ∃ p ∈ L, v = Value.ref p.1 := fun v hv => by
    obtain ⟨p, hp, e⟩ := List.mem_map.mp (pm.mem_iff.mp hv)
    exact ⟨p, hp, e.symm⟩
  have len : vs.length ≤ 76 := by rw [pm.length_eq, List.length_map]; exact num
  refine wpAny_bind (wpAny_newList ?_ (by rw [sizeLine_eq]; omega))
  have oL : (s1.heap.push (seqObj "list" vs.toArray 0)).get? s1.heap.objs.size = some (seqObj "list" vs.toArray 0) := Heap.get?_push_size _ rfl
  have up : ∀ d o, s.heap.get? d = some o → (s1.heap.push (seqObj "list" vs.toArray 0)).get? d = some o := fun d o e => Heap.get?_push_of_some _ (kp d o e)
  have tup : ∀ v ∈ vs, Srt.IsPair (s1.heap.push (seqObj "list" vs.toArray 0)) v (told L v).1 (told L v).2 := fun v hv => by
    obtain ⟨p, hp, rfl⟩ := inL v hv
    rw [told_at tt hp]
    exact isPair_of (isT_keep (tt p hp) up) (two p hp)
  refine wpAny_bind (wpAny_holding (wpAny_call_entry (s := { s1 with heap := s1.heap.push (seqObj "list" vs.toArray 0) }) slot_list_sort ⟨_, oL, rfl⟩ entry_list_sort
    (SrtO.list_sort_ord (ltv := fun v u => SrtO.lexB (told L v) (told L u)) (SrtO.swo_lex (told L)) oL (by rw [sizeLine_eq]; omega) (fun h2 => SrtO.pairs_sortableO (by omega) tup fun o e => ?_) fun out sr sb => ⟨_, rfl, ?_⟩) (args_list_sort _)))
  · obtain rfl := Option.some.inj (oL.symm.trans e)
    exact fun c => absurd (Value.type.inj c) (by decide)
  obtain ⟨c, hc⟩ := sortedHeap_at (vs := vs) (out := out.toArray) oL
  obtain ⟨N, e1, e2⟩ := back (L := L) (vs := out) fun v hv => inL v (sb.perm.mem_iff.mp hv)
  have pN : N.Perm L := perm_back tt Z.one e2 (by rw [← e1]; exact sb.perm.trans pm)
  have pw : N.Pairwise fun p q => ahead p.2 q.2 := by
    have nd : (N.map (·.2)).Nodup := (pN.map (·.2)).nodup_iff.mpr Z.one
    unfold SrtO.Srtd at sr
    rw [e1, List.pairwise_map] at sr
    refine List.Pairwise.imp_of_mem (fun {p q} hp hq h => ?_) (sr.and (List.pairwise_map.mp nd))
    obtain ⟨h1, h2⟩ := h
    have h1 : SrtO.lexB (told L (.ref q.1)) (told L (.ref p.1)) = false := h1
    rw [told_at tt (e2 p hp), told_at tt (e2 q hq)] at h1
    have h3 := SrtO.lexB_no.mp h1
    have p2 := two p (e2 p hp)
    have q2 := two q (e2 q hq)
    generalize p.2 = x at h2 h3 p2
    generalize q.2 = y at h2 h3 q2
    match x, p2 with
    | [x0, x1], _ =>
      match y, q2 with
      | [y0, y1], _ =>
        have h4 : ¬ (x0 = y0 ∧ x1 = y1) := fun z => h2 (by rw [z.1, z.2])
        have h5 : ¬ (y0 < x0 ∨ (y0 = x0 ∧ y1 < x1)) := h3
        show x0 < y0 ∨ (x0 = y0 ∧ x1 < y1)
        omega
  refine wpAny_pure ⟨_, rfl, hQ _ s1.heap.objs.size out.toArray c N (fun d u e => ?_) hg hos hz hc (by simpa using e1) pN pw⟩
  have q := kp d u e
  have lt := Heap.lt_size q
  refine (sortedHeap_old (Nat.ne_of_lt lt) (by rw [size_push']; exact Nat.lt_succ_of_lt lt)).trans ?_
  exact Heap.get?_push_of_some _ q
end
/-! ### the rules -/
def SetO (P : Program) (w : World) (a : Addr) (L : List (Addr × List Int)) : HO := .ext fun h => ∃ es ep t, Lies P w h a L es ep t
theorem setO_ok {P : Program} {w : World} {H : Hp} {h : Heap} {a : Addr} {L : List (Addr × List Int)} (z : ∃ es ep t, Lies P w h a L es ep t) : ObjOk P w H h a (SetO P w a L) :=
  ⟨z, let ⟨_, _, _, z⟩ := z; let ⟨o, ho, _⟩ := z.obj; ⟨o, ho⟩, fun h1 h2 ⟨es, ep, t, z⟩ k => ⟨es, ep, t, z.on k⟩⟩
section
variable {X : Cx}
/-- set(xs) of a list of tuples with keys in D -/
def rSetD (K : PySem.W.Frag) (P : Program) (w : World) (D : List (List Int)) : List V → Hp → VK → Prop := fun xs H Q => ∃ (l : Addr) (ks : List (Addr × List Int)), xs = [V.ref l] ∧ SqL K H l (ks.map fun p => V.ref p.1) ∧ (∀ p ∈ ks, SqT K H p.1 (p.2.map V.int)) ∧ (∀ p ∈ ks, p.2 ∈ D) ∧
  ∀ a L, H a = none → (∀ p ∈ L, p ∈ ks) → (∀ p ∈ ks, p.2 ∈ L.map (·.2)) → (L.map (·.2)).Nodup → Q (.ref a) (upd H a (SetO P w a L))
theorem cr_setD {D : List (List Int)} (dm : Dom X.prog X.w D) (hc : X.calm = true) (hu : X.A.units + 64 < cLine) : CallR X (.type "set") (rSetD X.K X.prog X.w D) := by
  intro pins s σ H xs us Q I r h
  obtain ⟨l, ks, rfl, hl, hk, hD, q⟩ := h
  rw [Vals.ref1 r]
  obtain ⟨its, rv, pl, hz⟩ := I.list hl
  refine made (P := X.prog) (w := X.w) (D := D) (ks := ks) (I.ok.hd hc) pl.isList (by simpa using refs_of_vals rv) (fun p hp => I.isT (hk p hp)) dm hD (by omega) fun h' tk z => ?_
  obtain ⟨L, es, ep, t, z1, g⟩ := z.set_
  refine ⟨.ref s.heap.objs.size, upd H s.heap.objs.size (SetO X.prog X.w s.heap.objs.size L), I.laid (t' := tk) z.old (Nat.le_refl _) (setO_ok ⟨es, ep, t, z1⟩), rfl, q _ L (I.hok.fresh (Nat.le_refl _)) (fun p hp => List.mem_of_mem_take (g.sub p hp)) (fun p hp => ?_) z1.one⟩
  exact g.all p (by rw [List.take_length]; exact hp)
/-- sorted(set) of pairs -/
def rSortD (K : PySem.W.Frag) (P : Program) (w : World) : List V → Hp → VK → Prop := fun vs H Q => ∃ (a : Addr) (L : List (Addr × List Int)), vs = [V.ref a] ∧ H a = some (SetO P w a L) ∧ (∀ p ∈ L, SqT K H p.1 (p.2.map V.int)) ∧ (∀ p ∈ L, p.2.length = 2) ∧
  ∀ (N : List (Addr × List Int)) (b : Addr), N.Perm L → N.Pairwise (fun p q => ahead p.2 q.2) → H b = none → Q (.ref b) (upd H b (.lst (N.map fun q => V.ref q.1)))
theorem cr_sortD (hc : X.calm = true) : CallR X (.builtin "sorted") (rSortD X.K X.prog X.w) := by
  intro pins s σ H vs us Q I r h
  obtain ⟨a, L, rfl, ha, hk, two, q⟩ := h
  obtain ⟨es, ep, t, Z⟩ : ∃ es ep t, Lies X.prog X.w s.heap a L es ep t := (I.hok a _ ha).1
  rw [Vals.ref1 r]
  refine sort_set Z (fun p hp => I.isT (hk p hp)) (I.ok.hd hc) two fun s' b out c N k g o hb hg hout pm pw => ?_
  have len : (N.map fun q => V.ref q.1).length ≤ sizeLine := by
    have := Z.num
    rw [List.length_map, pm.length_eq, sizeLine_eq]
    omega
  have hn : H b = none := I.hok.fresh hb
  have J := I.call (ch := []) (h' := s'.heap) (g' := s'.gens) (d' := s'.drawn) (t' := s'.toks) (H' := upd H b (.lst (N.map fun q => V.ref q.1))) (Un.laid k hb hn) (I.hok.laid k hb ⟨len, out.toList, c, by rw [hout]; exact vals_of_refs N, hg⟩) (by rw [g]; exact I.bare) (fun _ z => nomatch z)
  have e : s' = { s with heap := s'.heap, gens := s'.gens, drawn := s'.drawn, toks := s'.toks } := by
    cases s'; cases s; cases o; rfl
  rw [e]
  exact ⟨.ref b, _, J, rfl, q N b pm pw hn⟩
end
end Tu

set_option Elab.async false
set_option linter.all false
set_option maxRecDepth 100000
set_option maxHeartbeats 4000000
/-! Tu5: pairs of places i < j < 12: their hashes are unlike; a list of pairs and its set, sorted. -/
namespace Tu
open PySem PySem.Spec PyProof.Rows L2
def hsh (k : List Int) : Int := reduceHash (Builtin.Tuple.tupleHashOf (k.map hashInt))
theorem hsh_eq (P : Program) (w : World) (k : List Int) : thash P w k = hsh k := rfl
/-- all pairs of places -/
def pairs12 : List (List Int) := (List.range 12).flatMap fun (j : Nat) => (List.range j).map fun (i : Nat) => [(i : Int), (j : Int)]
theorem pairs_few : pairs12.length ≤ 76 := by decide +kernel
theorem pairs_hash : (pairs12.map hsh).Nodup := by decide +kernel
theorem inj_of_nodup {α β : Type} {f : α → β} : ∀ {l : List α}, (l.map f).Nodup → ∀ x, x ∈ l → ∀ y, y ∈ l → f x = f y → x = y
  | [], _, x, hx, _, _, _ => nomatch hx
  | a :: l, n, x, hx, y, hy, e => by
    rw [List.map_cons, List.nodup_cons] at n
    rcases List.mem_cons.mp hx with e1 | h1
    · rcases List.mem_cons.mp hy with e2 | h2
      · rw [e1, e2]
      · exact absurd (List.mem_map.mpr ⟨y, h2, by rw [← e, e1]⟩) n.1
    · rcases List.mem_cons.mp hy with e2 | h2
      · exact absurd (List.mem_map.mpr ⟨x, h1, by rw [e, e2]⟩) n.1
      · exact inj_of_nodup n.2 x h1 y h2 e
theorem pairs_dom (P : Program) (w : World) : Dom P w pairs12 := ⟨pairs_few, fun k hk m hm e => inj_of_nodup pairs_hash k hk m hm e⟩
theorem pairs_mem {i j : Nat} (h1 : i < j) (h2 : j < 12) : [(i : Int), (j : Int)] ∈ pairs12 :=
  List.mem_flatMap.mpr ⟨j, List.mem_range.mpr h2, List.mem_map.mpr ⟨i, List.mem_range.mpr h1, rfl⟩⟩
/-- pairs of places as the rules have them -/
def keyN (b : Nat × Nat) : List Int := [(b.1 : Int), (b.2 : Int)]
/-- ascending pairs -/
def AscP (bs : List (Nat × Nat)) : Prop := bs.Pairwise fun a b => a.1 < b.1 ∨ (a.1 = b.1 ∧ a.2 < b.2)
theorem ahead_keyN {a b : Nat × Nat} : ahead (keyN a) (keyN b) ↔ a.1 < b.1 ∨ (a.1 = b.1 ∧ a.2 < b.2) := by
  show ((a.1 : Int) < (b.1 : Int) ∨ ((a.1 : Int) = (b.1 : Int) ∧ (a.2 : Int) < (b.2 : Int))) ↔ _
  omega
theorem ascP_nodup {bs : List (Nat × Nat)} (h : AscP bs) : bs.Nodup := List.Pairwise.imp (fun {a b} h e => by subst e; omega) h
/-- two ascending lists of the same pairs are one -/
theorem ascP_uniq : ∀ {as bs : List (Nat × Nat)}, AscP as → AscP bs → (∀ p, p ∈ as ↔ p ∈ bs) → as = bs
  | [], [], _, _, _ => rfl
  | [], b :: bs, _, _, h => nomatch (h b).mpr List.mem_cons_self
  | a :: as, [], _, _, h => nomatch (h a).mp List.mem_cons_self
  | a :: as, b :: bs, ha, hb, h => by
    have ha' := List.pairwise_cons.mp ha
    have hb' := List.pairwise_cons.mp hb
    have e : a = b := by
      rcases List.mem_cons.mp ((h a).mp List.mem_cons_self) with e | e
      · exact e
      · rcases List.mem_cons.mp ((h b).mpr List.mem_cons_self) with f | f
        · exact f.symm
        · have z1 := hb'.1 a e
          have z2 := ha'.1 b f
          omega
    subst e
    rw [ascP_uniq ha'.2 hb'.2 fun p => ⟨fun hp => ?_, fun hp => ?_⟩]
    · rcases List.mem_cons.mp ((h p).mp (List.mem_cons_of_mem _ hp)) with e | e
      · have := ha'.1 p hp
        subst e
        omega
      · exact e
    · rcases List.mem_cons.mp ((h p).mpr (List.mem_cons_of_mem _ hp)) with e | e
      · have := hb'.1 p hp
        subst e
        omega
      · exact e
/-- what the set and sorted leave of a list of pairs: its ascending list -/
theorem out_pairs {bs : List (Nat × Nat)} {as : List Addr} (hl : as.length = bs.length) {L N : List (Addr × List Int)} (sub : ∀ p ∈ L, p ∈ as.zip (bs.map keyN)) (all : ∀ p ∈ as.zip (bs.map keyN), p.2 ∈ L.map (·.2)) (pm : N.Perm L) (pw : N.Pairwise fun p q => ahead p.2 q.2) :
    ∃ cs : List (Nat × Nat), N.map (·.2) = cs.map keyN ∧ AscP cs ∧ ∀ p, p ∈ cs ↔ p ∈ bs := by
  have key : ∀ {M : List (Addr × List Int)}, (∀ p ∈ M, ∃ b ∈ bs, p.2 = keyN b) → ∃ cs : List (Nat × Nat), M.map (·.2) = cs.map keyN ∧ ∀ c ∈ cs, c ∈ bs := by
    intro M
    induction M with
    | nil => exact fun _ => ⟨[], rfl, fun _ h => nomatch h⟩
    | cons p M ih =>
      intro h
      obtain ⟨b, hb, e⟩ := h p List.mem_cons_self
      obtain ⟨cs, e1, e2⟩ := ih fun q hq => h q (List.mem_cons_of_mem _ hq)
      refine ⟨b :: cs, by rw [List.map_cons, List.map_cons, e, e1], fun c hc => ?_⟩
      rcases List.mem_cons.mp hc with rfl | hc
      · exact hb
      · exact e2 c hc
  have inj : ∀ {a b : Nat × Nat}, keyN a = keyN b → a = b := fun {a b} e => by
    injection e with e1 e2
    injection e2 with e2
    exact Prod.ext (by omega) (by omega)
  obtain ⟨cs, e1, e2⟩ := key (M := N) fun p hp => by
    have h := (List.of_mem_zip (sub p (pm.mem_iff.mp hp))).2
    obtain ⟨b, hb, e⟩ := List.mem_map.mp h
    exact ⟨b, hb, e.symm⟩
  refine ⟨cs, e1, ?_, fun p => ⟨e2 p, fun hp => ?_⟩⟩
  · have h : (N.map fun p : Addr × List Int => p.2).Pairwise ahead := List.pairwise_map.mpr pw
    rw [e1, List.pairwise_map] at h
    exact h.imp fun {a b} z => ahead_keyN.mp z
  · obtain ⟨i, hi, rfl⟩ := List.getElem_of_mem hp
    have hz : (as[i]'(by omega), keyN bs[i]) ∈ as.zip (bs.map keyN) := by
      refine List.mem_of_getElem? (i := i) ?_
      rw [List.getElem?_zip_eq_some]
      exact ⟨List.getElem?_eq_getElem (by omega), by rw [List.getElem?_map, List.getElem?_eq_getElem hi]; rfl⟩
    have h := all _ hz
    rw [← (pm.map (·.2)).mem_iff, e1] at h
    obtain ⟨c, hc, e⟩ := List.mem_map.mp h
    rw [← inj e]
    exact hc
end Tu

set_option Elab.async false
set_option linter.all false
set_option maxRecDepth 100000
set_option maxHeartbeats 4000000
/-! Sm: sum of a tuple of ints. -/
namespace Bx
open PySem PySem.Spec PyProof.Rows L2
theorem preSum_getD (ns : List Int) : ∀ i, i ≤ ns.length → preSum (fun i => ns.getD i 0) i = (ns.take i).sum
  | 0, _ => rfl
  | i + 1, h => by
    have e : ns.take (i + 1) = ns.take i ++ [ns[i]'(by omega)] := by
      rw [List.take_add_one, List.getElem?_eq_getElem (by omega)]
      rfl
    rw [e, List.sum_append]
    show preSum (fun i => ns.getD i 0) i + ns.getD i 0 = _
    rw [preSum_getD ns i (by omega), List.getD_eq_getElem?_getD, List.getElem?_eq_getElem (by omega)]
    simp
def rSumT (K : PySem.W.Frag) : List V → Hp → VK → Prop := fun vs H Q => ∃ (a : Addr) (ns : List Int), vs = [V.ref a] ∧ SqT K H a (ns.map V.int) ∧ Q (.int ns.sum) H
theorem cr_sumT {X : Cx} (hc : X.calm = true) : CallR X (.builtin "sum") (rSumT X.K) := by
  intro pins s σ H vs us Q I r h
  obtain ⟨a, ns, rfl, hs, q⟩ := h
  obtain ⟨its, rv, ht, hz⟩ := I.tuple hs
  rw [Vals.ref1 r]
  have ht : s.heap.IsTuple a its.toArray := ht
  have ne : a ≠ s.heap.objs.size := by
    obtain ⟨o, ho, _⟩ := ht
    exact Nat.ne_of_lt (Heap.lt_size ho)
  have hn : its.length = ns.length := by rw [← rv.length, List.length_map]
  refine call_sum_walkAnyS (wpAny_pyIter_tuple ht ?_)
  refine ⟨s.heap.objs.size, _, _, _, _, _, _, fun i => ns.getD i 0, rfl, (Walks.tuple (A := X.A.in1) (by simp [I.ok.hd hc]) s.heap.objs.size a ne its.toArray).toS, ⟨⟨_, Heap.get?_push_size _ rfl, rfl, rfl⟩, ht.push _⟩, fun b hb => ?_, fun i v hv => ?_, fun s' t' mv => ?_⟩
  · rw [Heap.size_push]
    rcases List.mem_cons.mp hb with e | e
    · rw [e]
      exact Nat.lt_succ_self _
    · rw [List.mem_singleton.mp e]
      obtain ⟨o, ho, _⟩ := ht
      exact Nat.lt_succ_of_lt (Heap.lt_size ho)
  · exact IntsAre.int_at rv.ints i v (by simpa using hv)
  · obtain ⟨h', g', d', tk', os'⟩ := s'
    obtain rfl : g' = s.gens := mv.gens
    obtain rfl : d' = s.drawn := mv.drawn
    obtain rfl : os' = s.os := mv.os
    have e : preSum (fun i => ns.getD i 0) its.toArray.size = ns.sum := by
      rw [List.size_toArray, hn, preSum_getD ns _ (Nat.le_refl _), List.take_length]
    rw [e]
    refine ⟨.int _, H, I.kept (t' := tk') fun b o eo => ?_, ⟨_, rfl⟩, q⟩
    refine mv.heap b o ?_ (Heap.get?_push_of_some _ eo)
    rw [List.mem_singleton]
    exact Nat.ne_of_lt (Heap.lt_size eo)
/-! ### three arguments by name, from behind -/
def rev3 {α : Type} : List α → List α → List α
  | [], [c, b, a] => [a, b, c]
  | _, _ => []
theorem rev3_rel {vs zs : List V} {us ws : List Value} (h1 : Vals vs us) (h2 : Vals zs ws) : Vals (rev3 vs zs) (rev3 us ws) := by
  cases h1 with
  | cons _ _ => exact .nil
  | nil =>
    cases h2 with
    | nil => exact .nil
    | cons a h3 => cases h3 with
      | nil => exact .nil
      | cons b h4 => cases h4 with
        | nil => exact .nil
        | cons c h5 => cases h5 with
          | nil => exact .cons c (.cons b (.cons a .nil))
          | cons _ _ => exact .nil
end Bx

set_option Elab.async false
set_option linter.all false
set_option maxRecDepth 100000
set_option maxHeartbeats 4000000
/-! Dr: sorted of lists of data of any length; list(d.values()). -/
namespace Bx
open PySem PySem.Spec PyProof.Rows L2
open PySem.W (EachIs AllAlike Sortable dataLe)
theorem each_of {α β : Type} {R : α → β → Prop} : ∀ {as : List α} {bs : List β}, as.length = bs.length → (∀ (i : Nat) (a : α) (b : β), as[i]? = some a → bs[i]? = some b → R a b) → EachIs R as bs
  | [], [], _, _ => .nil
  | a :: as, b :: bs, h, k => .cons (k 0 a b rfl rfl) (each_of (Nat.succ.inj h) fun i a b h1 h2 => k (i + 1) a b h1 h2)
theorem each_at {α β : Type} {R : α → β → Prop} : ∀ {as : List α} {bs : List β}, EachIs R as bs → ∀ {i : Nat} {a : α} {b : β}, as[i]? = some a → bs[i]? = some b → R a b
  | _, _, .cons h t, 0, _, _, h1, h2 => by cases h1; cases h2; exact h
  | _, _, .cons h t, i + 1, _, _, h1, h2 => each_at t (i := i) h1 h2
theorem zip_at {α β : Type} {as : List α} {bs : List β} {i : Nat} {p : α × β} (h : (as.zip bs)[i]? = some p) : as[i]? = some p.1 ∧ bs[i]? = some p.2 := by
  rw [List.getElem?_zip_eq_some] at h
  exact h
theorem vals_of_each : ∀ {us : List Value} {zs : List (V × PyData)}, EachIs (fun v (b : V × PyData) => RelV b.1 v) us zs → Vals (zs.map (·.1)) us
  | _, _, .nil => .nil
  | _, _, .cons h t => .cons h (vals_of_each t)
theorem vals_at : ∀ {xs : List V} {us : List Value}, Vals xs us → ∀ {i : Nat} {x : V} {u : Value}, xs[i]? = some x → us[i]? = some u → RelV x u
  | _, _, .cons h t, 0, _, _, h1, h2 => by cases h1; cases h2; exact h
  | _, _, .cons h t, i + 1, _, _, h1, h2 => vals_at t (i := i) h1 h2
theorem dpAll_zip {K : PySem.W.Frag} {H : Hp} : ∀ {zs : List (V × PyData)}, (∀ z ∈ zs, Dp K H z.1 z.2) → DpAll K H (zs.map (·.1)) (zs.map (·.2))
  | [], _ => .nil
  | z :: zs, h => .cons (h z List.mem_cons_self) (dpAll_zip fun y hy => h y (List.mem_cons_of_mem _ hy))
theorem dpAll_zipmem {K : PySem.W.Frag} {H : Hp} : ∀ {xs : List V} {ds : List PyData}, DpAll K H xs ds → ∀ z ∈ xs.zip ds, Dp K H z.1 z.2
  | _, _, .nil, _, hz => nomatch hz
  | _, _, .cons h t, z, hz => by
    rw [List.zip_cons_cons] at hz
    rcases List.mem_cons.mp hz with e | e
    · rw [e]; exact h
    · exact dpAll_zipmem t z e
/-- sorted(xs) of a list of data that compare -/
def rSortDt (K : PySem.W.Frag) : List V → Hp → VK → Prop := fun vs H Q => ∃ (a : Addr) (xs : List V) (ds : List PyData), vs = [V.ref a] ∧ SqL K H a xs ∧ DpAll K H xs ds ∧ AllAlike ds ∧ Sortable ds ∧ ds.length ≤ 100000 ∧ (∀ d ∈ ds, d.depth ≤ 40) ∧
  ∀ ys es p, DpAll K H ys es → es.Perm ds → es.Pairwise (fun d e => PySem.W.dataLt e d = false) → H p = none → Q (.ref p) (upd H p (.lst ys))
theorem dataLe_not {β : Type} (k : β → PyData) (a b : β) : dataLe false k a b = !PySem.W.dataLt (k b) (k a) := rfl
theorem cr_sortDt {X : Cx} (hu : X.A.units + 64 < cLine) : CallR X (.builtin "sorted") (rSortDt X.K) := by
  intro pins s σ H vs us Q I r h
  obtain ⟨a, xs, ds, rfl, hs, hd, ha, hk, hn, hdp, q⟩ := h
  rw [Vals.ref1 r]
  obtain ⟨its, rv, hl, hz⟩ := I.list hs
  have e1 : (xs.zip ds).map (·.2) = ds := List.map_snd_zip (Nat.le_of_eq (dpAll_len hd).symm)
  have e0 : (xs.zip ds).map (·.1) = xs := List.map_fst_zip (Nat.le_of_eq (dpAll_len hd))
  have el : its.length = (xs.zip ds).length := by rw [← rv.length, List.length_zip, dpAll_len hd]; omega
  have rd : ∀ (i : Nat) (u : Value) (z : V × PyData), its[i]? = some u → (xs.zip ds)[i]? = some z → RelV z.1 u ∧ ∃ as, Reads s.heap u z.2 as := fun i u z h1 h2 => by
    obtain ⟨h3, h4⟩ := zip_at h2
    have h5 := vals_at rv h3 h1
    obtain ⟨as, h6⟩ := Dp.reads I z.2 z.1 u (dpAll_zipmem hd z (List.mem_of_getElem? h2)) h5
    exact ⟨h5, as, h6⟩
  have hl' : s.heap.IsList a its.toArray := hl.isList
  refine PySem.W.sorted_data (vs := its) (bs := xs.zip ds) (R := fun v (b : V × PyData) => RelV b.1 v) (enc := fun b : V × PyData => b.2) hl' (each_of el fun i u z h1 h2 => (rd i u z h1 h2).1) (each_of el fun i u z h1 h2 => (rd i u z h1 h2).2) (by rw [e1]; exact ha) (by rw [e1]; exact hk) (by rw [List.length_zip, sizeLine_eq]; omega)
    (fun b hb => by have := hdp b.2 (by rw [← e1]; exact List.mem_map.mpr ⟨b, hb, rfl⟩); omega) fun out ho he => ?_
  have hv := vals_of_each he
  have hperm : ((xs.zip ds).mergeSort (dataLe false fun b : V × PyData => b.2)).Perm (xs.zip ds) := List.mergeSort_perm ..
  have tot := PySem.W.sortLe_total (listOrd itemOrd) false (fun b : V × PyData => PySem.W.keyToks b.2)
  have hsort : ((xs.zip ds).mergeSort (dataLe false fun b : V × PyData => b.2)).Pairwise (fun a b => dataLe false (fun b : V × PyData => b.2) a b = true) := List.pairwise_mergeSort (fun a b c h1 h2 => tot.trans a b c h1 h2) (fun a b => Bool.or_eq_true_iff.mpr (tot.total a b)) _
  generalize (xs.zip ds).mergeSort (dataLe false fun b : V × PyData => b.2) = zs at hv hperm hsort he
  have hlz : zs.length = out.length := by rw [he.length]
  have kp : ∀ b o, s.heap.get? b = some o → (sortedAll s.heap its out.toArray).get? b = some o := fun b o e => sortedAll_old e
  obtain ⟨n, hat⟩ := sortedAll_at s.heap its out.toArray
  have hfr : H (s.heap.objs.size + 1) = none := I.hok.fresh (Nat.le_succ _)
  refine ⟨.ref (s.heap.objs.size + 1), upd H (s.heap.objs.size + 1) (.lst (zs.map (·.1))), I.laid (t' := s.toks) kp (Nat.le_succ _) ⟨?_, out, n, hv, hat⟩, rfl, q _ (zs.map (·.2)) _ (dpAll_zip fun z hz => dpAll_zipmem hd z (hperm.mem_iff.mp hz)) ?_ ?_ hfr⟩
  · rw [List.length_map, hperm.length_eq, List.length_zip, sizeLine_eq]
    omega
  · have := hperm.map (·.2)
    rw [e1] at this
    exact this
  · rw [List.pairwise_map]
    refine hsort.imp fun {d e} h => ?_
    rw [dataLe_not] at h
    simpa using h
theorem cr_sortDtK {X : Cx} {K : PySem.W.Frag} (h : X.K = K) (hu : X.A.units + 64 < cLine) : CallR X (.builtin "sorted") (rSortDt K) := h ▸ cr_sortDt hu
/-! ### list(d.values()) -/
def rValsL : V → Hp → VK → Prop := fun x H Q => ∃ (d : Addr) (kvs : List (Key × V)), x = .ref d ∧ H d = some (.dK kvs) ∧ ∀ p, H p = none → Q (.ref p) (upd H p (.lst (kvs.map (·.2))))
def tListVals (te : TE) : TE := fun σ H Q => te σ H fun x H1 => rValsL x H1 Q
theorem vals_of_at2 : ∀ {xs : List V} {us : List Value}, xs.length = us.length → (∀ (j : Nat) (x : V) (u : Value), xs[j]? = some x → us[j]? = some u → RelV x u) → Vals xs us
  | [], [], _, _ => .nil
  | x :: xs, u :: us, h, k => .cons (k 0 x u rfl rfl) (vals_of_at2 (Nat.succ.inj h) fun j x u h1 h2 => k (j + 1) x u h1 h2)
theorem kv_at : ∀ {kvs : List (Key × V)} {vs : List (Key × Value)}, KV kvs vs → ∀ {j : Nat} {q : Key × V} {p : Key × Value}, kvs[j]? = some q → vs[j]? = some p → RelV q.2 p.2
  | _, _, .cons h t, 0, _, _, h1, h2 => by cases h1; cases h2; exact h.2
  | _, _, .cons h t, j + 1, _, _, h1, h2 => kv_at t (j := j) h1 h2
theorem pe_listVals {X : Cx} {e : Expr} {te : TE} {p apos cpos pos : Pos} (hc : X.calm = true) (he : PE X e te) (hg : Gl X "list") (hm : X.mg "list" = none) (hv : bootBuiltins "list" = some (.type "list")) (hbase : attributeBase e "values" X.env (eval e X.env) = eval e X.env := by rfl) (hline : (apos.endLine == cpos.line) = true := by rfl)
    (hs : starEach [.Call (.Attribute e "values" apos) [] [] cpos] X.env = (false, eval (.Call (.Attribute e "values" apos) [] [] cpos) X.env) :: starEach [] X.env := by rfl) :
    PE X (.Call (.Name "list" p) [.Call (.Attribute e "values" apos) [] [] cpos] [] pos) (tListVals te) := by
  refine ⟨fun pins s σ H Q I hq => wpAny_Call_Name_kw (ld_blt I hg hm hv (PyProof.Rows.callWith_type1 ?_ hs rfl))⟩
  rw [hs]
  refine Calls.spliced_cons ?_
  refine wpAny_Call_method (T := "dict") (id := "dict.values") hbase rfl hline F.plainAttrs_dict F.slot_dict_values F.type_dict_values (thn (he.run pins s σ H _ I hq) fun u s1 ⟨x, H1, I1, rx, d, kvs, ex, hd, q⟩ => ?_)
  subst ex
  obtain rfl : u = Value.ref d := rx
  obtain ⟨hz, hs0, vs, kv, hdo⟩ := I1.hok d _ hd
  obtain ⟨ep, hat⟩ := hdo.dictAt
  have lk : kvs.length = vs.length := Paired.length kv
  have I2 : Inv X pins σ H1 { s1 with heap := s1.heap.push { cls := .type "dict_values", data := .fields #[.ref d] } } := I1.kept (t' := s1.toks) fun b ob e => Heap.get?_push_of_some _ e
  refine ⟨hdo.typeIs, hdo.mapOf.noDict, ?_⟩
  refine method_meetsIn F.slot_dict_values F.entry_dict_values rfl (PySem.evalArgs_none ⟨rfl, hdo.typeIs, F.args_dict_values_1 _, _, meets_dict_values (mixKind X.prog X.w) d hs0, ⟨vs, hdo⟩, Calls.spliced_nil ?_⟩)
  refine PySem.W.kdl_call (PySem.W.kdl_values (knd := mixKind X.prog X.w) (kvs := vs) (ep := ep)) (I1.ok.hd hc) ⟨⟨_, Heap.get?_push_size _ rfl, rfl, rfl⟩, hat.push _⟩ (by rw [← lk]; exact hz) fun h' tk acc c hk hS hacc => ?_
  refine ⟨.ref _, _, I2.laid (t' := tk) hk (Nat.le_refl _) (show ObjOk X.prog X.w _ _ _ (.lst (kvs.map (·.2))) from ⟨by rw [List.length_map]; exact hz, acc.toList, c, vals_of_at2 ?_ fun j x u h1 h2 => ?_, by rw [Array.toArray_toList]; exact hS⟩), rfl, q _ (I2.hok.fresh (Nat.le_refl _))⟩
  · have el : acc.toList.length = acc.size := by simp
    rw [List.length_map, el, hacc.1, lk]
  · obtain ⟨k, hky⟩ := hacc.2 j u (by rw [← Array.getElem?_toList]; exact h2)
    rw [List.getElem?_map, Option.map_eq_some_iff] at h1
    obtain ⟨qv, h3, rfl⟩ := h1
    exact kv_at kv h3 hky
end Bx

set_option Elab.async false
set_option linter.all false
set_option maxRecDepth 100000
set_option maxHeartbeats 4000000
/-! Ex: defs that raise an own error, their calls within a try, by position and all by name. -/
namespace Bx
open PySem PySem.Spec PyProof.Rows L2
theorem FunC.okX {P : Program} {w : World} {K : PySem.W.Frag} {mg : Str → Option Value} {base : Heap} {x qual : Str} {st : Stmt} {f : Addr} {fd : FuncData} {c : Addr} {N ps : List Str} {k : Nat} {sp : Sp} (F : FunC K x qual st f fd c) (S : FnScope N ps (defScope st)) (len : ∀ vs H Q E, sp vs H Q E → vs.length = ps.length)
    (hbody : ∀ (A : Around) (outer : List Env) (s : Shared) (H : Hp) (vs : List V) (Q : VK) (E : XK), Room k (A.deeper (envOfC qual (defScope st) s.heap.objs.size f (.ref c))) → sp vs H Q E →
      ∃ t, PSs (cxOf (L2.CX P w) P w K mg base N qual (defScope st) f (.ref c) A outer s H E) (defBody st) t ∧ t { nx := fun _ H' => Q .non H', rt := Q } (start N vs) H) : FnOk P w K mg base (L2.CX P w) (k + 1) f fd ps sp := by
  obtain ⟨oc, od, kV, doc, pm, an, ct, osl, rfl, lk, hcd⟩ := F.ex
  exact fn_of lk hcd S len fun A outer s H vs Q E hr hsp => hbody A outer s H vs Q E hr hsp
/-- an own error class over ValueError, without an __init__ of its own -/
structure Xc (K : PySem.W.Frag) (mg : Str → Option Value) (x : Str) (C : Addr) : Prop where
  g : mg x = some (.ref C)
  x : PySem.W.excIn K C [.type "ValueError", .type "Exception", .type "BaseException", .type "object"] "ValueError.__new__" = true
  k : PySem.W.keepIn K (.ref C) = true
  b : PySem.W.subIn K (.ref C) (.type "BaseException") = some true
  t : PySem.W.typeIn K (.ref C) = some (.type "type")
/-- raise C('..') -/
theorem ps_raiseC {X : Cx} {W : WX} {x m : Str} {C : Addr} {j : Nat} {p p2 pos pos' : Pos} (hc : X.calm = true) (tk : Takes X W) (q : Xc X.K X.mg x C) (hg : Gl X x) (hdb : (x == ("__debug__" : Str)) = false := by decide) :
    PS X (.Raise (some (.Call (.Name x p) [.Constant (.str m) j p2] [] pos)) none pos') (fun _ σ H => W (.ref C) none σ H) :=
  ps_raise hc tk (pmk_own PySem.F.excBase_ValueError q.x q.g q.k (raises_own q.b q.t) hg hdb)
/-- a callee that may raise -/
structure CalX (P : Program) (w : World) (K : PySem.W.Frag) (mg : Str → Option Value) (base : Heap) (k : Nat) (x : Str) (ps : List Str) (sp : Sp) : Prop where
  ex : ∃ (f : Addr) (fd : FuncData), FnOk P w K mg base (L2.CX P w) k f fd ps sp ∧ mg x = some (.ref f) ∧ PySem.W.keepIn K (.ref f) = true ∧ Binds K fd ps []
structure CalXK (P : Program) (w : World) (K : PySem.W.Frag) (mg : Str → Option Value) (base : Heap) (k : Nat) (x : Str) (ps ks : List Str) (g : {α : Type} → List α → List α → List α) (sp : Sp) : Prop where
  ex : ∃ (f : Addr) (fd : FuncData), FnOk P w K mg base (L2.CX P w) k f fd ps sp ∧ mg x = some (.ref f) ∧ PySem.W.keepIn K (.ref f) = true ∧ KBinds K fd ps ks g g
section
variable {X : Cx} {k : Nat} {x : Str} {ps ks : List Str} {sp : Sp} {p pos : Pos} {e : Expr} {es : List Expr} {t tk' : TA} {W : WX} {g : {α : Type} → List α → List α → List α} {kws : List Keyword}
theorem pe_calS (C : CalX X.prog X.w X.K X.mg X.base k x ps sp) (hr : Room k X.A) (tk : Takes X W) (hg : Gl X x) (ha : PA X (e :: es) t) (hdb : (x == ("__debug__" : Str)) = false := by decide) (he : starEach (e :: es) X.env = (false, eval e X.env) :: starEach es X.env := by rfl) (hpl : (backTo pos (starEach es X.env)).any (·.1) = false := by rfl) :
    PE X (.Call (.Name x p) (e :: es) [] pos) (tCallS sp (WE W) t) := by
  obtain ⟨f, fd, h1, h2, h3, h4⟩ := C.ex
  exact pe_callS h1 hr hg h2 h3 h4 (fun σ => passAt tk σ) ha hdb he hpl
def tCallSK (sp : Sp) (gV : List V → List V → List V) (E : L2.St → XK) (tk : TA) : TE := fun σ H Q => tk σ H fun zs H2 => sp (gV [] zs) H2 Q (E σ)
theorem pe_calSK (C : CalXK X.prog X.w X.K X.mg X.base k x ps ks g sp) (hr : Room k X.A) (tk : Takes X W) (hg : Gl X x) (hkw : PK X kws tk') (hall : (backToKw pos (keywordEach kws X.env)).all (·.1.isSome) = true := by rfl) (hks : (backToKw pos (keywordEach kws X.env)).filterMap (·.1) = ks := by rfl)
    (hdb : (x == ("__debug__" : Str)) = false := by decide)
    (hpl : ((backTo pos (starEach [] X.env)).any (·.1) || (backToKw pos (keywordEach kws X.env)).any (·.1.isNone)) = false := by rfl) : PE X (.Call (.Name x p) [] kws pos) (tCallSK sp g (WE W) tk') := by
  obtain ⟨f, fd, F, hm, hk, hb⟩ := C.ex
  refine ⟨fun pins s σ H Q I h => wpAny_Call_Name_kw (ld_glob I hg hm (PySem.W.callWith_KW0 (h₀ := X.base) I.ok.mod.kin hk hall (thn (hkw.run pos pins s σ H _ I h) fun ws s2 ⟨zs, H2, I2, rz, q2⟩ => ⟨I2.kIn, ?_⟩) hpl) hdb)⟩
  rw [hks]
  have r2 := hb.rel (vs := []) (us := []) .nil rz
  have hl : (g [] ws).length = ps.length := by rw [← r2.length]; exact F.len _ _ _ _ q2
  refine wpAny_call (codeAny_mono (F.run X.A X.stack s2 H2 ⟨[], ks.zip ws⟩ (g [] ws) (g [] zs) Q (WE W σ) hr I2.env0 (hb.to s2 [] ws I2.kIn hl) r2 q2) fun r s' hq => ?_)
  cases r with
  | error e => exact passAt tk σ pins H2 s2 e s' I2 hq
  | ok fl =>
    cases fl with
    | ret u => exact I2.after hq
    | _ => exact False.elim hq
end
end Bx

set_option Elab.async false
set_option linter.all false
set_option maxRecDepth 100000
set_option maxHeartbeats 4000000
/-! Ids: index of a tuple's data; len(set(t)) of a tuple of unlike ints; a dict comprehension over a range. -/
namespace Bx
open PySem PySem.Spec PyProof.Rows L2
section
variable {X : Cx}
/-- t.index(x): the first place of an equal one -/
def rIndexT (K : PySem.W.Frag) : V → List V → Hp → VK → Prop := fun x xs H Q => ∃ (a : Addr) (y : V) (d : PyData) (ds : List PyData) (j : Nat) (z : PyData), x = V.ref a ∧ xs = [y] ∧ Dp K H (V.ref a) (.tuple ds) ∧ Dp K H y d ∧
  SeqAt.shaped (.tuple ds) = true ∧ SeqAt.shaped d = true ∧ ds[j]? = some z ∧ PyData.eqv z d = true ∧ (∀ (m : Nat) (z' : PyData), m < j → ds[m]? = some z' → PyData.eqv z' d = false) ∧ Q (.int (j : Nat)) H
theorem mt_indexT (hu : X.A.units + 65 < cLine) : MtR X "tuple.index" (rIndexT X.K) := by
  intro pins s σ H x xs v us Q I rx rxs h
  obtain ⟨a, y, d, ds, j, z, rfl, rfl, hl, hy, sl, sd, hz, hzj, hno, q⟩ := h
  cases rx
  cases rxs with
  | cons ry rt =>
    rename_i uy ut
    cases rt
    obtain ⟨bs, r1⟩ := Dp.reads I d y uy hy ry
    have hxs : PyData.canLayAll0 ds = true := SeqAt.canLay_of_shaped sl
    have hroom : X.A.units + 1 + min (PyData.depthAll ds) d.depth < cLine := room_in_shaped sd hu
    cases hl with
    | tup hs ha =>
      obtain ⟨its, rv, pl, hlen⟩ := I.tuple hs
      obtain ⟨⟨cls, dd, data, sls⟩, ho, hc, n, hdt⟩ := pl
      simp only at hc hdt
      subst hc
      subst hdt
      obtain ⟨as, h4⟩ := Dp.readsAll I ds _ its ha rv
      have hn : its.length = ds.length := SeqAt.ReadsAll.length ds its as h4
      have hmap : its.map (SeqAt.readOf s.heap) = ds := SeqAt.readsAll_map ds its as hxs h4
      obtain ⟨hjd, _⟩ := List.getElem?_eq_some_iff.mp hz
      have hjl : j < its.length := by omega
      have hj : j < its.toArray.size := by simpa using hjl
      have at_ : ∀ (m : Nat) (hm : m < its.toArray.size) (z' : PyData), ds[m]? = some z' → SeqAt.readOf s.heap its.toArray[m] = z' := by
        intro m hm z' hz'
        have hml : m < its.length := by simpa using hm
        rw [← hmap, List.getElem?_map, List.getElem?_eq_getElem hml] at hz'
        have e1 : SeqAt.readOf s.heap its[m] = z' := Option.some.inj (show some (SeqAt.readOf s.heap its[m]) = some z' from hz')
        simpa using e1
      refine call_meets PySem.F.slot_tuple_index ⟨_, ho, rfl⟩ PySem.F.entry_tuple_index (PySem.F.args_tuple_index_2 _ _)
        (TI.tuple_indexAt a its.toArray n dd sls uy (fun u => PyData.eqv (SeqAt.readOf s.heap u) d) j hj ?_ ?_) ⟨ho, SeqAt.items_eqAt (vs := its.toArray) (show ReadsAll s.heap its.toArray.toList ds as from h4) r1 hxs (SeqAt.canLay_of_shaped sd) hroom, ?_⟩
      · show PyData.eqv (SeqAt.readOf s.heap its.toArray[j]) d = true
        rw [at_ j hj z hz]
        exact hzj
      · intro m hm hmj
        have hmd : m < ds.length := by omega
        have hz' : ds[m]? = some ds[m] := List.getElem?_eq_getElem hmd
        show PyData.eqv (SeqAt.readOf s.heap its.toArray[m]) d = false
        rw [at_ m hm _ hz']
        exact hno m _ hmj hz'
      · exact ⟨.int (j : Nat), H, I.tok _, ⟨_, rfl⟩, q⟩
theorem mt_indexTK {K : PySem.W.Frag} (h : X.K = K) (hu : X.A.units + 65 < cLine) : MtR X "tuple.index" (rIndexT K) := h ▸ mt_indexT hu
/-- len(set(t)), the ints of t unlike -/
def tLenSetT (K : PySem.W.Frag) (ta : TE) : TE := fun σ H Q => ta σ H fun x H1 => ∃ (l : Addr) (ns : List Int), x = V.ref l ∧ SqT K H1 l (ns.map V.int) ∧ ns.length ≤ 1000 ∧ ns.Nodup ∧ Q (.int ns.length) H1
theorem pe_lenSetT {a : Expr} {ta : TE} {p p2 q pos : Pos} (hc : X.calm = true) (hg : Gl X "len") (hm : X.mg "len" = none) (hg2 : Gl X "set") (hm2 : X.mg "set" = none) (ha : PE X a ta)
    (na : starEach [a] X.env = (false, eval a X.env) :: starEach [] X.env := by rfl) : PE X (.Call (.Name "len" p) [.Call (.Name "set" p2) [a] [] q] [] pos) (tLenSetT X.K ta) := by
  refine ⟨fun pins s σ H Q I h => ?_⟩
  refine Call_ (ld_blt I hg hm PySem.boot_len ?_)
  refine PyProof.Rows.callWith_builtin1 (PyProof.Rows.args_cons ?_ rfl) rfl rfl
  refine Call_ (ld_blt I hg2 hm2 PyProof.Rows.boot_set ?_)
  refine PyProof.Rows.callWith_type1 (PyProof.Rows.args_cons (thn (ha.run pins s σ H _ I h) fun v s1 ⟨x, H1, I1, r1, q1⟩ => PyProof.Rows.args_nil ?_) na) na rfl
  obtain ⟨l, ns, rfl, hq, h1, hnd, q1⟩ := q1
  cases r1
  obtain ⟨its, r, pt, hz⟩ := I1.tuple hq
  have hi : IntsAre its.toArray.toList ns := ints_of_vals r
  refine call_set_tupI ns (I1.ok.hd hc) (show s1.heap.IsTuple l its.toArray from pt) hi (by unfold scanBound; omega) fun h' tk c R1 hcn k => ?_
  refine PyProof.Rows.args_nil ?_
  obtain ⟨o, es, ep, t, ho, hex, hdt, g, nd, hmm, hb, hf, hn, hr, hl2⟩ := R1
  have I2 : Inv X pins σ H1 { s1 with heap := h', toks := tk } := I1.kept fun b o e => k b o e
  have hsz : es.size = ns.length := by
    have hp := (List.perm_ext_iff_of_nodup nd hnd).mpr fun j => by rw [← hmm j, decide_eq_true_eq]
    have := hp.length_eq
    rw [List.length_map, Array.length_toList] at this
    exact this
  refine call_len_set ho hex hdt hf (by omega) ⟨.int ns.length, H1, I2.tok _, ⟨_, by rw [hsz]⟩, q1⟩
end
theorem dc_range {lo : Int} {n : Nat} {g : TG} {tt : TT} {tk tv : TE} {vs : List Nat} {σ : L2.St} {H1 : Hp} {D : Addr} {Qd : Hp → Prop} (Pv : Nat → Hp → Prop) (h0 : Pv 0 (upd H1 D (.dK [])))
    (hs : ∀ i H, i < n → Pv i H → g (.int (lo + i)) (wipe σ vs) H fun σ2 H2 => wipe σ2 vs = wipe σ vs ∧ tt σ2 H2 fun b H3 =>
      if b = true then tk σ2 H3 fun y H4 => tv σ2 H4 fun z H5 => ∃ kvs k, y = kV k ∧ H5 D = some (.dK kvs) ∧ kvs.length < sizeLine ∧ Pv (i + 1) (upd H5 D (.dK (putK kvs k z))) else Pv (i + 1) H3) (hd : ∀ H, Pv n H → Qd H) :
    ∃ W : Nat → Nat → Hp → Prop, (∃ m, W 0 m (upd H1 D (.dK []))) ∧ ∀ i m H, W i m H →
      ((Itr lo n).stop i H ∧ Qd H) ∨ ((Itr lo n).go i H ∧ ∃ Nx : Hp → Prop, (∀ H', Nx H' → ∃ m', m' < m ∧ W (i + 1) m' H') ∧ ∀ x H', (Itr lo n).yld i H x H' → g x (wipe σ vs) H' fun σ2 H2 => wipe σ2 vs = wipe σ vs ∧ tt σ2 H2 fun b H3 =>
        if b = true then tk σ2 H3 fun y H4 => tv σ2 H4 fun z H5 => ∃ kvs k, y = kV k ∧ H5 D = some (.dK kvs) ∧ kvs.length < sizeLine ∧ Nx (upd H5 D (.dK (putK kvs k z))) else Nx H3) := by
  refine ⟨fun i m H => m = n - i ∧ i ≤ n ∧ Pv i H, ⟨n, by simp, Nat.zero_le _, h0⟩, ?_⟩
  rintro i m H ⟨rfl, hi, p⟩
  by_cases hlt : i < n
  · refine .inr ⟨hlt, Pv (i + 1), fun H' p' => ⟨n - (i + 1), by omega, rfl, hlt, p'⟩, fun x H' y => ?_⟩
    obtain ⟨e, y⟩ := y
    subst e y
    exact hs i _ hlt p
  · have e : i = n := by omega
    subst e
    exact .inl ⟨Nat.le_refl _, hd H p⟩
end Bx

set_option Elab.async false
set_option linter.all false
set_option maxRecDepth 100000
set_option maxHeartbeats 4000000
/-! Xt: tuples known exactly from where they are made; a method of such a tuple. -/
namespace Bx
open PySem PySem.Spec PyProof.Rows L2
/-- a tuple whose object is known: no dict of its own -/
structure XTup (H : Hp) (p : Addr) (xs : List V) : Prop where
  ex : ∃ o : Obj, H p = some (.frz o (.tup xs)) ∧ o.cls = .type "tuple" ∧ o.dict = none
theorem XTup.sqT {K : PySem.W.Frag} {H : Hp} {p : Addr} {xs : List V} (h : XTup H p xs) : SqT K H p xs := by
  obtain ⟨o, e, _⟩ := h.ex
  exact .inl (.inr ⟨o, e⟩)
theorem XTup.ext {H H' : Hp} {p : Addr} {xs : List V} (h : XTup H p xs) (x : Ext H H') : XTup H' p xs := by
  obtain ⟨o, e, e2, e3⟩ := h.ex
  exact ⟨o, x.keep _ _ e (fun z => z), e2, e3⟩
theorem XTup.new {H : Hp} {p : Addr} {xs : List V} {o : Obj} (h1 : o.cls = .type "tuple") (h2 : o.dict = none) : XTup (upd H p (.frz o (.tup xs))) p xs := ⟨o, upd_same, h1, h2⟩
section
variable {X : Cx}
/-- tuple(x) of a list, known exactly -/
def kTupX (K : PySem.W.Frag) (x : V) (H : Hp) (Q : VK) : Prop :=
  ∃ p xs, x = V.ref p ∧ SqL K H p xs ∧ ∀ q (o : Obj), H q = none → o.cls = .type "tuple" → o.dict = none → Q (.ref q) (upd H q (.frz o (.tup xs)))
theorem rl_tupleX (pins : List (Addr × Obj)) (s : Shared) (σ : L2.St) (H : Hp) (x : V) (v : Value) (Q : VK) (I : Inv X pins σ H s) (r : RelV x v) (h : kTupX X.K x H Q) :
    wpAny (model X.prog X.w) X.A (call (.type "tuple") [v]) (EP X pins σ Q) X.xe s := by
  obtain ⟨p, xs, rfl, hs, q⟩ := h
  obtain rfl : v = .ref p := r
  obtain ⟨its, rv, pl, hz⟩ := I.list hs
  refine call_tuple_list pl.isList (fun h' hk => ?_) (by rw [List.size_toArray, ← rv.length]; exact hz)
  have I1 : Inv X pins σ H { s with heap := h' } := I.kept (t' := s.toks) hk
  have I2 : Inv X pins σ (upd H h'.objs.size (.frz { cls := .type "tuple", data := .seq its.toArray } (.tup xs))) { s with heap := h'.push { cls := .type "tuple", data := .seq its.toArray } } :=
    I1.laid (t' := s.toks) (fun b o e => Heap.get?_push_of_some _ e) (Nat.le_refl _) (show ObjOk X.prog X.w _ _ _ (.frz _ (.tup xs)) from ⟨by simp [Heap.get?, Heap.push], hz, its, rv, IsTup.new _ _⟩)
  exact ⟨.ref h'.objs.size, _, I2, rfl, q _ _ (I1.hok.fresh (Nat.le_refl _)) rfl rfl⟩
theorem pe_tupleOfX {a : Expr} {ta : TE} {p pos : Pos} (hg : Gl X "tuple") (hm : X.mg "tuple" = none) (ha : PE X a ta) (na : starEach [a] X.env = (false, eval a X.env) :: starEach [] X.env := by rfl) :
    PE X (.Call (.Name "tuple" p) [a] [] pos) (tThen ta (kTupX X.K)) := by
  refine ⟨fun pins s σ H Q I h => ?_⟩
  exact Call_ (ld_blt I hg hm boot_tuple (PyProof.Rows.callWith_type1 (one_arg ha I h (fun v s2 x H2 I2 r q => rl_tupleX pins s2 σ H2 x v Q I2 r q) na) na))
/-- a method of a tuple known exactly -/
def tBMX (r : V → List V → Hp → VK → Prop) (to : TE) (t : TA) : TE := fun σ H Q => to σ H fun x H1 => (∃ p ys, x = V.ref p ∧ XTup H1 p ys) ∧ t σ H1 fun xs H2 => r x xs H2 Q
theorem pe_bmX {o e : Expr} {es : List Expr} {to : TE} {t : TA} {name : Str} {id : String} {apos cpos : Pos} {r : V → List V → Hp → VK → Prop} (slot : Slot "tuple" name id) (hty : typeOf (.builtin id) = pure (.type "method_descriptor")) (hm : MtR X id r) (ho : PE X o to) (ha : PA X (e :: es) t)
    (hbase : attributeBase o name X.env (eval o X.env) = eval o X.env := by rfl)
    (hfew : ((backTo cpos (starEach (e :: es) X.env)).all (fun x => !x.1) && (backToKw cpos (keywordEach [] X.env)).all (fun x => x.1.isSome)
      && decide ((e :: es).length + ([] : List Keyword).length + (if ([] : List Keyword).isEmpty then 0 else 1) < 30)) = true := by rfl)
    (hline : (apos.endLine == cpos.line) = true := by rfl) (hs : starEach (e :: es) X.env = (false, eval e X.env) :: starEach es X.env := by rfl) (hplain : (backTo cpos (starEach es X.env)).any (·.1) = false := by rfl) :
    PE X (.Call (.Attribute o name apos) (e :: es) [] cpos) (tBMX r to t) := by
  refine ⟨fun pins s σ H Q I h => ?_⟩
  refine wpAny_Call_method_late hbase hfew hline rfl (thn (ho.run pins s σ H _ I h) fun v s1 ⟨x, H1, I1, r1, ty, q1⟩ => ?_)
  obtain ⟨p, ys, ex, hx⟩ := ty
  subst ex
  obtain rfl : v = Value.ref p := r1
  obtain ⟨o1, e1, e2, e3⟩ := hx.ex
  have hobj : s1.heap.get? p = some o1 := (I1.hok p _ e1).1
  refine ⟨"tuple", id, PySem.F.plainAttrs_tuple, slot, hty, ⟨o1, hobj, e2⟩, (fun a ea => by cases ea; exact ⟨o1, hobj, e3⟩), ?_⟩
  have hA := ha.run cpos pins s1 σ H1 _ I1 q1
  rw [hs] at hA ⊢
  refine Calls.callWith_builtin (by show (false || (backTo cpos (starEach es X.env)).any (·.1)) = false; rw [hplain] <;> rfl) (Calls.evalArgs_plain ?_)
  exact thn hA fun us s2 ⟨vs, H2, I2, r2, q2⟩ => hm pins s2 σ H2 (.ref p) vs (.ref p) us Q I2 rfl r2 q2
end
end Bx

set_option Elab.async false
set_option linter.all false
set_option maxRecDepth 100000
set_option maxHeartbeats 4000000
/-! Rs: t[::-1] of a tuple, sorted(set(t)) of ints, >= of tuples of ints, a chain of three. -/
namespace Bx
open PySem PySem.Spec PyProof.Rows L2

/-! ### t[::-1] -/
theorem pick_back {α : Type} (xs : Array α) : ∀ n : Nat, n ≤ xs.size → (List.range n).filterMap (fun (m : Nat) => xs[n - 1 - m]?) = (xs.toList.take n).reverse
  | 0, _ => by simp
  | n + 1, h => by
    have ih := pick_back xs n (by omega)
    have e1 : (fun (m : Nat) => xs[n + 1 - 1 - (m + 1)]?) = fun m => xs[n - 1 - m]? := by
      funext m
      have : n + 1 - 1 - (m + 1) = n - 1 - m := by omega
      rw [this]
    have hx : xs[n]? = some xs[n] := Array.getElem?_eq_getElem (by omega)
    have hx2 : xs.toList[n]? = some xs[n] := by rw [Array.getElem?_toList]; exact hx
    rw [List.range_succ_eq_map, List.filterMap_cons, List.filterMap_map]
    show (match xs[n + 1 - 1 - 0]? with
      | none => _
      | some b => _) = _
    have e2 : n + 1 - 1 - 0 = n := by omega
    rw [e2, hx]
    show xs[n] :: List.filterMap (fun (m : Nat) => xs[n + 1 - 1 - (m + 1)]?) (List.range n) = _
    rw [e1, ih, List.take_add_one, hx2]
    simp
theorem fm_congr {α β : Type} (f g : α → Option β) : ∀ l : List α, (∀ x ∈ l, f x = g x) → l.filterMap f = l.filterMap g
  | [], _ => rfl
  | x :: l, h => by
    rw [List.filterMap_cons, List.filterMap_cons, h x List.mem_cons_self, fm_congr f g l fun y hy => h y (List.mem_cons_of_mem _ hy)]
theorem pick_rev (xs : Array Value) : ((List.range xs.size).filterMap fun (m : Nat) => xs[(((xs.size : Nat) : Int) - 1 + (m : Int) * (-1)).toNat]?).toArray = xs.toList.reverse.toArray := by
  have h := pick_back xs xs.size (Nat.le_refl _)
  have e2 : (List.range xs.size).filterMap (fun (m : Nat) => xs[(((xs.size : Nat) : Int) - 1 + (m : Int) * (-1)).toNat]?) = (List.range xs.size).filterMap (fun (m : Nat) => xs[xs.size - 1 - m]?) := by
    exact fm_congr _ _ _ fun m hm => by
      have z := List.mem_range.mp hm
      have : (((xs.size : Nat) : Int) - 1 + (m : Int) * (-1)).toNat = xs.size - 1 - m := by omega
      rw [this]
  rw [e2, h]
  have : xs.toList.take xs.size = xs.toList := List.take_of_length_le (by rw [Array.length_toList]; exact Nat.le_refl _)
  rw [this]
section
variable {prog : Program} {w : World} {A : Around} {E : Value → Shared → Prop} {s : Shared}
theorem part_is {v : Value} {o : Option Int} {Q : Option Int → Shared → Prop} (p : IsPart v o) (h : Q o s) : wpAny (model prog w) A (Builtin.Slice.slicePartIndex v) Q E s := by
  cases p with
  | none => exact PyProof.Rows.slicePart_none h
  | int i t => exact PyProof.Rows.slicePart_int h
theorem applied_back {sl : Addr} {vl vu vs : Value} {n : Nat} {Q : Int × Int × Nat → Shared → Prop} (hs : s.heap.IsSliceOf sl vl vu vs) (pl : IsPart vl none) (pu : IsPart vu none) (ps : IsPart vs (some (-1)))
    (h : Q ((n : Int) - 1, -1, n) s) : wpAny (model prog w) A (Builtin.Slice.sliceApplied (.ref sl) (pure (n : Int))) Q E s := by
  obtain ⟨os, a1, a2, a3⟩ := id hs
  unfold Builtin.Slice.sliceApplied Builtin.Slice.sliceFields
  refine wpAny_bind (wpAny_bind (wpAny_field a1 a3 (x := vl) rfl (wpAny_bind (wpAny_field a1 a3 (x := vu) rfl (wpAny_bind (wpAny_field a1 a3 (x := vs) rfl (wpAny_pure ?_)))))))
  refine wpAny_bind (part_is ps ?_)
  show wpAny _ _ (if ((-1 : Int) == 0) = true then _ else _) _ _ s
  rw [if_neg (by decide)]
  refine wpAny_bind (part_is pl (wpAny_bind (part_is pu (wpAny_bind (wpAny_pure ?_)))))
  show wpAny _ _ (pure ((n : Int) - 1, (-1 : Int), Builtin.Slice.slicePlaces ((n : Int) - 1) (-1) (-1))) _ _ s
  have e : Builtin.Slice.slicePlaces ((n : Int) - 1) (-1) (-1) = n := by
    unfold Builtin.Slice.slicePlaces
    rw [if_neg (by decide)]
    by_cases z : (n : Int) - 1 > -1
    · rw [if_pos z]
      have : -(-1 : Int) = 1 := by decide
      rw [this, Int.ediv_one]
      omega
    · rw [if_neg z]
      omega
  rw [e]
  exact wpAny_pure h
theorem getItem_back {t sl : Addr} {items : Array Value} {vl vu vs : Value} {Q : Value → Shared → Prop} (ht : PyProof.Rows.IsTup s.heap t items) (hs : s.heap.IsSliceOf sl vl vu vs) (pl : IsPart vl none) (pu : IsPart vu none) (ps : IsPart vs (some (-1)))
    (hsz : items.size ≤ sizeLine) (h : Q (.ref s.heap.objs.size) { s with heap := s.heap.push { cls := .type "tuple", data := .seq items.toList.reverse.toArray } }) : wpAny (model prog w) A (getItem (.ref t) (.ref sl)) Q E s := by
  have room : sizeOk (.seq items.toList.reverse.toArray) := by
    show items.toList.reverse.toArray.size ≤ sizeLine
    rw [List.size_toArray, List.length_reverse, Array.length_toList]
    exact hsz
  obtain ⟨os, a1, a2, a3⟩ := id hs
  have isS : s.TypeIs (.ref sl) "slice" := ⟨os, a1, a2⟩
  unfold getItem
  try with_reducible refine wpAny_holding ?_
  first | refine wpAny_bind (wpAny_pure ?_) | skip
  refine wpAny_bind (wpAny_sequenceKey ht.typeIs (by decide) (wpAny_bind (wpAny_callSpecial?_slot (name := Str.ofString "__getitem__") ht.typeIs PyProof.Rows.slot_tuple_getitem (wpAny_call_entry PyProof.Rows.slot_tuple_getitem ht.typeIs entry_tuple_getitem ?_ (args_tuple_getitem _ _)))))
  show wpAny _ _ (Builtin.Tuple.tupleItemsOf (.ref t) >>= _) _ _ s
  refine wpAny_bind (PyProof.Rows.tupleItemsOf_ ht (wpAny_bind (wpAny_typeOf isS ?_)))
  rw [if_pos (by decide)]
  refine wpAny_bind (applied_back hs pl pu ps ?_)
  have no : ¬ ((((items.size : Nat) : Int) - 1 == 0 && (-1 : Int) == 1 && items.size == items.size) = true) := by
    intro q
    rw [Bool.and_eq_true, Bool.and_eq_true] at q
    exact absurd q.1.2 (by decide)
  show wpAny _ _ (if (((items.size : Nat) : Int) - 1 == 0 && (-1 : Int) == 1 && items.size == items.size) = true then _ else _) _ _ s
  rw [if_neg no, pick_rev]
  first
    | exact wpAny_bind (m := Builtin.Tuple.tupleExact _) (wpAny_newObj_type (wpAny_pure ⟨_, rfl, wpAny_pure h⟩) room)
    | exact wpAny_bind (wpAny_bind (m := Builtin.Tuple.tupleExact _) (wpAny_newObj_type (wpAny_pure ⟨_, rfl, wpAny_pure h⟩) room))
end
section
variable {X : Cx}
def tRevT (K : PySem.W.Frag) (te : TE) : TE := fun σ H Q => te σ H fun x H1 => ∃ a xs, x = .ref a ∧ SqT K H1 a xs ∧ ∀ p, H1 p = none → Q (.ref p) (upd H1 p (.tup xs.reverse))
theorem pe_revT {e : Expr} {te : TE} {k : Nat} {p1 p2 p3 pos : Pos} (he : PE X e te) : PE X (.Subscript e (.Slice none none (some (.UnaryOp .USub (.Constant (.int 1) k p1) p2)) p3) pos) (tRevT X.K te) := by
  refine ⟨fun pins s σ H Q I h => Subscript_ (thn (he.run pins s σ H _ I h) fun v s1 ⟨x, H1, I1, r1, q1⟩ => ?_)⟩
  obtain ⟨a, xs, ex, hx, q⟩ := q1
  subst ex
  cases r1
  have back : PO X (some (.UnaryOp .USub (.Constant (.int 1) k p1) p2)) (tPart (tUn (rU fun i => .int (-i)) (tC (.int 1)))) := po_some (pe_un un_neg pe_int)
  refine wpAny_Slice (thn (po_none.run pins s1 σ H1 (fun o H2 => o = none ∧ H2 = H1) I1 ⟨rfl, rfl⟩) fun vl s2 ⟨l, H2, I2, pl, el, e2⟩ => ?_)
  subst el e2
  refine thn (po_none.run pins s2 σ H2 (fun o H3 => o = none ∧ H3 = H2) I2 ⟨rfl, rfl⟩) fun vu s3 ⟨u, H3, I3, pu, eu, e3⟩ => ?_
  subst eu e3
  refine thn (back.run pins s3 σ H3 (fun o H4 => o = some (-1) ∧ H4 = H3) I3 ⟨1, rfl, -1, rfl, rfl, rfl⟩) fun vs s4 ⟨o, H4, I4, ps, eo, e4⟩ => ?_
  subst eo e4
  have I5 : Inv X pins σ H4 { s4 with heap := s4.heap.push { cls := .type "slice", data := .fields #[vl, vu, vs] } } := I4.kept (t' := s4.toks) fun b ob z => Heap.get?_push_of_some _ z
  obtain ⟨its, r, ht, hz⟩ := I5.tuple hx
  have hlen := r.length
  show wpAny (model X.prog X.w) X.A (subscriptTail e (.Slice none none (some (.UnaryOp .USub (.Constant (.int 1) k p1) p2)) p3) (.ref a) (.ref s4.heap.objs.size)) (EP X pins σ Q) X.xe { s4 with heap := s4.heap.push { cls := .type "slice", data := .fields #[vl, vu, vs] } }
  refine tail_any (ops := [.ref a, .ref s4.heap.objs.size]) ht.typeIs (PyProof.Rows.slot_tuple_getitem.lookup) ?_ (by with_unfolding_all rfl)
  refine getItem_back (items := its.toArray) ht (Heap.IsSliceOf.new _ vl vu vs) pl pu ps (by rw [List.size_toArray]; omega) ?_
  refine ⟨.ref _, _, I5.laid (t' := s4.toks) (o := .tup xs.reverse) (fun b ob z => Heap.get?_push_of_some _ z) (Nat.le_refl _) ?_, rfl, q _ (I5.hok.fresh (Nat.le_refl _))⟩
  exact ⟨by rw [List.length_reverse]; exact hz, _, r.reverse, IsTup.new _ _⟩

/-! ### >= of tuples of ints -/
def rGeT (K : PySem.W.Frag) : R2 := fun x y H Q => ∃ (a b : Addr) (ns ms : List Int), x = .ref a ∧ y = .ref b ∧ SqT K H a (ns.map V.int) ∧ SqT K H b (ms.map V.int) ∧
  Q (.bl (Ob.lexAt (fun j => decide (ns.getD j 0 = ms.getD j 0)) (fun j => decide (ms.getD j 0 ≤ ns.getD j 0)) (decide (ns.length ≥ ms.length)) 0 (min ns.length ms.length))) H
theorem op_geT (hu : X.A.units < cLine) : OpR X (compareOp .GtE) (rGeT X.K) := by
  intro pins s σ H x y v u Q I rx ry h
  obtain ⟨a, b, ns, ms, rfl, rfl, ha, hb, q⟩ := h
  cases rx
  cases ry
  obtain ⟨its, r1, p1, _⟩ := I.tuple ha
  obtain ⟨its2, r2, p2, _⟩ := I.tuple hb
  have i1 : IntsAre its ns := Vals.ints r1
  have i2 : IntsAre its2 ms := Vals.ints r2
  have n1 : its.toArray.size = ns.length := by rw [List.size_toArray]; exact i1.length
  have n2 : its2.toArray.size = ms.length := by rw [List.size_toArray]; exact i2.length
  have g1 : ∀ j (z : j < its.toArray.size), ∃ t, its.toArray[j] = .int (ns.getD j 0) t := fun j z => PyProof.Rows.IntsAre.int_at i1 _ _ (by simp at z; simp [z])
  have g2 : ∀ j (z : j < its2.toArray.size), ∃ t, its2.toArray[j] = .int (ms.getD j 0) t := fun j z => PyProof.Rows.IntsAre.int_at i2 _ _ (by simp at z; simp [z])
  have main := Ob.RcOp.tuples_ge (A := X.A) (s := s) (e := fun j => decide (ns.getD j 0 = ms.getD j 0)) (r := fun j => decide (ms.getD j 0 ≤ ns.getD j 0)) p1 p2 hu (fun j z1 z2 => by
    obtain ⟨t, et⟩ := g1 j z1
    obtain ⟨t', et'⟩ := g2 j z2
    rw [et, et']
    have z : decide (ns.getD j 0 = ms.getD j 0) = (ns.getD j 0 == ms.getD j 0) := by
      by_cases c : ns.getD j 0 = ms.getD j 0
      · rw [decide_eq_true c]; exact (beq_iff_eq.mpr c).symm
      · rw [decide_eq_false c]; exact (beq_eq_false_iff_ne.mpr c).symm
    rw [z]
    exact SeqAt.EqAt.int_int _ _ _ _) (fun j z1 z2 _ => by
    obtain ⟨t, et⟩ := g1 j z1
    obtain ⟨t', et'⟩ := g2 j z2
    rw [et, et']
    exact Ob.RcOp.ge_int _ _ _ _)
  rw [n1, n2] at main
  show wpAny _ X.A (richCompare .GtE _ _) _ _ s
  exact main _ _ _ _ ⟨.bl _, H, I, rfl, q⟩

/-! ### sorted(set(t)) -/
end
section
variable {P : Program} {w : World} {A : Around} {E : Value → Shared → Prop} {s : Shared}
theorem sort_setI {a : Addr} {S : Int → Bool} {n : Nat} {Q : Value → Shared → Prop} (R : SetR w s.heap a S n) (hh : A.handled = none)
    (hQ : ∀ s' b (out : Array Value) (c : Nat) (ms : List Int), (∀ d o, s.heap.get? d = some o → s'.heap.get? d = some o) → s'.gens = s.gens → s'.os = s.os → s.heap.objs.size ≤ b → s'.heap.get? b = some (seqObj "list" out c) →
      IntsAre out.toList ms → ms.length = n → ms.Pairwise (· < ·) → (∀ k, k ∈ ms ↔ S k = true) → Q (.ref b) s') : wpAny (model P w) A (call (.builtin "sorted") [.ref a]) Q E s := by
  obtain ⟨o, es, ep, t, ho, hex, hd, gd, nd, mem, bd, fit, num, ris, led⟩ := R
  apply Calls.call_function_entry kind_sorted plain_sorted entry_sorted (args_sorted1 _)
  unfold Builtin.«sorted»
  apply wpAny_bind (m := checkCount "sorted" 1 1 _)
  apply wpAny_pure
  refine wpAny_bind (collect_set (A := A.in1) hh ⟨o, ho, hex.1, hd⟩ fit bd ris led fun s1 vs kp hz hg hos pm => ?_)
  have small : vs.length ≤ sizeLine := by
    rw [pm.length_eq, List.length_map, Array.length_toList, sizeLine_eq]
    unfold scanBound at bd
    omega
  have allI : ∀ v ∈ vs, ∃ i t, v = Value.int i t := fun v hv => by
    obtain ⟨e, he, rfl⟩ := List.mem_map.mp (pm.mem_iff.mp hv)
    obtain ⟨k, tk, e1⟩ := gd e he
    exact ⟨k, tk, e1.1⟩
  have isI := SrtO.ints_iv allI
  have ivs : (vs.map SrtO.iv).Perm (es.toList.map keyOf) := by
    have q := pm.map SrtO.iv
    rw [List.map_map] at q
    have e : (es.toList.map (SrtO.iv ∘ Prod.snd)) = es.toList.map keyOf := List.map_congr_left fun e he => by
      obtain ⟨k, tk, e1⟩ := gd e he
      show SrtO.iv e.2 = keyOf e
      unfold keyOf
      rw [e1.1]
      rfl
    rw [← e]
    exact q
  refine wpAny_bind (wpAny_newList ?_ small)
  have oL : (s1.heap.push (seqObj "list" vs.toArray 0)).get? s1.heap.objs.size = some (seqObj "list" vs.toArray 0) := Heap.get?_push_size _ rfl
  refine wpAny_bind (wpAny_holding (wpAny_call_entry (s := { s1 with heap := s1.heap.push (seqObj "list" vs.toArray 0) }) slot_list_sort ⟨_, oL, rfl⟩ entry_list_sort
    (SrtO.list_sort_ord SrtO.swo_int oL small (fun h2 => SrtO.ints_sortable isI h2) fun out sr sb => ⟨_, rfl, ?_⟩) (args_list_sort _)))
  obtain ⟨c, hc⟩ := sortedHeap_at (vs := vs) (out := out.toArray) oL
  obtain ⟨k1, k2, k3⟩ := SrtO.ints_out isI sr sb
  have k4 := k2.trans ivs
  have nd2 : (out.map SrtO.iv).Nodup := k4.nodup_iff.mpr nd
  refine wpAny_pure ⟨_, rfl, hQ _ s1.heap.objs.size out.toArray c (out.map SrtO.iv) (fun d u e => ?_) hg hos hz hc (by simpa using k1) ?_ ?_ fun k => ?_⟩
  · have q := kp d u e
    have lt := Heap.lt_size q
    exact (sortedHeap_old (Nat.ne_of_lt lt) (by rw [size_push']; exact Nat.lt_succ_of_lt lt)).trans (Heap.get?_push_of_some _ q)
  · rw [k4.length_eq, List.length_map, Array.length_toList]
    exact num
  · exact (k3.and nd2).imp fun {x y} z => by omega
  · rw [k4.mem_iff]
    exact (mem k).symm
end
section
variable {X : Cx}
def tSortSetT (K : PySem.W.Frag) (ta : TE) : TE := fun σ H Q => ta σ H fun x H1 => ∃ (l : Addr) (ns : List Int), x = V.ref l ∧ SqT K H1 l (ns.map V.int) ∧ ns.length ≤ 1000 ∧
  ∀ (ms : List Int) (p : Addr), ms.Pairwise (· < ·) → (∀ k, k ∈ ms ↔ k ∈ ns) → H1 p = none → Q (.ref p) (upd H1 p (.lst (ms.map V.int)))
theorem pe_sortSetT {a : Expr} {ta : TE} {p p2 q pos : Pos} (hc : X.calm = true) (hg : Gl X "sorted") (hm : X.mg "sorted" = none) (hg2 : Gl X "set") (hm2 : X.mg "set" = none) (hb : bootBuiltins ("sorted" : Str) = some (.builtin "sorted")) (ha : PE X a ta)
    (na : starEach [a] X.env = (false, eval a X.env) :: starEach [] X.env := by rfl) : PE X (.Call (.Name "sorted" p) [.Call (.Name "set" p2) [a] [] q] [] pos) (tSortSetT X.K ta) := by
  refine ⟨fun pins s σ H Q I h => ?_⟩
  refine Call_ (ld_blt I hg hm hb ?_)
  refine PyProof.Rows.callWith_builtin1 (PyProof.Rows.args_cons ?_ rfl) rfl rfl
  refine Call_ (ld_blt I hg2 hm2 PyProof.Rows.boot_set ?_)
  refine PyProof.Rows.callWith_type1 (PyProof.Rows.args_cons (thn (ha.run pins s σ H _ I h) fun v s1 ⟨x, H1, I1, r1, q1⟩ => PyProof.Rows.args_nil ?_) na) na rfl
  obtain ⟨l, ns, rfl, hq, h1, q1⟩ := q1
  cases r1
  obtain ⟨its, r, pt, hz⟩ := I1.tuple hq
  have hi : IntsAre its.toArray.toList ns := ints_of_vals r
  refine call_set_tupI ns (I1.ok.hd hc) (show s1.heap.IsTuple l its.toArray from pt) hi (by unfold scanBound; omega) fun h' tk c R1 hcn k => ?_
  refine PyProof.Rows.args_nil ?_
  have I2 : Inv X pins σ H1 { s1 with heap := h', toks := tk } := I1.kept fun b o e => k b o e
  refine sort_setI R1 (I2.ok.hd hc) fun s' b out c2 ms kp g o hb2 hgt hout hlen pw hmem => ?_
  have len : (ms.map V.int).length ≤ sizeLine := by
    rw [List.length_map, sizeLine_eq]
    omega
  have hn : H1 b = none := I2.hok.fresh hb2
  have J := I2.call (ch := []) (h' := s'.heap) (g' := s'.gens) (d' := s'.drawn) (t' := s'.toks) (H' := upd H1 b (.lst (ms.map V.int))) (Un.laid kp hb2 hn) (I2.hok.laid kp hb2 ⟨len, out.toList, c2, vals_of_ints hout, hgt⟩) (by rw [g]; exact I2.bare) (fun _ z => nomatch z)
  have e : s' = { ({ s1 with heap := h', toks := tk } : Shared) with heap := s'.heap, gens := s'.gens, drawn := s'.drawn, toks := s'.toks } := by
    cases s'; cases s1; cases o; rfl
  rw [e]
  exact ⟨.ref b, _, J, rfl, q1 ms b pw (fun k => by rw [hmem, decide_eq_true_eq]) hn⟩

/-! ### a chain of three -/
def tChain3 (r r' r2 : R2) (ta tb tc td : TE) : TE := fun σ H Q => ta σ H fun x H1 => tb σ H1 fun y H2 => r x y H2 fun z H3 => ∃ k, z = .bl k ∧ (if k = true then
    tc σ H3 fun z1 H4 => r' y z1 H4 fun z2 H5 => ∃ k2, z2 = .bl k2 ∧ (if k2 = true then td σ H5 fun z3 H6 => r2 z1 z3 H6 Q else Q (.bl false) H5) else Q (.bl false) H3)
theorem pe_chain3 {a b c d : Expr} {ta tb tc td : TE} {pos : Pos} {op op' op2 : CmpOp} {r r' r2 : R2} (ho : OpR X (compareOp op) r) (ho' : OpR X (compareOp op') r') (ho2 : OpR X (compareOp op2) r2) (ha : PE X a ta) (hb : PE X b tb) (hc : PE X c tc) (hd : PE X d td)
    (hm : lastMarks [op, op', op2] [b, c, d] = false := by with_unfolding_all rfl) : PE X (.Compare a [op, op', op2] [b, c, d] pos) (tChain3 r r' r2 ta tb tc td) := by
  refine ⟨fun pins s σ H Q I h => ?_⟩
  refine Compare_chain (thn (ha.run pins s σ H _ I h) fun v s1 ⟨x, H1, I1, r1, q1⟩ => chain_link (thn (hb.run pins s1 σ H1 _ I1 q1) fun u s2 ⟨y, H2, I2, r2', q2⟩ =>
    thn (ho pins s2 σ H2 x y v u _ I2 r1 r2' q2) fun d1 s3 ⟨z, H3, I3, r3, k, e, q3⟩ => ?_)) hm
  subst e
  cases r3
  refine wpAny_truthy_bool ?_
  cases k with
  | false => exact ite_ff ⟨.bl false, H3, I3, rfl, q3⟩
  | true =>
    refine ite_tt (chain_link (thn (hc.run pins s3 σ H3 _ I3 q3) fun w1 s4 ⟨z1, H4, I4, r4, q4⟩ => thn (ho' pins s4 σ H4 y z1 u w1 _ I4 r2' r4 q4) fun d2 s5 ⟨z2, H5, I5, r5, k2, e2, q5⟩ => ?_))
    subst e2
    cases r5
    refine wpAny_truthy_bool ?_
    cases k2 with
    | false => exact ite_ff ⟨.bl false, H5, I5, rfl, q5⟩
    | true => exact ite_tt (chain_last (thn (hd.run pins s5 σ H5 _ I5 q5) fun w2 s6 ⟨z3, H6, I6, r6, q6⟩ => ho2 pins s6 σ H6 z1 z3 w1 w2 Q I6 r4 r6 q6))
end
end Bx

set_option Elab.async false
set_option linter.all false
set_option maxRecDepth 100000
set_option maxHeartbeats 4000000
/-! Rt: sorted of a tuple of data. -/
namespace Bx
open PySem PySem.Spec PyProof.Rows L2
open PySem.W (EachIs AllAlike Sortable dataLe)
section
variable {prog : Program} {w : World} {A : Around} {E : Value → Shared → Prop} {s : Shared}
theorem collect_tup {t : Addr} {vs : List Value} {Q : List Value → Shared → Prop} (ht : PyProof.Rows.IsTup s.heap t vs.toArray) (hsz : vs.length ≤ sizeLine)
    (h : Q vs { s with heap := (s.heap.push (seqObj "list" #[] 0)).update s.heap.objs.size (Obj.mapSeq (· ++ vs.toArray)) }) : wpAny (model prog w) A (collect (.ref t)) Q E s := by
  obtain ⟨o, ho, hc, n, hd⟩ := id ht
  unfold collect
  apply wpAny_bind
  apply wpAny_runValue
  apply codeAny_builtin entry_proto_collect'
  show wpAny _ _ (do again (.builtin "list.__iadd__" ⟨[← newList [], .ref t], []⟩)) _ _ s
  apply wpAny_bind
  refine wpAny_newList (wpAny_pure ⟨Code.quiet_builtin _ (by decide +kernel), codeAny_builtin entry_list_iadd' ?_⟩)
  show wpAny _ _ (Builtin.List.listExtendWith (.ref s.heap.objs.size) (.ref t) (.ref s.heap.objs.size)) _ _ { s with heap := s.heap.push (seqObj "list" #[] 0) }
  unfold Builtin.List.listExtendWith
  have here : (s.heap.push (seqObj "list" #[] 0)).get? t = some o := Heap.get?_push_of_some _ ho
  have fresh : (s.heap.push (seqObj "list" #[] 0)).get? s.heap.objs.size = some (seqObj "list" #[] 0) := Heap.get?_push_size _ rfl
  refine wpAny_bind (wpAny_typeOf (T := "tuple") ⟨o, here, hc⟩ ?_)
  have yes : (Value.type "tuple" == Value.type "tuple") = true := by rfl
  rw [if_pos (by rw [yes]; simp)]
  refine wpAny_bind (listItems_at here hd (wpAny_bind (listItems_at (xs := #[]) (n := 0) fresh rfl ?_)))
  rw [if_neg (by simp)]
  refine wpAny_bind (listUpdate_at (xs := #[]) (n := 0) fresh rfl (wpAny_pure ?_) (Nat.zero_le _) (by show (#[] ++ vs.toArray).size ≤ sizeLine + 1; simp only [Array.size_append, List.size_toArray, List.length_nil]; omega))
  show wpAny (model prog w) A (do
      let o ← load s.heap.objs.size
      match o.data with
      | .seq xs _ => pure xs.toList
      | _ => unsupported "internal:collect") Q E { s with heap := (s.heap.push (seqObj "list" #[] 0)).update s.heap.objs.size (Obj.mapSeq (· ++ vs.toArray)) }
  refine wpAny_bind (wpAny_load (get?_update_seq fresh _) ?_)
  have e : ((#[] : Array Value) ++ vs.toArray).toList = vs := by simp
  show wpAny _ _ (pure ((#[] : Array Value) ++ vs.toArray).toList) Q E _
  rw [e]
  exact wpAny_pure h
theorem sortT_data {β : Type} {vs : List Value} {bs : List β} {enc : β → PyData} {R : Value → β → Prop} {t : Addr} {Q : Value → Shared → Prop} (ht : PyProof.Rows.IsTup s.heap t vs.toArray) (e : EachIs R vs bs) (er : EachIs (fun v b => ∃ as, Reads s.heap v (enc b) as) vs bs)
    (hal : AllAlike (bs.map enc)) (hk : Sortable (bs.map enc)) (hL : bs.length ≤ sizeLine) (hu : ∀ b, b ∈ bs → A.units + 3 + (enc b).depth < cLine)
    (h : ∀ out, out.length = bs.length → EachIs R out (bs.mergeSort (dataLe false enc)) → Q (.ref (s.heap.objs.size + 1)) { s with heap := sortedAll s.heap vs (List.toArray out) }) : wpAny (model prog w) A (call (.builtin "sorted") [.ref t]) Q E s := by
  have hz : vs.length ≤ sizeLine := by rw [e.length]; exact hL
  apply Calls.call_function_entry kind_sorted plain_sorted entry_sorted (args_sorted1 _)
  unfold Builtin.«sorted»
  apply wpAny_bind (m := checkCount "sorted" 1 1 _)
  apply wpAny_pure
  refine wpAny_bind (collect_tup ht hz (wpAny_bind (wpAny_newList ?_ hz)))
  have sz : ((s.heap.push (seqObj "list" #[] 0)).update s.heap.objs.size (Obj.mapSeq (· ++ vs.toArray))).objs.size = s.heap.objs.size + 1 := by
    rw [Heap.size_update, size_push']
  have new : (((s.heap.push (seqObj "list" #[] 0)).update s.heap.objs.size (Obj.mapSeq (· ++ vs.toArray))).push (seqObj "list" vs.toArray 0)).get? (s.heap.objs.size + 1) = some (seqObj "list" vs.toArray 0) := by
    rw [← sz]
    exact Heap.get?_push_size _ rfl
  have keep : ∀ b o, s.heap.get? b = some o → (((s.heap.push (seqObj "list" #[] 0)).update s.heap.objs.size (Obj.mapSeq (· ++ vs.toArray))).push (seqObj "list" vs.toArray 0)).get? b = some o := fun b o q => by
    refine Heap.get?_push_of_some _ ?_
    rw [Heap.get?_update_ne _ _ _ _ (Nat.ne_of_lt (Heap.lt_size q))]
    exact Heap.get?_push_of_some _ q
  show wpAny _ _ _ _ _ { s with heap := ((s.heap.push (seqObj "list" #[] 0)).update s.heap.objs.size (Obj.mapSeq (· ++ vs.toArray))).push (seqObj "list" vs.toArray 0) }
  rw [sz]
  refine wpAny_bind (wpAny_holding (PySem.W.list_sort_data (s := { s with heap := ((s.heap.push (seqObj "list" #[] 0)).update s.heap.objs.size (Obj.mapSeq (· ++ vs.toArray))).push (seqObj "list" vs.toArray 0) }) (enc := enc) (R := R) new e
    (er.mono fun v b ⟨as, r⟩ => ⟨as, PyProof.Rows.Reads.keeps keep r, fun hm => by
      obtain ⟨o, ho⟩ := PyProof.On.reads_mem_get r _ hm
      exact absurd (Heap.lt_size ho) (Nat.not_lt.mpr (Nat.le_succ _))⟩) hal hk hL (fun b hb => by
      have := hu b hb
      show A.units + 1 + 1 + _ < _
      omega) fun out ho he => ?_))
  exact wpAny_pure ⟨_, rfl, h out ho he⟩
end
section
variable {X : Cx}
/-- sorted(t) of a tuple of data that compare -/
def rSortTd (K : PySem.W.Frag) : List V → Hp → VK → Prop := fun vs H Q => ∃ (a : Addr) (xs : List V) (ds : List PyData), vs = [V.ref a] ∧ SqT K H a xs ∧ DpAll K H xs ds ∧ AllAlike ds ∧ Sortable ds ∧ ds.length ≤ 100000 ∧ (∀ d ∈ ds, d.depth ≤ 40) ∧
  ∀ ys es p, ys.Perm xs → DpAll K H ys es → es.Perm ds → es.Pairwise (fun d e => PySem.W.dataLt e d = false) → H p = none → Q (.ref p) (upd H p (.lst ys))
theorem cr_sortTd (hu : X.A.units + 64 < cLine) : CallR X (.builtin "sorted") (rSortTd X.K) := by
  intro pins s σ H vs us Q I r h
  obtain ⟨a, xs, ds, rfl, hs, hd, ha, hk, hn, hdp, q⟩ := h
  rw [Vals.ref1 r]
  obtain ⟨its, rv, ht, hz⟩ := I.tuple hs
  have e1 : (xs.zip ds).map (·.2) = ds := List.map_snd_zip (Nat.le_of_eq (dpAll_len hd).symm)
  have e0 : (xs.zip ds).map (·.1) = xs := List.map_fst_zip (Nat.le_of_eq (dpAll_len hd))
  have el : its.length = (xs.zip ds).length := by rw [← rv.length, List.length_zip, dpAll_len hd]; omega
  have rd : ∀ (i : Nat) (u : Value) (z : V × PyData), its[i]? = some u → (xs.zip ds)[i]? = some z → RelV z.1 u ∧ ∃ as, Reads s.heap u z.2 as := fun i u z h1 h2 => by
    obtain ⟨h3, h4⟩ := zip_at h2
    have h5 := vals_at rv h3 h1
    obtain ⟨as, h6⟩ := Dp.reads I z.2 z.1 u (dpAll_zipmem hd z (List.mem_of_getElem? h2)) h5
    exact ⟨h5, as, h6⟩
  refine sortT_data (vs := its) (bs := xs.zip ds) (R := fun v (b : V × PyData) => RelV b.1 v) (enc := fun b : V × PyData => b.2) ht (each_of el fun i u z h1 h2 => (rd i u z h1 h2).1) (each_of el fun i u z h1 h2 => (rd i u z h1 h2).2) (by rw [e1]; exact ha) (by rw [e1]; exact hk) (by rw [List.length_zip, sizeLine_eq]; omega)
    (fun b hb => by have := hdp b.2 (by rw [← e1]; exact List.mem_map.mpr ⟨b, hb, rfl⟩); omega) fun out ho he => ?_
  have hv := vals_of_each he
  have hperm : ((xs.zip ds).mergeSort (dataLe false fun b : V × PyData => b.2)).Perm (xs.zip ds) := List.mergeSort_perm ..
  have tot := PySem.W.sortLe_total (listOrd itemOrd) false (fun b : V × PyData => PySem.W.keyToks b.2)
  have hsort : ((xs.zip ds).mergeSort (dataLe false fun b : V × PyData => b.2)).Pairwise (fun a b => dataLe false (fun b : V × PyData => b.2) a b = true) := List.pairwise_mergeSort (fun a b c h1 h2 => tot.trans a b c h1 h2) (fun a b => Bool.or_eq_true_iff.mpr (tot.total a b)) _
  generalize (xs.zip ds).mergeSort (dataLe false fun b : V × PyData => b.2) = zs at hv hperm hsort he
  have kp : ∀ b o, s.heap.get? b = some o → (sortedAll s.heap its out.toArray).get? b = some o := fun b o e => sortedAll_old e
  obtain ⟨n, hat⟩ := sortedAll_at s.heap its out.toArray
  have hfr : H (s.heap.objs.size + 1) = none := I.hok.fresh (Nat.le_succ _)
  refine ⟨.ref (s.heap.objs.size + 1), upd H (s.heap.objs.size + 1) (.lst (zs.map (·.1))), I.laid (t' := s.toks) kp (Nat.le_succ _) ⟨?_, out, n, hv, hat⟩, rfl, q _ (zs.map (·.2)) _ ?_ (dpAll_zip fun z hz => dpAll_zipmem hd z (hperm.mem_iff.mp hz)) ?_ ?_ hfr⟩
  · rw [List.length_map, hperm.length_eq, List.length_zip, sizeLine_eq]
    omega
  · have := hperm.map (·.1)
    rw [e0] at this
    exact this
  · have := hperm.map (·.2)
    rw [e1] at this
    exact this
  · rw [List.pairwise_map]
    refine hsort.imp fun {d e} h => ?_
    rw [dataLe_not] at h
    simpa using h
end
end Bx

set_option Elab.async false
set_option linter.all false
set_option maxRecDepth 100000
set_option maxHeartbeats 4000000
/-! St: a text times a number. -/
namespace Bx
open PySem PySem.Spec PyProof.Rows L2 TL
theorem fold_cat {α : Type} : ∀ (ls : List (Array α)) (a : Array α), (ls.foldl (· ++ ·) a).toList = a.toList ++ (ls.map Array.toList).flatten
  | [], a => by simp
  | l :: ls, a => by
    rw [List.foldl_cons, fold_cat ls (a ++ l)]
    simp
theorem str_len (z : Str) : z.length = (tl z).length := by
  show z.cps.size = z.cps.toList.length
  rw [Array.length_toList]
theorem str_ext {x y : Str} (h : tl x = tl y) : x = y := by
  cases x with
  | mk a => cases y with
    | mk b =>
      have h : a.toList = b.toList := h
      rw [Array.toList_inj.mp h]
section
variable {X : Cx}
def rRepS : R2 := fun x y H Q => ∃ (z : Str) (n : Nat), x = .str z ∧ y = .int (n : Int) ∧ n ≤ 1000 ∧ z.length ≤ 100 ∧ ∀ u : Str, tl u = (List.replicate n (tl z)).flatten → Q (.str u) H
theorem op_repS : OpR X (binaryOp .Mult) rRepS := by
  intro pins s σ H x y v u Q I rx ry h
  obtain ⟨z, n, rfl, rfl, hn, hz, q⟩ := h
  obtain ⟨t, rfl⟩ := rx
  obtain ⟨t', rfl⟩ := ry
  have hr : (decide ((n : Int) < -(2 ^ 63 : Int)) || decide ((n : Int) ≥ 2 ^ 63)) = false := by
    rw [decide_eq_false (by omega), decide_eq_false (by omega)]
    rfl
  refine P.mul_str hr (fun h1 _ => ?_) (fun h1 _ => ?_) ?_
  · have h2 : (0 : Int) < n := by omega
    have h3 : (z.length : Int) ≤ (2 ^ 63 - 1) / n := by
      rw [Int.le_ediv_iff_mul_le h2]
      have : (z.length : Int) * n ≤ 100 * 1000 := Int.mul_le_mul (by omega) (by omega) (by omega) (by omega)
      omega
    omega
  · have : z.length * (n : Int).toNat ≤ 100 * 1000 := Nat.mul_le_mul hz (by omega)
    unfold Builtin.Str.tooLong
    rw [sizeLine_eq]
    exact decide_eq_false (by omega)
  · by_cases h1 : (n : Int) < 1
    · rw [if_pos h1]
      have h0 : n = 0 := by omega
      subst h0
      exact ⟨by decide, .str Str.empty, H, I.tok _, ⟨_, rfl⟩, q _ rfl⟩
    · rw [if_neg h1]
      by_cases h2 : ((n : Int) == 1 || z.length == 0) = true
      · rw [if_pos h2]
        refine ⟨.str z, H, I, ⟨t, rfl⟩, q z ?_⟩
        rcases Bool.or_eq_true_iff.mp h2 with e | e
        · have : n = 1 := by
            have := eq_of_beq e
            omega
          subst this
          simp
        · have : z.length = 0 := eq_of_beq e
          rw [str_len] at this
          rw [List.length_eq_zero_iff.mp this]
          simp
      · rw [if_neg h2]
        have e : tl (⟨(List.replicate (n : Int).toNat z.cps).foldl (· ++ ·) #[]⟩ : Str) = (List.replicate n (tl z)).flatten := by
          show ((List.replicate (n : Int).toNat z.cps).foldl (· ++ ·) #[]).toList = _
          rw [fold_cat, Int.toNat_natCast, List.map_replicate]
          rfl
        refine ⟨?_, .str _, H, I.tok _, ⟨_, rfl⟩, q _ e⟩
        have h3 : (tl (⟨(List.replicate (n : Int).toNat z.cps).foldl (· ++ ·) #[]⟩ : Str)).length ≤ 100 * 1000 := by
          rw [e, List.length_flatten, List.map_replicate, List.sum_replicate_nat, ← str_len]
          exact Nat.le_trans (Nat.mul_le_mul hn hz) (by decide)
        rw [← str_len] at h3
        show _ ≤ sizeLine
        rw [sizeLine_eq]
        omega
end
end Bx

set_option Elab.async false
set_option linter.all false
set_option maxRecDepth 100000
set_option maxHeartbeats 4000000
/-! Gj: sep.join(a generator expression). -/
namespace Gx
open PySem PySem.Spec PyProof.Rows L2 GenW
section
variable {X : Cx} {scope : Scope} {N : List Str} {src : List (Option Nat)} {c P : Addr}
variable {o elt tg iter : Expr} {ifs : List Expr} {apos cpos gpos : Pos} {wi : TI} {g : TG} {tt : TT} {te to : TE} {vs : List Nat} {k : Nat}
abbrev tGJoin (P : Addr) (to : TE) (wi : TI) (g : TG) (tt : TT) (te : TE) (vs : List Nat) (src : List (Option Nat)) : TE := fun σ H Q => to σ H fun v H1 => ∃ sep : Str, v = .str sep ∧
  tGen P wi g tt te vs src (fun _ => pTup) (fun Q ys H => ∃ zs : List Str, ys = zs.map V.str ∧ (zs.map (·.length)).sum + zs.length * sep.length ≤ 16777216 ∧ Q (.str (Txt.join sep zs)) H) σ H1 Q
theorem pe_gjoin (G : GParts X k scope N tg ifs elt g tt te) (hr : Room (k + 3) X.A) (ho : PE X o to) (TB : TabB X.base X.mg c P) (hcode : X.env.code = .ref c) (ok : GOk X.N X.env.scope scope N src) (hi : PI X tg iter wi)
    (hs : ∀ v, genFold iter X.env v = pure v := by intro _; rfl) (hbase : attributeBase o "join" X.env (eval o X.env) = eval o X.env := by rfl)
    (hfew : ((backTo cpos (starEach [.GeneratorExp elt [⟨tg, iter, ifs, 0⟩] scope gpos] X.env)).all (fun x => !x.1) && (backToKw cpos (keywordEach [] X.env)).all (fun x => x.1.isSome)
      && decide (([.GeneratorExp elt [⟨tg, iter, ifs, 0⟩] scope gpos] : List Expr).length + ([] : List Keyword).length + (if ([] : List Keyword).isEmpty then 0 else 1) < 30)) = true := by rfl)
    (hline : (apos.endLine == cpos.line) = true := by rfl)
    (he : starEach [.GeneratorExp elt [⟨tg, iter, ifs, 0⟩] scope gpos] X.env = (false, eval (.GeneratorExp elt [⟨tg, iter, ifs, 0⟩] scope gpos) X.env) :: starEach [] X.env := by rfl)
    (hplain : (backTo cpos (starEach [] X.env)).any (·.1) = false := by rfl) :
    PE X (.Call (.Attribute o "join" apos) [.GeneratorExp elt [⟨tg, iter, ifs, 0⟩] scope gpos] [] cpos) (tGJoin P to wi g tt te vs src) := by
  refine ⟨fun pins s σ H Q I h => ?_⟩
  refine wpAny_Call_method_late hbase hfew hline rfl (thn (ho.run pins s σ H _ I h) fun v s1 ⟨x', H1, I1, r1, sep, ex, q1⟩ => ?_)
  subst ex
  obtain ⟨tk, rfl⟩ := (show ∃ t, v = Value.str sep t from r1)
  refine ⟨"str", _, PySem.F.plainAttrs_str, PySem.F.slot_str_join, PySem.F.type_str_join, typeIs_str _ _ _, (fun _ e => nomatch e), ?_⟩
  rw [he]
  refine Calls.callWith_builtin (by show (false || (backTo cpos (starEach [] X.env)).any (·.1)) = false; rw [hplain] <;> rfl) (Calls.evalArgs_plain ?_)
  show wpAny _ _ (spliced ((false, eval (.GeneratorExp elt [⟨tg, iter, ifs, 0⟩] scope gpos) X.env) :: backTo cpos (starEach [] X.env))) _ _ s1
  refine Calls.spliced_cons (gen_make (gpos := gpos) (elt := elt) (ifs := ifs) hr TB hcode ok hi hs I1 q1 fun it fp tn J H1 H2 s4 code a go gi s5 q hT I4 T st hfp M => ?_)
  obtain ⟨W, ⟨m, w0⟩, turn⟩ := q H2 hT
  refine Calls.spliced_nil ?_
  refine wpAny_call (codeAny_call_builtin F.slot_str_join.plain F.entry_str_join (F.slot_str_join.check _ _ _ _ _ _ _ _ (typeIs_str _ _ _) (F.args_str_join_2 _ _) ?_))
  show wpAny _ X.A.in1 (Builtin.«str.join» ⟨[.str sep tk, .ref a], []⟩) _ _ s5
  rw [join_tree_other]
  have hTI : s5.TypeIs (.ref a) "generator" := Heap.IsGen.typeIs (s := s5) (M.gen _ M.obj)
  refine wpAny_bind (wpAny_typeOf hTI ?_)
  show wpAny _ X.A.in1 ((pyIter (.ref a)).tryCatch _ >>= fun it => collect it >>= fun items => joinTail sep items) _ _ s5
  refine wpAny_bind (wpAny_tryCatch (wpAny_pyIter_gen (M.gen _ M.obj) ?_))
  refine wpAny_bind (collect_gx (B := X.A.in1) G M ok I4 T st hfp (show X.A.in1.frames = some X.stack from I4.ok.frames) hr.in1 turn w0 fun s' ys H acc b q hv hle => ?_)
  obtain ⟨zs, rfl, hz, q⟩ := q
  obtain ⟨l, hl, ht⟩ := strsAre_values (strs_of_vals hv)
  subst ht
  have hok := joinOk_of hz
  unfold JoinOk at hok
  rw [Bool.not_eq_true'] at hok
  have g : Gives (joinTail sep (strValues l)) (joinMade sep l) := by
    have g0 := gives_joinTail sep l hok
    cases l with
    | nil => exact g0
    | cons p r => cases r with
      | nil => exact g0
      | cons q r' => exact g0
  rw [hl]
  have I5 := b.inv I4 fun b hb => (hfp b hb).1
  refine g X.prog X.w X.A (wants _ X.xe) s' (post_join l ⟨joinFit_length hok, fun t' k' => ?_⟩)
  exact ⟨.str _, H, I5.tok k', ⟨t', rfl⟩, q⟩
end
end Gx

set_option Elab.async false
set_option linter.all false
set_option maxRecDepth 100000
set_option maxHeartbeats 4000000
/-! Jt: not in a tuple of data; the texts of numbers. -/
namespace Bx
open PySem PySem.Spec PyProof.Rows L2
section
variable {X : Cx}
theorem op_notInDT (hu : X.A.units + 65 < cLine) : OpR X (compareOp .NotIn) (rInDT X.K true) := by
  intro pins s σ H x y v u Q I rx ry h
  obtain ⟨d, ds, hd, he, sd, se, q⟩ := h
  obtain ⟨as, r1⟩ := Dp.reads I d x v hd rx
  obtain ⟨bs, r2⟩ := Dp.reads I (.tuple ds) y u he ry
  refine SeqAt.notIn_tuple_reads r2 r1 (SeqAt.canLay_of_shaped se) (SeqAt.canLay_of_shaped sd) (PyProof.Rows.room_in_shaped sd hu) ⟨.bl (!ds.any fun y => y.eqv d), H, I, rfl, ?_⟩
  rw [Bool.true_xor] at q
  exact q
theorem op_notInDTK {K : PySem.W.Frag} (h : X.K = K) (hu : X.A.units + 65 < cLine) : OpR X (compareOp .NotIn) (rInDT K true) := h ▸ op_notInDT hu
end
open Gx GenW in
/-- tuple(..) over a source, whatever comes behind -/
theorem g_tupF {J : It} {n : Nat} {it : Nat → V} {te : TE} {vs : List Nat} {σg : L2.St} {H : Hp} {o : Nat} {Fin : List V → Hp → Prop} {Pw : Nat → List V → Hp → Prop} (S : ∀ i ys, Src J n it (Pw i ys)) (hn : n ≤ sizeLine) (hw : ∀ x, wipe (σg.set o (some x)) vs = σg) (h0 : Pw 0 [] H)
    (len : ∀ i ys H, Pw i ys H → ys.length ≤ i)
    (elt : ∀ i ys H (C : V → Hp → Prop), Pw i ys H → i < n → (∀ v H4, Pw (i + 1) (ys ++ [v]) H4 → C v H4) → te (σg.set o (some (it i))) H C)
    (fin : ∀ ys H, Pw n ys H → Fin ys H) :
    ∃ W : Nat → Nat → List V → Hp → Prop, (∃ m, W 0 m [] H) ∧ GTurn J (gName o) tYes te vs σg pTup Fin W := by
  refine ⟨fun i m ys H => Pw i ys H ∧ i ≤ n ∧ m = n - i, ⟨n, h0, Nat.zero_le _, by omega⟩, fun i m ys H ⟨hp, hi, hm⟩ => ?_⟩
  by_cases e : i = n
  · subst e
    exact .inl ⟨(S i ys).stop H hp, fin ys H hp⟩
  · have hlt : i < n := by omega
    refine .inr ⟨(S i ys).go i H hp hlt, fun x H' y => ?_⟩
    obtain ⟨rfl, rfl⟩ := (S i ys).yld i H x H' hp hlt y
    refine ⟨hw _, ?_⟩
    dsimp only [tYes]
    rw [if_pos rfl]
    exact elt i ys H' _ hp hlt fun v H4 h4 => ⟨by have := len i ys H' hp; omega, n - (i + 1), by omega, h4, hlt, rfl⟩
/-- the text of a whole number -/
def nTx (i : Int) : Str := Str.ofString (toString i)
theorem nTx_len {i : Int} {k : Nat} (hk : 0 < k) (h : i.natAbs < 10 ^ k) : (nTx i).length ≤ k + 1 := by
  have := int_text_length_le10 hk h
  rwa [nTx, PySem.ofString_length]
theorem strOk_num (i : Int) : PyData.strOk (nTx i) = true := by
  unfold PyData.strOk nTx
  rw [Str.ofString_eq_toList, Array.all_eq_true']
  intro x hx
  have hx : x ∈ (toString i).toList.map Char.toNat := by simpa using hx
  obtain ⟨c, _, rfl⟩ := List.mem_map.mp hx
  rw [decide_eq_true_eq]
  have := c.valid
  rcases this with z | z
  · have z : c.toNat < 55296 := z
    omega
  · have z : c.toNat < 1114112 := z.2
    omega
theorem strOk_append {x y : Str} (hx : PyData.strOk x = true) (hy : PyData.strOk y = true) : PyData.strOk (x ++ y) = true := by
  unfold PyData.strOk at *
  rw [Array.all_eq_true'] at *
  intro c hc
  have hc : c ∈ (x ++ y).cps.toList := by simpa using hc
  have e : (x ++ y).cps.toList = x.cps.toList ++ y.cps.toList := TL.tl_append x y
  rw [e] at hc
  rcases List.mem_append.mp hc with z | z
  · exact hx c (by simpa using z)
  · exact hy c (by simpa using z)
end Bx
namespace Bx
open PySem PySem.Spec PyProof.Rows L2
theorem pe_joinK {X : Cx} {K : PySem.W.Frag} {o e : Expr} {to te : TE} {apos pos : Pos} (h : X.K = K) (ho : PE X o to) (he : PE X e te) (hs : starEach [e] X.env = [(false, eval e X.env)] := by rfl) (hbase : attributeBase o "join" X.env (eval o X.env) = eval o X.env := by rfl) (hline : (apos.endLine == pos.line) = true := by rfl) :
    PE X (.Call (.Attribute o "join" apos) [e] [] pos) (tM1 (fun x xs H Q => ∃ a p, ∃ ys : List Str, x = .str a ∧ xs = [.ref p] ∧ (SqL K H p (ys.map V.str) ∨ SqT K H p (ys.map V.str)) ∧
      (ys.map (·.length)).sum + ys.length * a.length ≤ 16777216 ∧ Q (.str (Txt.join a ys)) H) to te) := h ▸ pe_join ho he hs hbase hline
theorem strOk_list {l : List Nat} (h : ∀ x ∈ l, x < 1114112) : PyData.strOk ⟨l.toArray⟩ = true := by
  unfold PyData.strOk
  rw [Array.all_eq_true']
  intro x hx
  rw [decide_eq_true_eq]
  exact h x (by simpa using hx)
theorem strOk_mem {s : Str} (h : PyData.strOk s = true) {x : Nat} (hx : x ∈ s.cps.toList) : x < 1114112 := by
  unfold PyData.strOk at h
  rw [Array.all_eq_true'] at h
  exact of_decide_eq_true (h x (by simpa using hx))
end Bx

set_option Elab.async false
set_option linter.all false
set_option maxRecDepth 100000
set_option maxHeartbeats 4000000
/-! Le: sorted(xs) of lots, some of which are empty. -/
namespace Bx
open PySem PySem.Spec PyProof.Rows L2 PySem.W
theorem lex_asym : ∀ {a b : List Int}, HT.lexLt a b = true → HT.lexLt b a = false
  | [], [], h => by cases h
  | [], _ :: _, _ => rfl
  | _ :: _, [], h => by cases h
  | x :: a, y :: b, h => by
    rw [HT.lexLt_cons] at h ⊢
    by_cases e : x = y
    · rw [if_pos e] at h
      rw [if_pos e.symm]
      exact lex_asym h
    · rw [if_neg e, decide_eq_true_eq] at h
      rw [if_neg (fun z => e z.symm), decide_eq_false_iff_not]
      omega
theorem lex_tr : ∀ {a b c : List Int}, HT.lexLt b a = false → HT.lexLt c b = false → HT.lexLt c a = false
  | a, b, [], h1, h2 => by
    cases b with
    | nil => exact h1
    | cons y b => cases h2
  | [], b, z :: c, h1, h2 => rfl
  | x :: a, [], z :: c, h1, h2 => by cases h1
  | x :: a, y :: b, z :: c, h1, h2 => by
    rw [HT.lexLt_cons] at h1 h2 ⊢
    by_cases e1 : y = x
    · rw [if_pos e1] at h1
      by_cases e2 : z = y
      · rw [if_pos e2] at h2
        rw [if_pos (e2.trans e1)]
        exact lex_tr h1 h2
      · rw [if_neg e2, decide_eq_false_iff_not] at h2
        rw [if_neg (by omega), decide_eq_false_iff_not]
        omega
    · rw [if_neg e1, decide_eq_false_iff_not] at h1
      by_cases e2 : z = y
      · rw [if_neg (by omega), decide_eq_false_iff_not]
        omega
      · rw [if_neg e2, decide_eq_false_iff_not] at h2
        rw [if_neg (by omega), decide_eq_false_iff_not]
        omega
theorem swo_lots {α : Type} (k : α → List Int) : SrtO.Swo fun v u => HT.lexLt (k v) (k u) := ⟨fun _ _ h => lex_asym h, fun _ _ _ h1 h2 => lex_tr h1 h2⟩
def TupO (h : Heap) : List Value → List (Option Value) → Prop
  | [], [] => True
  | v :: vs, f :: fs => (∃ a o xs n, v = .ref a ∧ h.get? a = some o ∧ o.cls = .type "tuple" ∧ o.data = .seq xs n ∧ xs[0]? = f) ∧ TupO h vs fs
  | _, _ => False
section
variable {M : Model} {A : Around} {E : Value → Shared → Prop} {s : Shared}
theorem opt_firsts : ∀ (vs : List Value) (fs : List (Option Value)) {Q : List (Option Value) → Shared → Prop}, TupO s.heap vs fs → Q fs s → wpAny M A (vs.mapM firstOfTuple') Q E s
  | [], [], _, _, h => by rw [List.mapM_nil]; exact wpAny_pure h
  | [], _ :: _, _, t, _ => t.elim
  | _ :: _, [], _, t, _ => t.elim
  | v :: vs, f :: fs, Q, t, h => by
    obtain ⟨⟨a, o, xs, n, rfl, ho, hc, hd, hf⟩, t⟩ := t
    rw [List.mapM_cons]
    refine wpAny_bind ?_
    rw [kas_first_eq]
    refine wpAny_bind (Looks.here (show Looks M s.heap (typeOf (.ref a)) o.cls from (Looks.ld ho).andThen .now) ?_)
    rw [hc, if_neg (by first | decide | simp)]
    refine wpAny_bind (listItems_at ho hd (wpAny_pure ?_))
    rw [hf]
    exact wpAny_bind (opt_firsts vs fs (Q := fun bs s' => wpAny M A (pure (f :: bs)) Q E s') t (wpAny_pure h))
theorem tupO_looks : ∀ {vs : List Value} {fs : List (Option Value)}, TupO s.heap vs fs → ∀ v ∈ vs, Looks M s.heap (typeOf v) (.type "tuple")
  | [], _, _, v, hv => by cases hv
  | _ :: _, [], t, _, _ => t.elim
  | u :: vs, f :: fs, t, v, hv => by
    obtain ⟨⟨a, o, xs, n, rfl, ho, hc, hd, hf⟩, t⟩ := t
    rcases List.mem_cons.mp hv with e | hv
    · rw [e, ← hc]
      exact (Looks.ld ho).andThen .now
    · exact tupO_looks t v hv
/-- tuples, one of which is empty -/
theorem kind_opt {vs : List Value} {fs : List (Option Value)} (t : TupO s.heap vs fs) (hl : fs.length = vs.length) (hne : fs.all (·.isSome) = false) : ∃ κ, (κ = general' ∨ κ = oneType') ∧ ∀ (Q : SortKind → Shared → Prop) (E : Value → Shared → Prop), Q κ s → wpAny M A (keyKind' vs.toArray) Q E s := by
  have start : ∀ (Q : SortKind → Shared → Prop) (E : Value → Shared → Prop), wpAny M A (if (fs.toArray[0]?.bind id).isSome = true then pure general' else do
      let r ← oneTypeOnly' vs.toArray
      pure (if r.isSome then oneType' else general')) Q E s → wpAny M A (keyKind' vs.toArray) Q E s := fun Q E h => by
    rw [kat_kind_eq, List.mapM_toArray, map_eq_pure_bind]
    refine wpAny_bind (wpAny_bind (opt_firsts vs fs t (wpAny_pure ?_)))
    rw [if_neg (by simp only [List.all_toArray]; rw [hne]; exact Bool.false_ne_true)]
    exact h
  by_cases c : (fs.toArray[0]?.bind id).isSome = true
  · refine ⟨general', .inl rfl, fun Q E h => start Q E ?_⟩
    rw [if_pos c]
    exact wpAny_pure h
  · refine ⟨oneType', .inr rfl, fun Q E h => start Q E ?_⟩
    rw [if_neg c]
    rw [oneTypeOnly'_eq, List.mapM_toArray, map_eq_pure_bind]
    refine wpAny_bind (wpAny_bind (wpAny_bind (kas_mapM (r := .type "tuple") _ (fun v hv Q' hq => (tupO_looks t v hv).here hq) (wpAny_pure ?_))))
    cases vs with
    | nil =>
      cases fs with
      | nil => cases hne
      | cons _ _ => cases hl
    | cons v vs =>
      have hall : ((List.map (fun _ => Value.type "tuple") (v :: vs)).toArray.all fun x => x == Value.type "tuple") = true := by
        simp only [List.all_toArray, List.all_map, List.all_eq_true]
        intro _ _
        rfl
      have h0 : (List.map (fun _ => Value.type "tuple") (v :: vs)).toArray[0]? = some (Value.type "tuple") := by simp
      rw [h0]
      simp only [hall, if_true]
      exact wpAny_pure (wpAny_pure h)
theorem tupO_mk {h : Heap} : ∀ (vs : List Value), (∀ v ∈ vs, ∃ t items, v = Value.ref t ∧ IsTup h t items) → ∃ fs, TupO h vs fs ∧ fs.length = vs.length ∧ ((∃ v ∈ vs, ∃ t, v = Value.ref t ∧ IsTup h t #[]) → fs.all (·.isSome) = false)
  | [], _ => ⟨[], trivial, rfl, fun ⟨v, hv, _⟩ => by cases hv⟩
  | v :: vs, hk => by
    obtain ⟨fs, h1, h2, h3⟩ := tupO_mk vs fun u hu => hk u (List.mem_cons_of_mem _ hu)
    obtain ⟨t, items, rfl, o, ho, hc, n, hd⟩ := hk v List.mem_cons_self
    refine ⟨items[0]? :: fs, ⟨⟨t, o, items, n, rfl, ho, hc, hd, rfl⟩, h1⟩, by rw [List.length_cons, List.length_cons, h2], fun ⟨u, hu, t', e, o', ho', hc', n', hd'⟩ => ?_⟩
    rcases List.mem_cons.mp hu with z | z
    · rw [z] at e
      cases e
      rw [ho] at ho'
      cases ho'
      rw [hd] at hd'
      cases hd'
      rfl
    · rw [List.all_cons, h3 ⟨u, z, t', e, o', ho', hc', n', hd'⟩, Bool.and_false]
end
section
variable {prog : Program} {w : World} {A : Around} {E : Value → Shared → Prop} {s : Shared}
theorem oneLt_tupI {f : Bool} {l b : Addr} {items items2 : Array Value} {ns ms : List Int} {Q : Bool → Shared → Prop} (hl : IsTup s.heap l items) (hb : IsTup s.heap b items2) (hi : IntsAre items.toList ns) (hj : IntsAre items2.toList ms) (hu : A.units < cLine)
    (h : Q (HT.lexLt ns ms) s) : wpAny (model prog w) A (oneLt' f (.ref l) (.ref b)) Q E s := by
  cases f with
  | false =>
    rw [oneLt'_eq]
    simp only [Bool.false_eq_true, if_false]
    exact wpAny_bind (show wpAny (model prog w) A (richCompare .Lt (.ref l) (.ref b)) _ E s from HT.lt_tupInts hl hb hi hj hu (wpAny_truthy_bool h))
  | true =>
    rw [oneLt'_eq]
    simp only [if_true]
    refine wpAny_bind (wpAny_cRoomFor hu ?_)
    obtain ⟨⟨cls, dd, data, sl⟩, ho, hc, n, hd⟩ := id hl
    obtain ⟨⟨cls2, dd2, data2, sl2⟩, ho2, hc2, n2, hd2⟩ := id hb
    simp only at hc hd hc2 hd2
    subst hc hd hc2 hd2
    refine wpAny_bind (wpAny_callSpecialIfBound?_slot (T := "tuple") ⟨_, ho, rfl⟩ PySem.F.slot_tuple_lt (call_meets PySem.F.slot_tuple_lt ⟨_, ho, rfl⟩ PySem.F.entry_tuple_lt (PySem.F.args_tuple_lt_2 _ _) (HT.tuple_lt_ints l b items items2 n n2 dd dd2 sl sl2 ns ms hi hj) ⟨ho, ho2, ?_⟩))
    exact wpAny_truthy_bool h
end
end Bx

set_option Elab.async false
set_option linter.all false
set_option maxRecDepth 100000
set_option maxHeartbeats 4000000
/-! Ev: every other sign of a text; the length of a set of pairs. -/
namespace Tu
open PySem PySem.Spec PyProof.Rows L2
section
variable {X : Cx}
/-- every other sign -/
def evenS (z : Str) : Str := ⟨((List.range ((z.length + 1) / 2)).filterMap fun i => z.cps.toList[2 * i]?).toArray⟩
theorem idx_two : ∀ L, L < 110 → Builtin.Str.strSliceIndices none none 2 L = (List.range ((L + 1) / 2)).map (fun i => 2 * i) := by decide +kernel
def tEven (te : TE) : TE := fun σ H Q => te σ H fun x H1 => ∃ z, x = .str z ∧ z.length < 110 ∧ Q (.str (evenS z)) H1
theorem pe_even {e : Expr} {te : TE} {k : Nat} {p1 p3 pos : Pos} (he : PE X e te) : PE X (.Subscript e (.Slice none none (some (.Constant (.int 2) k p1)) p3) pos) (tEven te) := by
  refine ⟨fun pins s σ H Q I h => Subscript_ (thn (he.run pins s σ H _ I h) fun v s1 ⟨x, H1, I1, r1, q1⟩ => ?_)⟩
  obtain ⟨z, ex, hz, q⟩ := q1
  subst ex
  obtain ⟨t, rfl⟩ := (show ∃ t, v = Value.str z t from r1)
  have back : PO X (some (.Constant (.int 2) k p1)) (tPart (tC (.int 2))) := po_some pe_int
  refine wpAny_Slice (thn (po_none.run pins s1 σ H1 (fun o H2 => o = none ∧ H2 = H1) I1 ⟨rfl, rfl⟩) fun vl s2 ⟨l, H2, I2, pl, el, e2⟩ => ?_)
  subst el e2
  refine thn (po_none.run pins s2 σ H2 (fun o H3 => o = none ∧ H3 = H2) I2 ⟨rfl, rfl⟩) fun vu s3 ⟨u, H3, I3, pu, eu, e3⟩ => ?_
  subst eu e3
  refine thn (back.run pins s3 σ H3 (fun o H4 => o = some 2 ∧ H4 = H3) I3 ⟨2, rfl, rfl, rfl⟩) fun vs s4 ⟨o, H4, I4, ps, eo, e4⟩ => ?_
  subst eo e4
  have I5 : Inv X pins σ H4 { s4 with heap := s4.heap.push { cls := .type "slice", data := .fields #[vl, vu, vs] } } := I4.kept (t' := s4.toks) fun b ob z => Heap.get?_push_of_some _ z
  show wpAny (model X.prog X.w) X.A (subscriptTail e (.Slice none none (some (.Constant (.int 2) k p1)) p3) (.str z t) (.ref s4.heap.objs.size)) (EP X pins σ Q) X.xe { s4 with heap := s4.heap.push { cls := .type "slice", data := .fields #[vl, vu, vs] } }
  cases pl
  cases pu
  cases ps
  refine tail_any (ops := [.str z t, .ref s4.heap.objs.size]) (typeIs_str _ z t) PySem.F.slot_str_getitem.lookup ?_ (by with_unfolding_all rfl)
  refine wpAny_getItem_str_slice (l := none) (u := none) (st := some (2, _)) ⟨_, Heap.get?_push_size _ rfl, rfl, rfl⟩ rfl ?_
  have e1 : slicePicked z none none (some (2, 0)) = (List.range ((z.length + 1) / 2)).map (fun i => 2 * i) := idx_two _ hz
  have e2 : (⟨((slicePicked z none none (some (2, 0))).filterMap (z.cps[·]?)).toArray⟩ : Str) = evenS z := by
    rw [e1, List.filterMap_map]
    have ef : ((fun i => z.cps[i]?) ∘ fun i => 2 * i) = fun i => z.cps.toList[2 * i]? := by
      funext i
      simp
    rw [ef]
    rfl
  have hl : (evenS z).length ≤ sizeLine := by
    have := List.length_filterMap_le (fun i => z.cps.toList[2 * i]?) (List.range ((z.length + 1) / 2))
    rw [List.length_range] at this
    show (((List.range ((z.length + 1) / 2)).filterMap fun i => z.cps.toList[2 * i]?).toArray).size ≤ _
    rw [List.size_toArray, sizeLine_eq]
    omega
  show (Made.str ⟨((slicePicked z none none (some (2, 0))).filterMap (z.cps[·]?)).toArray⟩).post _ _
  rw [e2]
  exact ⟨hl, .str (evenS z), H4, I5.tok _, ⟨_, rfl⟩, q⟩
/-- len of a set of pairs -/
def rLenD (P : Program) (w : World) : List V → Hp → VK → Prop := fun vs H Q => ∃ (a : Addr) (L : List (Addr × List Int)), vs = [V.ref a] ∧ H a = some (SetO P w a L) ∧ Q (.int L.length) H
theorem cr_lenD : CallR X (.builtin "len") (rLenD X.prog X.w) := by
  intro pins s σ H vs us Q I r h
  obtain ⟨a, L, rfl, ha, q⟩ := h
  obtain ⟨es, ep, t, Z⟩ : ∃ es ep t, Lies X.prog X.w s.heap a L es ep t := (I.hok a _ ha).1
  rw [Vals.ref1 r]
  obtain ⟨o, ho, hex, hd⟩ := Z.obj
  have := Z.num
  have hsz := rows_num Z.row
  exact call_len_set ho hex hd Z.fit (by omega) ⟨.int L.length, H, I.tok _, ⟨_, by rw [hsz]⟩, q⟩
end
end Tu

set_option Elab.async false
set_option linter.all false
set_option maxRecDepth 100000
set_option maxHeartbeats 4000000
namespace Wd
open PySem PySem.Spec PyProof.Rows L2 Bx Gx
def topS (i : Nat) : Stmt := PySem.Challenge.pw_wardsdrawn_k09_whole_pictures_there_and.main.body.getD i (.Pass ⟨0, 0, 0, 0⟩)
abbrev st_WardError : Stmt := topS 1
abbrev st_InvalidPart : Stmt := topS 2
abbrev st_InvalidLand : Stmt := topS 3
abbrev st_InvalidPlan : Stmt := topS 4
abbrev st_is_integer : Stmt := topS 9
abbrev st_is_ascending : Stmt := topS 10
abbrev st_is_place : Stmt := topS 11
abbrev st_is_lot : Stmt := topS 12
abbrev st_mask_of : Stmt := topS 13
abbrev st_lot_of : Stmt := topS 14
abbrev st_whole_mask : Stmt := topS 15
abbrev st_links_of : Stmt := topS 16
abbrev st_reached : Stmt := topS 17
abbrev st_hangs_together : Stmt := topS 18
abbrev st_fault_of_land : Stmt := topS 19
abbrev st_fault_of_folk : Stmt := topS 20
abbrev st_fault_of_borders : Stmt := topS 21
abbrev st_is_border : Stmt := topS 22
abbrev st_fault_of_plan : Stmt := topS 23
abbrev st_check_land : Stmt := topS 24
abbrev st_check_plan : Stmt := topS 25
abbrev st_ward_row : Stmt := topS 27
abbrev st_plan_with : Stmt := topS 28
abbrev st_square : Stmt := topS 31
abbrev st_arcs : Stmt := topS 32
abbrev st_arcs_told : Stmt := topS 33
abbrev st_sign_of : Stmt := topS 34
abbrev st_arcs_of : Stmt := topS 35
abbrev st_are_rows : Stmt := topS 36
abbrev st_places_at : Stmt := topS 37
abbrev st__law_spring : Stmt := topS 39
abbrev st__law_drop : Stmt := topS 40
abbrev st__law_land : Stmt := topS 41
abbrev st__law_order : Stmt := topS 42
abbrev st__law_near : Stmt := topS 43
abbrev st__law_reached : Stmt := topS 44
abbrev st__law_pieces : Stmt := topS 45
abbrev st__law_plan : Stmt := topS 46
abbrev st__law_some : Stmt := topS 47
abbrev st__law_owners : Stmt := topS 48
abbrev st__law_arcs : Stmt := topS 49
abbrev st__law_told : Stmt := topS 50
abbrev st__law_due : Stmt := topS 51
abbrev st__law_spoilt : Stmt := topS 52
abbrev st_law : Stmt := topS 53
/-! ### plain data -/
def isIntD (lo hi : Int) : PyData → Bool
  | .int i => decide (lo ≤ i ∧ i ≤ hi)
  | _ => false
theorem tyB_dp {K : PySem.W.Frag} {H : Hp} {v : V} {d : PyData} (h : Dp K H v d) : (∃ i, v = .int i ∧ d = .int i ∧ TyB K H v "int") ∨ ∃ T, T ∈ tyNames ∧ TyB K H v T ∧ T ≠ "int" ∧ ∀ lo hi, isIntD lo hi d = false := by
  cases h with
  | non => exact .inr ⟨"NoneType", by decide, .non, by decide, fun _ _ => rfl⟩
  | bl b => exact .inr ⟨"bool", by decide, .bl b, by decide, fun _ _ => rfl⟩
  | int i => exact .inl ⟨i, rfl, rfl, .int i⟩
  | str x => exact .inr ⟨"str", by decide, .str x, by decide, fun _ _ => rfl⟩
  | lst h _ => exact .inr ⟨"list", by decide, .lst h, by decide, fun _ _ => rfl⟩
  | tup h _ => exact .inr ⟨"tuple", by decide, .tup h, by decide, fun _ _ => rfl⟩
section
variable {P : Program} {w : World} {K : PySem.W.Frag} {mg : Str → Option Value} {base : Heap}
/-! ### is_integer -/
def spIsInteger (K : PySem.W.Frag) : Sp := fun vs H Q _ => ∃ (v : V) (d : PyData) (lo hi : Int), vs = [v, .int lo, .int hi] ∧ Dp K H v d ∧ Q (.bl (isIntD lo hi d)) H
theorem sc_is_integer : FnScope ["value", "low", "high"] ["value", "low", "high"] (defScope st_is_integer) := ⟨rfl, rfl, rfl, by decide +kernel, rfl, by decide +kernel, by decide +kernel⟩
theorem ok_is_integer {f : Addr} {fd : FuncData} (F : Fun K "is_integer" "is_integer" st_is_integer f fd) (B : Bl mg) : FnOk P w K mg base CX0 1 f fd ["value", "low", "high"] (spIsInteger K) := by
  refine F.ok sc_is_integer (fun vs H Q E h => ?_) (fun cdv A outer s H vs Q E hr h => ?_)
  · obtain ⟨v, d, lo, hi, rfl, _⟩ := h
    rfl
  · obtain ⟨v, d, lo, hi, rfl, hd, k⟩ := h
    refine ⟨_, pss_one (ps_ret (pe_and (pe_cmpR op_eqTy (pe_callTy call_type1 rfl B.type (by decide +kernel) (pa_cons (pv 0) pa_nil)) (pe_bltn rfl B.int (by decide +kernel) (v := .ty "int") rfl) (nomark _)) (pe_one (pe_chain op_le op_le (pv 1) (pv 0) (pv 2))))), ?_⟩
    rcases tyB_dp hd with ⟨i, rfl, rfl, ht⟩ | ⟨T, hT, ht, hne, hf⟩
    · refine ⟨_, rfl, _, "int", rfl, ht, "int", "int", rfl, rfl, by decide, by decide, true, rfl, ?_⟩
      simp only [tVar, tC, t2I, tAdd, tSub, tCmp, tIsN, tNotN, tB, tAnd, tOr, tNot, tAndV, tOrV, tNotV, tIf, tNext, tSeq, tDrop, tRet, tRetN, tIfS, tAsg, gName, gNil, gCons, gTup, gSub, tPar, tAug, tAugS, iList, iTup, iRng1, iRng2, tOp, tUn, rI, rI0, rU, rEq, rNe, tTest, tChain, tNil, tCons, tTup, tLst, tCall, tCB, rTyp, r1, kTyp, rTyC, tSl, tNoPart, tPart, tBM0, tBM, tYes, rIxL, rIxT, rIx, rSetL, gtList, L2.start, Ends.nx, Ends.rt, List.map, List.length, List.replicate, List.append, List.append_nil, List.cons_append, List.nil_append, List.set, List.getElem?_cons_zero, List.getElem?_cons_succ, Option.some.injEq, exists_and_left, exists_eq_left', exists_eq_left, V.int.injEq, V.ty.injEq, V.bl.injEq, V.ref.injEq, List.cons.injEq, and_true, true_and, decide_eq_true_eq, Bool.false_eq_true, if_false, if_true, id]
      by_cases h1 : lo ≤ i
      · rw [if_pos h1]
        by_cases h2 : i ≤ hi
        · have e : isIntD lo hi (.int i) = true := decide_eq_true ⟨h1, h2⟩
          rw [e] at k
          simpa [h2] using k
        · have e : isIntD lo hi (.int i) = false := decide_eq_false fun z => h2 z.2
          rw [e] at k
          simpa [h2] using k
      · have e : isIntD lo hi (.int i) = false := decide_eq_false fun z => h1 z.1
        rw [e] at k
        rw [if_neg h1]
        exact k
    · rw [hf] at k
      refine ⟨_, rfl, _, T, rfl, ht, T, "int", rfl, rfl, hT, by decide, false, ?_, k⟩
      rw [decide_eq_false hne]
      rfl
/-! ### is_place -/
def spIsPlace (K : PySem.W.Frag) : Sp := fun vs H Q _ => ∃ (l v : V) (fs : List Int) (bd d : PyData), vs = [l, v] ∧ Dp K H l (.tuple [.tuple (fs.map .int), bd]) ∧ fs.length ≤ 100 ∧ Dp K H v d ∧ Q (.bl (isIntD 0 ((fs.length : Int) - 1) d)) H
theorem sc_is_place : FnScope ["land", "value"] ["land", "value"] (defScope st_is_place) := ⟨rfl, rfl, rfl, by decide +kernel, rfl, by decide +kernel, by decide +kernel⟩
theorem ok_is_place {f : Addr} {fd : FuncData} (F : Fun K "is_place" "is_place" st_is_place f fd) (B : Bl mg) (c1 : Cal P w K mg base 1 "is_integer" ["value", "low", "high"] (spIsInteger K)) : FnOk P w K mg base CX0 2 f fd ["land", "value"] (spIsPlace K) := by
  refine F.ok sc_is_place (fun vs H Q E h => ?_) (fun cdv A outer s H vs Q E hr h => ?_)
  · obtain ⟨l, v, fs, bd, d, rfl, _⟩ := h
    rfl
  · obtain ⟨l, v, fs, bd, d, rfl, hl, hn, hd, k⟩ := h
    refine ⟨_, pss_one (ps_ret (pe_cal c1 hr rfl (pa_cons (pv 1) (pa_cons pe_int (pa_cons (pe_op op_sub (pe_callB call_len (by rfl) B.len PySem.boot_len (pa_cons (pe_ix ix_tup (pv 0) pe_int (fun _ _ => rfl)) pa_nil)) pe_int) pa_nil))))), ?_⟩
    obtain ⟨a, xs, rfl, h1, h2⟩ := dp_tup hl
    obtain ⟨v0, h3, h4⟩ := dpAll_get (i := 0) h2 rfl
    obtain ⟨b, rfl, h5⟩ := dp_ints h4
    refine ⟨_, rfl, _, rfl, _, _, _, _, rfl, rfl, h1, atI_nat h3, _, fs.length, rfl, .inr ⟨_, h5, by simp⟩, _, _, rfl, rfl, _, d, 0, _, rfl, hd, k⟩
end
section
variable {P : Program} {w : World} {K : PySem.W.Frag} {mg : Str → Option Value} {base : Heap}
/-! ### is_ascending: of a tuple of ints -/
def asc : List Int → Bool
  | a :: b :: r => decide (a < b) && asc (b :: r)
  | _ => true
theorem asc_range (ns : List Int) : (List.range (ns.length - 1)).all (fun i => decide (ns.getD i 0 < ns.getD (i + 1) 0)) = asc ns := by
  induction ns with
  | nil => rfl
  | cons a r ih =>
    cases r with
    | nil => rfl
    | cons b r =>
      have e : (a :: b :: r).length - 1 = (b :: r).length - 1 + 1 := by simp
      rw [e, List.range_succ_eq_map, List.all_cons, List.all_map]
      show _ = (decide (a < b) && asc (b :: r))
      rw [← ih]
      rfl
def spIsAscending (K : PySem.W.Frag) (Pt : Addr) : Sp := fun vs H Q _ => ∃ (v : V) (ns : List Int), vs = [v] ∧ Dp K H v (.tuple (ns.map .int)) ∧ ns.length ≤ 6000 ∧ TabG H Pt ∧ ∀ H', Ext H H' → Q (.bl (asc ns)) H'
theorem sc_is_ascending : FnScope ["row"] ["row"] (defScope st_is_ascending) := ⟨rfl, rfl, rfl, by decide +kernel, rfl, by decide +kernel, by decide +kernel⟩
theorem ok_is_ascending {f c Pt : Addr} {fd : FuncData} (F : FunC K "is_ascending" "is_ascending" st_is_ascending f fd c) (TB : TabB base mg c Pt) (B : Bl mg) : FnOk P w K mg base CX0 4 f fd ["row"] (spIsAscending K Pt) := by
  refine F.ok sc_is_ascending (fun vs H Q E h => ?_) (fun A outer s H vs Q E hr h => ?_)
  · obtain ⟨v, ns, rfl, _⟩ := h
    rfl
  · obtain ⟨v, ns, rfl, hd, hl, hT, k⟩ := h
    refine ⟨_, pss_one (ps_ret (pe_gall (k := 0) (N := ["k", "row"]) (src := [none, some 0]) (vs := [0])
      ⟨fun B s H fp code hB => pg_name (i := 0) (by decide +kernel : (["k", "row"] : List Str).Nodup) rfl (Or.inl rfl), fun B s H fp code hB => pts_nil, fun B s H fp code hB => pe_cmpR op_lt (pe_ix (ix_tupK (K := K) rfl) (pv 1) (pv 0) (fun _ _ => rfl)) (pe_ix (ix_tupK (K := K) rfl) (pv 1) (pe_op op_add (pv 0) pe_int) (fun _ _ => rfl)) (nomark _)⟩
      (hr.mono (by decide)) rfl B.all TB rfl (gOk (ND := ["row"]) (sc := defScope st_is_ascending) (by decide +kernel)) (pi_range1 rfl B.range (pa_cons (pe_op op_sub (pe_callB call_len (by rfl) B.len PySem.boot_len (pa_cons (pv 0) pa_nil)) pe_int) pa_nil)))), ?_⟩
    obtain ⟨a, rfl, h1⟩ := dp_ints hd
    refine ⟨_, rfl, _, ns.length, rfl, .inr ⟨_, h1, by simp⟩, _, _, rfl, rfl, _, rfl, by omega, by omega, hT, fun H2 hT2 => ?_⟩
    have x2 : Ext H H2 := Ext.tabbed hT hT2
    have e : ((ns.length : Int) - 1).toNat = ns.length - 1 := by omega
    rw [e]
    refine g_all (Ph := fun H4 => H4 = H2) src_range (fun i => decide (ns.getD i 0 < ns.getD (i + 1) 0)) rfl (fun i H C hp hi k2 => ?_) (fun H hp ea => ?_) fun H hp ea => ?_
    · subst hp
      have g1 : (ns.map V.int)[i]? = some (V.int (ns.getD i 0)) := by
        rw [List.getElem?_map, List.getElem?_eq_getElem (by omega), List.getD_eq_getElem?_getD, List.getElem?_eq_getElem (by omega)]
        rfl
      have g2 : (ns.map V.int)[i + 1]? = some (V.int (ns.getD (i + 1) 0)) := by
        rw [List.getElem?_map, List.getElem?_eq_getElem (by omega), List.getD_eq_getElem?_getD, List.getElem?_eq_getElem (by omega)]
        rfl
      refine ⟨rfl, _, rfl, _, rfl, _, _, _, _, rfl, rfl, x2.sqT h1, by rw [Int.zero_add]; exact atI_nat g1, _, rfl, _, rfl, _, _, rfl, rfl, _, _, _, _, rfl, rfl, x2.sqT h1, (by
        have e2 : (0 : Int) + (i : Int) + 1 = ((i + 1 : Nat) : Int) := by omega
        rw [e2]; exact atI_nat g2), _, _, rfl, rfl, k2 H rfl⟩
    all_goals
      subst hp
      rw [asc_range] at ea
      have q := k _ x2
      rw [ea] at q
      exact q
end
section
variable {P : Program} {w : World} {K : PySem.W.Frag} {mg : Str → Option Value} {base : Heap}
def lotD (ps : List Nat) : PyData := .tuple (ps.map fun (p : Nat) => .int (p : Int))
theorem dp_lot {H : Hp} {v : V} {ps : List Nat} (h : Dp K H v (lotD ps)) : ∃ a, v = .ref a ∧ SqT K H a (ps.map fun (p : Nat) => V.int (p : Int)) := by
  have h2 : Dp K H v (.tuple ((ps.map fun (p : Nat) => (p : Int)).map .int)) := by
    rw [List.map_map]
    exact h
  obtain ⟨a, e, h3⟩ := dp_ints h2
  rw [List.map_map] at h3
  exact ⟨a, e, h3⟩
theorem dpAll_lot {H : Hp} (ps : List Nat) : DpAll K H (ps.map fun (p : Nat) => V.int (p : Int)) (ps.map fun (p : Nat) => .int (p : Int)) := by
  have h := dpAll_of_ints (K := K) (H := H) (ps.map fun (p : Nat) => (p : Int))
  rw [List.map_map, List.map_map] at h
  exact h
theorem getD_lot {ps : List Nat} {i : Nat} (hi : i < (ps.map fun (p : Nat) => V.int (p : Int)).length) : (ps.map fun (p : Nat) => V.int (p : Int)).getD i .non = V.int ((ps.getD i 0 : Nat) : Int) := by
  rw [List.length_map] at hi
  rw [List.getD_eq_getElem?_getD, List.getElem?_map, List.getElem?_eq_getElem hi, List.getD_eq_getElem?_getD, List.getElem?_eq_getElem hi]
  rfl
theorem all_range_getD (ps : List Nat) (f : Nat → Bool) : (List.range ps.length).all (fun i => f (ps.getD i 0)) = ps.all f := by
  induction ps with
  | nil => rfl
  | cons p r ih =>
    rw [List.length_cons, List.range_succ_eq_map, List.all_cons, List.all_map, List.all_cons, ← ih]
    rfl
theorem map_range_getD {α : Type} (ps : List Nat) (f : Nat → α) : (List.range ps.length).map (fun i => f (ps.getD i 0)) = ps.map f := by
  induction ps with
  | nil => rfl
  | cons p r ih =>
    rw [List.length_cons, List.range_succ_eq_map, List.map_cons, List.map_map, List.map_cons, ← ih]
    rfl
/-! ### is_lot: of a tuple of places -/
def isLot (n : Nat) (ps : List Nat) : Bool := !ps.isEmpty && (ps.all fun p => decide (p < n)) && asc (ps.map fun (p : Nat) => (p : Int))
def spIsLot (K : PySem.W.Frag) (T1 T2 : Addr) : Sp := fun vs H Q _ => ∃ (l v : V) (fs : List Int) (bd : PyData) (ps : List Nat), vs = [l, v] ∧ Dp K H l (.tuple [.tuple (fs.map .int), bd]) ∧ fs.length ≤ 100 ∧ Dp K H v (lotD ps) ∧ ps.length ≤ 6000 ∧
  TabG H T1 ∧ TabG H T2 ∧ ∀ H', Ext H H' → Q (.bl (isLot fs.length ps)) H'
theorem sc_is_lot : FnScope ["land", "value"] ["land", "value"] (defScope st_is_lot) := ⟨rfl, rfl, rfl, by decide +kernel, rfl, by decide +kernel, by decide +kernel⟩
theorem ok_is_lot {f c T1 T2 : Addr} {fd : FuncData} (F : FunC K "is_lot" "is_lot" st_is_lot f fd c) (TB : TabB base mg c T1) (B : Bl mg) (c1 : Cal P w K mg base 2 "is_place" ["land", "value"] (spIsPlace K))
    (c2 : Cal P w K mg base 4 "is_ascending" ["row"] (spIsAscending K T2)) : FnOk P w K mg base CX0 6 f fd ["land", "value"] (spIsLot K T1 T2) := by
  refine F.ok sc_is_lot (fun vs H Q E h => ?_) (fun A outer s H vs Q E hr h => ?_)
  · obtain ⟨l, v, fs, bd, ps, rfl, _⟩ := h
    rfl
  · obtain ⟨l, v, fs, bd, ps, rfl, hl, hn, hd, hz, hT1, hT2, k⟩ := h
    refine ⟨_, pss_cons (ps_if (PW.pt (pw_or (pt_cmpR op_neTy (pe_callTy call_type1 rfl B.type (by decide +kernel) (pa_cons (pv 1) pa_nil)) (pe_bltn rfl B.tuple (by decide +kernel) (v := .ty "tuple") rfl) (nomark _))
        (pw_or1 (pt_cmpR op_eq (pe_callB call_len (by rfl) B.len PySem.boot_len (pa_cons (pv 1) pa_nil)) pe_int (nomark _))))) (pss_one (ps_ret pe_bl)) pss_nil)
      (pss_one (ps_ret (pe_and (pe_gall (k := 3) (N := ["place", "land"]) (src := [none, some 0]) (vs := [0])
        ⟨fun B s H fp code hB => pg_name (i := 0) (by decide +kernel : (["place", "land"] : List Str).Nodup) rfl (Or.inl rfl), fun B s H fp code hB => pts_nil, fun B s H fp code hB => pe_cal c1 (hB.deeper _) rfl (pa_cons (pv 1) (pa_cons (pv 0) pa_nil))⟩
        hr rfl B.all TB rfl (gOk (ND := ["land", "value"]) (sc := defScope st_is_lot) (by decide +kernel)) (pi_tup (pv 1)))
        (pe_one (pe_cal c2 (hr.mono (by decide)) rfl (pa_cons (pv 1) pa_nil)))))), ?_⟩
    obtain ⟨a, rfl, h1⟩ := dp_lot hd
    refine ⟨_, rfl, _, "tuple", rfl, .tup h1, "tuple", "tuple", rfl, rfl, by decide, by decide, false, rfl, ?_⟩
    refine iteF ⟨_, rfl, _, ps.length, rfl, .inr ⟨_, h1, by simp⟩, rfl, _, rfl, ?_⟩
    by_cases he : ps = []
    · subst he
      refine iteT ?_
      exact k H (Ext.refl H)
    · have hne : decide (V.int (ps.length : Int) = V.int 0) = false := by
        apply decide_eq_false
        intro z
        injection z with z
        exact he (List.length_eq_zero_iff.mp (by omega))
      rw [hne]
      refine iteF ?_
      refine ⟨_, rfl, a, rfl, ⟨_, h1⟩, hT1, fun H2 hT => ?_⟩
      have x2 : Ext H H2 := Ext.tabbed hT1 hT
      refine g_all (Ph := fun H4 => H4 = H2) (src_tup fun H4 e => by rw [e]; exact x2.sqT h1) (fun i => decide (ps.getD i 0 < fs.length)) rfl (fun i H C hp hi k2 => ?_) (fun H4 hp ea => ?_) fun H4 hp ea => ?_
      · subst hp
        refine ⟨rfl, _, rfl, _, rfl, _, _, fs, bd, .int (ps.getD i 0 : Nat), rfl, dp_ext x2 hl, hn, (by rw [getD_lot hi]; exact .int _), ?_⟩
        have e : isIntD 0 ((fs.length : Int) - 1) (.int (ps.getD i 0 : Nat)) = decide (ps.getD i 0 < fs.length) := by
          show decide (_ ∧ _) = _
          apply decide_eq_decide.mpr
          omega
        rw [e]
        exact k2 H rfl
      · subst hp
        rw [List.length_map, all_range_getD ps fun p => decide (p < fs.length)] at ea
        refine ⟨_, rfl, iteT ⟨_, rfl, _, ps.map fun (p : Nat) => (p : Int), rfl, ?_, by rw [List.length_map]; exact hz, x2.tabs _ hT2, fun H5 x5 => ?_⟩⟩
        · rw [List.map_map]
          exact dp_ext x2 hd
        · have q := k H5 (x2.trans x5)
          unfold isLot at q
          rw [ea] at q
          have e0 : ps.isEmpty = false := by cases ps with
            | nil => exact absurd rfl he
            | cons _ _ => rfl
          rw [e0] at q
          exact q
      · subst hp
        rw [List.length_map, all_range_getD ps fun p => decide (p < fs.length)] at ea
        refine ⟨_, rfl, iteF ?_⟩
        have q := k H4 x2
        unfold isLot at q
        rw [ea] at q
        simpa using q
/-! ### mask_of -/
def spMaskOf (K : PySem.W.Frag) (T1 : Addr) : Sp := fun vs H Q _ => ∃ (v : V) (ps : List Nat), vs = [v] ∧ Dp K H v (lotD ps) ∧ (∀ p ∈ ps, p ≤ 1000) ∧ TabG H T1 ∧ ∀ H', Ext H H' → Q (.int (Mk.mask ps : Nat)) H'
theorem sc_mask_of : FnScope ["lot"] ["lot"] (defScope st_mask_of) := ⟨rfl, rfl, rfl, by decide +kernel, rfl, by decide +kernel, by decide +kernel⟩
theorem sum_cast (ps : List Nat) : (ps.map fun (p : Nat) => ((2 ^ p : Nat) : Int)).sum = ((Mk.mask ps : Nat) : Int) := by
  induction ps with
  | nil => rfl
  | cons p r ih =>
    have e : Mk.mask (p :: r) = 2 ^ p + Mk.mask r := rfl
    rw [List.map_cons, List.sum_cons, ih, e]
    omega
theorem ok_mask_of {f c T1 : Addr} {fd : FuncData} (F : FunC K "mask_of" "mask_of" st_mask_of f fd c) (TB : TabB base mg c T1) (B : Bl mg) : FnOk P w K mg base CX0 4 f fd ["lot"] (spMaskOf K T1) := by
  refine F.ok sc_mask_of (fun vs H Q E h => ?_) (fun A outer s H vs Q E hr h => ?_)
  · obtain ⟨v, ps, rfl, _⟩ := h
    rfl
  · obtain ⟨v, ps, rfl, hd, hp, hT, k⟩ := h
    refine ⟨_, pss_one (ps_ret (pe_gsum (k := 0) (N := ["place"]) (src := [none]) (vs := [0])
        ⟨fun B s H fp code hB => pg_name (i := 0) (by decide +kernel : (["place"] : List Str).Nodup) rfl (Or.inl rfl), fun B s H fp code hB => pts_nil, fun B s H fp code hB => pe_op op_shl pe_int (pv 0)⟩
        (hr.mono (by decide)) rfl B.sum TB rfl (gOk (ND := ["lot"]) (sc := defScope st_mask_of) (by decide +kernel)) (pi_tup (pv 0)))), ?_⟩
    obtain ⟨a, rfl, h1⟩ := dp_lot hd
    refine ⟨_, rfl, a, rfl, ⟨_, h1⟩, hT, fun H2 hT2 => ?_⟩
    have x2 : Ext H H2 := Ext.tabbed hT hT2
    refine g_sum (Ph := fun H4 => H4 = H2) (src_tup fun H4 e => by rw [e]; exact x2.sqT h1) (fun i => ((2 ^ ps.getD i 0 : Nat) : Int)) rfl (fun i H C hp2 hi k2 => ?_) fun H4 hp2 => ?_
    · subst hp2
      rw [getD_lot hi]
      rw [List.length_map] at hi
      have hb : ps.getD i 0 ≤ 1000 := by
        rw [List.getD_eq_getElem?_getD, List.getElem?_eq_getElem hi]
        exact hp _ (List.getElem_mem hi)
      refine ⟨rfl, _, rfl, 1, _, rfl, rfl, ⟨by omega, by omega, by decide⟩, ?_⟩
      have e : (1 : Int) * 2 ^ ((ps.getD i 0 : Nat) : Int).toNat = ((2 ^ ps.getD i 0 : Nat) : Int) := by
        rw [Int.toNat_natCast, Int.one_mul]
        simp
      show C (V.int ((1 : Int) * 2 ^ ((ps.getD i 0 : Nat) : Int).toNat)) H
      rw [e]
      exact k2 H rfl
    · subst hp2
      rw [List.length_map, map_range_getD ps fun (p : Nat) => ((2 ^ p : Nat) : Int), sum_cast]
      exact k H4 x2
/-! ### lot_of -/
def spLotOf (K : PySem.W.Frag) (T1 : Addr) : Sp := fun vs H Q _ => ∃ (m n : Nat), vs = [.int (m : Int)] ∧ m < 2 ^ n ∧ n ≤ 1000 ∧ TabG H T1 ∧ ∀ p H', Ext H H' → H p = none → Dp K H' (.ref p) (lotD (Mk.bits n m)) → H' p = some (.tup ((Mk.bits n m).map fun (p : Nat) => V.int (p : Int))) → Q (.ref p) H'
theorem sc_lot_of : FnScope ["mask"] ["mask"] (defScope st_lot_of) := ⟨rfl, rfl, rfl, by decide +kernel, rfl, by decide +kernel, by decide +kernel⟩
theorem intBits_lt (m : Nat) : m < 2 ^ Builtin.Int.intBits (m : Int) := by
  unfold Builtin.Int.intBits
  by_cases h : m = 0
  · subst h; decide
  · have e : ((m : Int) == 0) = false := by simp; omega
    rw [e]
    exact Nat.lt_log2_self
theorem intBits_le {m n : Nat} (h : m < 2 ^ n) : Builtin.Int.intBits (m : Int) ≤ n := by
  unfold Builtin.Int.intBits
  by_cases e0 : m = 0
  · subst e0; simp
  · have e : ((m : Int) == 0) = false := by simp; omega
    rw [e]
    have := (Nat.log2_lt e0).mpr h
    exact this
theorem shr_and (m i : Nat) : Builtin.bitAnd ((m : Int) / 2 ^ i) 1 = (if m.testBit i then 1 else 0 : Int) := by
  have e0 : ((m : Int) / 2 ^ i) = ((m / 2 ^ i : Nat) : Int) := by simp
  have e1 : Builtin.bitAnd ((m / 2 ^ i : Nat) : Int) 1 = (((m / 2 ^ i) &&& 1 : Nat) : Int) := rfl
  rw [e0, e1, Nat.and_one_is_mod]
  have e2 := Nat.testBit_eq_decide_div_mod_eq (x := m) (i := i)
  rw [e2]
  rcases Nat.mod_two_eq_zero_or_one (m / 2 ^ i) with z | z <;> simp [z]
theorem ok_lot_of {f c T1 : Addr} {fd : FuncData} (F : FunC K "lot_of" "lot_of" st_lot_of f fd c) (TB : TabB base mg c T1) (B : Bl mg) : FnOk P w K mg base CX0 6 f fd ["mask"] (spLotOf K T1) := by
  refine F.ok sc_lot_of (fun vs H Q E h => ?_) (fun A outer s H vs Q E hr h => ?_)
  · obtain ⟨m, n, rfl, _⟩ := h
    rfl
  · obtain ⟨m, n, rfl, hm, hn, hT, k⟩ := h
    refine ⟨_, pss_one (ps_ret (pe_gtup (k := 0) (N := ["place", "mask"]) (src := [none, some 0]) (vs := [0])
        ⟨fun B s H fp code hB => pg_name (i := 0) (by decide +kernel : (["place", "mask"] : List Str).Nodup) rfl (Or.inl rfl), fun B s H fp code hB => pts_one (pt_truthK (K := K) rfl (pe_op op_and (pe_op op_shr (pv 1) (pv 0)) pe_int) (by intro _; rfl)), fun B s H fp code hB => pv 0⟩
        (hr.mono (by decide)) rfl B.tuple TB rfl (gOk (ND := ["mask"]) (sc := defScope st_lot_of) (by decide +kernel)) (pi_range1 rfl B.range (pa_cons (pe_bits (pv 0)) pa_nil)))), ?_⟩
    have hb := intBits_lt m
    have hb2 := intBits_le hm
    generalize hN : Builtin.Int.intBits (m : Int) = N at hb hb2
    refine ⟨_, rfl, _, rfl, _, by rw [hN], by omega, by omega, hT, fun H2 hT2 => ?_⟩
    have x2 : Ext H H2 := Ext.tabbed hT hT2
    have eN : ((N : Nat) : Int).toNat = N := Int.toNat_natCast N
    rw [eN]
    refine g_tup (Pw := fun i ys H4 => H4 = H2 ∧ ys = ((List.range i).filter fun q => m.testBit q).map fun (p : Nat) => V.int (p : Int)) (fun _ _ => src_range) (Nat.le_trans (Nat.le_trans hb2 hn) (by decide)) (fun i => m.testBit i) (fun _ => rfl) ⟨rfl, rfl⟩
      (fun i ys H4 ⟨_, e⟩ => ?_) (fun i ys H4 C ⟨e1, e2⟩ hi k2 => ?_) (fun i ys H4 ⟨e1, e2⟩ hi hk => ⟨e1, ?_⟩) (fun i ys H4 C ⟨e1, e2⟩ hi hk k2 => ?_) fun ys H4 ⟨e1, e2⟩ p hp => ?_
    · rw [e, List.length_map]
      have := List.length_filter_le (fun q => m.testBit q) (List.range i)
      rw [List.length_range] at this
      exact this
    · refine ⟨_, rfl, _, rfl, _, _, rfl, rfl, (by show (0 : Int) ≤ 0 + (i : Int); omega), _, _, rfl, rfl, m.testBit i, ?_, k2 H4 ⟨e1, e2⟩⟩
      show m.testBit i = (Builtin.bitAnd ((m : Int) / 2 ^ ((0 : Int) + (i : Int)).toNat) 1 != 0)
      have e : ((0 : Int) + (i : Int)).toNat = i := by omega
      rw [e, shr_and]
      cases m.testBit i <;> rfl
    · rw [e2, List.range_succ, List.filter_append, List.filter_cons_of_neg (by simp [hk])]
      simp
    · refine ⟨_, rfl, k2 _ H4 ⟨e1, ?_⟩⟩
      rw [e2, List.range_succ, List.filter_append, List.filter_cons_of_pos (by simp [hk]), List.map_append, Int.zero_add]
      rfl
    · subst e1
      have eb : ((List.range N).filter fun q => m.testBit q) = Mk.bits n m := Mk.bits_any hb hm
      rw [eb] at e2
      subst e2
      exact k p _ (x2.trans (Ext.new hp)) (x2.free hp) (dp_new hp (dpAll_lot _)) upd_same
end
section
variable {P : Program} {w : World} {K : PySem.W.Frag} {mg : Str → Option Value} {base : Heap}
def bordD (bs : List (Nat × Nat)) : PyData := .tuple (bs.map fun (b : Nat × Nat) => .tuple [.int (b.1 : Int), .int (b.2 : Int)])
def landD (fs : List Int) (bs : List (Nat × Nat)) : PyData := .tuple [.tuple (fs.map .int), bordD bs]
abbrev vsN (l : List Nat) : List V := l.map fun (m : Nat) => V.int (m : Int)
theorem vsN_get {l : List Nat} {i : Nat} (h : i < l.length) : (vsN l)[i]? = some (V.int ((l.getD i 0 : Nat) : Int)) := by
  rw [List.getElem?_map, List.getElem?_eq_getElem h, List.getD_eq_getElem?_getD, List.getElem?_eq_getElem h]
  rfl
theorem vsN_set (l : List Nat) (i x : Nat) : (vsN l).set i (V.int (x : Int)) = vsN (l.set i x) := by
  rw [← List.map_set]
theorem ixN_nat {n j : Nat} (h : j < n) : ixN n (j : Int) = some j := by
  unfold ixN
  rw [if_pos (by omega), if_pos (by omega)]
  simp
theorem or_pp (a b : Nat) : Builtin.bitOr (a : Int) (b : Int) = ((a ||| b : Nat) : Int) := by
  rw [Bits.bitOr_pp (by omega) (by omega), Int.toNat_natCast, Int.toNat_natCast]
theorem xor_pp (a b : Nat) : Builtin.bitXor (a : Int) (b : Int) = ((a ^^^ b : Nat) : Int) := by
  rw [Bits.bitXor_pp (by omega) (by omega), Int.toNat_natCast, Int.toNat_natCast]
theorem and_pp (a b : Nat) : Builtin.bitAnd (a : Int) (b : Int) = ((a &&& b : Nat) : Int) := by
  rw [PyProof.Rows.bitAnd_pp (by omega) (by omega), Int.toNat_natCast, Int.toNat_natCast]
theorem shl_pp (b : Nat) : (1 : Int) * 2 ^ ((b : Nat) : Int).toNat = ((2 ^ b : Nat) : Int) := by
  rw [Int.toNat_natCast, Int.one_mul]
  simp
/-! ### links_of -/
def spLinksOf (K : PySem.W.Frag) : Sp := fun vs H Q _ => ∃ (l : V) (fs : List Int) (bs : List (Nat × Nat)), vs = [l] ∧ Dp K H l (landD fs bs) ∧ fs.length ≤ 12 ∧ Mk.Bs fs.length bs ∧
  ∀ p H' lk, Ext H H' → H p = none → H' p = some (.lst (vsN lk)) → Mk.Lk fs.length bs lk → Q (.ref p) H'
theorem sc_links_of : FnScope ["land", "links", "low", "high"] ["land"] (defScope st_links_of) := ⟨rfl, rfl, rfl, by decide +kernel, rfl, by decide +kernel, by decide +kernel⟩
theorem ok_links_of {f : Addr} {fd : FuncData} (F : Fun K "links_of" "links_of" st_links_of f fd) (B : Bl mg) : FnOk P w K mg base CX0 1 f fd ["land"] (spLinksOf K) := by
  refine F.ok sc_links_of (fun vs H Q E h => ?_) (fun cdv A outer s H vs Q E hr h => ?_)
  · obtain ⟨l, fs, bs, rfl, _⟩ := h
    rfl
  · obtain ⟨l, fs, bs, rfl, hd, hn, hb, k⟩ := h
    refine ⟨_, pss_cons (ps_set (i := 1) sc_links_of.nd rfl (Or.inl rfl) (pe_op op_rep (pe_lst (pa_cons pe_int pa_nil)) (pe_callB call_len (by rfl) B.len PySem.boot_len (pa_cons (pe_ix ix_tup (pv 0) pe_int (fun _ _ => rfl)) pa_nil))))
      (pss_cons (ps_for PassesOwn.never rfl (pi_tup (pe_ix ix_tup (pv 0) pe_int (fun _ _ => rfl))) (pg_tup rfl (pgs_cons (pg_name (i := 2) sc_links_of.nd rfl (Or.inl rfl)) (pgs_cons (pg_name (i := 3) sc_links_of.nd rfl (Or.inl rfl)) pgs_nil)))
        (pss_cons (ps_augS (pv 1) (pv 2) get_list (pe_op op_shl pe_int (pv 3)) iop_or set_list)
        (pss_one (ps_augS (pv 1) (pv 3) get_list (pe_op op_shl pe_int (pv 2)) iop_or set_list))))
      (pss_one (ps_ret (pv 1)))), ?_⟩
    obtain ⟨a, xs, rfl, h1, h2⟩ := dp_tup hd
    obtain ⟨v0, h3, h4⟩ := dpAll_get (i := 0) h2 rfl
    obtain ⟨b, rfl, h5⟩ := dp_ints h4
    obtain ⟨v1, h6, h7⟩ := dpAll_get (i := 1) h2 rfl
    obtain ⟨c, ys, rfl, h8, h9⟩ := dp_tup h7
    -- [0] * len(land[0])
    refine ⟨by decide, fun q hq => ?_⟩
    have x1 : Ext H (upd H q (.lst [.int 0])) := Ext.new hq
    refine ⟨_, rfl, _, _, _, _, rfl, rfl, x1.sqT h1, atI_nat h3, _, fs.length, rfl, .inr ⟨_, x1.sqT h5, by simp⟩, q, fs.length, _, rfl, rfl, upd_same, by omega, by omega, ?_, fun p hp => ?_⟩
    · have e : ((fs.length : Nat) : Int).toNat = fs.length := Int.toNat_natCast _
      rw [e]
      have : 12 ≤ sizeLine := by decide
      simp only [List.length_cons, List.length_nil]
      omega
    have x2 : Ext H (upd (upd H q (.lst [.int 0])) p (.lst (List.replicate ((fs.length : Nat) : Int).toNat [V.int 0]).flatten)) := x1.trans (Ext.new hp)
    have hp0 : H p = none := x1.free hp
    have e0 : (List.replicate ((fs.length : Nat) : Int).toNat [V.int 0]).flatten = vsN (List.replicate fs.length 0) := by
      rw [Int.toNat_natCast]
      generalize fs.length = n
      induction n with
      | zero => rfl
      | succ n ih => rw [List.replicate_succ, List.flatten_cons, ih]; rfl
    -- for low, high in land[1]
    refine ⟨_, rfl, _, _, _, _, rfl, rfl, x2.sqT h1, atI_nat h6, c, rfl, ⟨_, x2.sqT h8⟩, for_tup (K := K) (a := c) (xs := ys) (fun i σ H2 => ∃ (lk : List Nat) (o1 o2 : Option V), σ = [some (.ref a), some (.ref p), o1, o2] ∧ Ext H H2 ∧ H2 p = some (.lst (vsN lk)) ∧ Mk.Lk fs.length (bs.take i) lk)
      ⟨_, none, none, rfl, x2, by rw [upd_same, e0], by rw [List.take_zero]; exact Mk.Lk.nil _⟩ (fun i σ H2 _ ⟨_, _, _, _, x, _⟩ => x.sqT h8) ?_ ?_⟩
    · rintro i x σ H2 hx ⟨lk, o1, o2, rfl, x3, hl3, L⟩
      obtain ⟨d, hd1, hd2⟩ := dpAll_get' h9 hx
      rw [List.getElem?_map] at hd1
      cases eb : bs[i]? with
      | none => rw [eb] at hd1; cases hd1
      | some be =>
        rw [eb] at hd1
        cases hd1
        obtain ⟨b1, b2⟩ := be
        obtain ⟨hb1, hb2⟩ := hb (b1, b2) (List.mem_of_getElem? eb)
        simp only at hb1 hb2
        obtain ⟨t, zs, rfl, h10, h11⟩ := dp_tup hd2
        have ez : zs = [V.int (b1 : Int), V.int (b2 : Int)] := by
          cases h11 with
          | cons z1 zr =>
            cases zr with
            | cons z2 zr =>
              cases zr
              rw [dp_int z1, dp_int z2]
        subst ez
        have hl := L.len
        have g1 : (vsN lk)[b1]? = some (V.int ((lk.getD b1 0 : Nat) : Int)) := vsN_get (by omega)
        refine ⟨t, _, rfl, x3.sqT h10, rfl, _, _, rfl, _, _, rfl, rfl, ?_⟩
        refine ⟨_, rfl, _, rfl, p, _, b1, _, rfl, rfl, hl3, g1, _, rfl, 1, (b2 : Int), rfl, rfl, ⟨by omega, by omega, by decide⟩, _, _, rfl, rfl, p, vsN lk, _, b1, rfl, rfl, hl3, by simp [ixN_nat (show b1 < lk.length by omega)], ?_⟩
        have e1 : V.int (Builtin.bitOr ((lk.getD b1 0 : Nat) : Int) (1 * 2 ^ ((b2 : Nat) : Int).toNat)) = V.int ((lk.getD b1 0 ||| 2 ^ b2 : Nat) : Int) := by rw [shl_pp, or_pp]
        dsimp only
        rw [e1, vsN_set]
        have g2 : (vsN (lk.set b1 (lk.getD b1 0 ||| 2 ^ b2)))[b2]? = some (V.int ((lk.getD b2 0 : Nat) : Int)) := by
          rw [vsN_get (by simp; omega), Mk.getD_set (by omega), if_neg (by omega)]
        refine ⟨_, rfl, _, rfl, p, _, b2, _, rfl, rfl, upd_same, g2, _, rfl, 1, (b1 : Int), rfl, rfl, ⟨by omega, by omega, by decide⟩, _, _, rfl, rfl, p, vsN (lk.set b1 (lk.getD b1 0 ||| 2 ^ b2)), _, b2, rfl, rfl, upd_same, by simp [ixN_nat (show b2 < lk.length by omega)], ?_⟩
        have e2 : V.int (Builtin.bitOr ((lk.getD b2 0 : Nat) : Int) (1 * 2 ^ ((b1 : Nat) : Int).toNat)) = V.int ((lk.getD b2 0 ||| 2 ^ b1 : Nat) : Int) := by rw [shl_pp, or_pp]
        dsimp only
        rw [e2, vsN_set]
        refine ⟨_, _, _, rfl, ?_, upd_same, ?_⟩
        · exact (x3.write hp0).write hp0
        · have et : bs.take (i + 1) = bs.take i ++ [(b1, b2)] := by
            rw [List.take_add_one, eb]
            rfl
          rw [et]
          exact L.add hb1 hb2
    · rintro σ H2 ⟨lk, o1, o2, rfl, x3, hl3, L⟩
      have el : ys.length = bs.length := by
        have := dpAll_len h9
        rw [List.length_map] at this
        exact this
      rw [el, List.take_length] at L
      exact ⟨_, rfl, k p H2 lk x3 hp0 hl3 L⟩
/-! ### reached -/
def spReached (K : PySem.W.Frag) (T1 : Addr) : Sp := fun vs H Q _ => ∃ (l : Addr) (lk : List Nat) (n start m : Nat) (bs : List (Nat × Nat)), vs = [.ref l, .int (start : Int), .int (m : Int)] ∧ H l = some (.lst (vsN lk)) ∧ Mk.Lk n bs lk ∧ Mk.Bs n bs ∧ n ≤ 12 ∧ m < 2 ^ n ∧
  (∀ q, start.testBit q = true → m.testBit q = true) ∧ TabG H T1 ∧ ∀ r H', Ext H H' → Mk.Rch bs m start r → Q (.int ((r : Nat) : Int)) H'
theorem sc_reached : FnScope ["links", "start", "mask", "seen", "fresh", "around", "place"] ["links", "start", "mask"] (defScope st_reached) := ⟨rfl, rfl, rfl, by decide +kernel, rfl, by decide +kernel, by decide +kernel⟩
theorem ok_reached {f T1 : Addr} {fd : FuncData} (F : Fun K "reached" "reached" st_reached f fd) (B : Bl mg) (c1 : Cal P w K mg base 6 "lot_of" ["mask"] (spLotOf K T1)) : FnOk P w K mg base CX0 7 f fd ["links", "start", "mask"] (spReached K T1) := by
  refine F.ok sc_reached (fun vs H Q E h => ?_) (fun cdv A outer s H vs Q E hr h => ?_)
  · obtain ⟨l, lk, n, start, m, bs, rfl, _⟩ := h
    rfl
  · obtain ⟨l, lk, n, start, m, bs, rfl, hl, L, hb, hn, hm, hs, hT, k⟩ := h
    refine ⟨_, pss_cons (ps_set (i := 3) sc_reached.nd rfl (Or.inl rfl) (pv 1)) (pss_cons (ps_set (i := 4) sc_reached.nd rfl (Or.inl rfl) (pv 1))
      (pss_cons (ps_while PassesOwn.never (pt_truth (pv 4) (by intro _; rfl))
        (pss_cons (ps_set (i := 5) sc_reached.nd rfl (Or.inl rfl) pe_int)
        (pss_cons (ps_for PassesOwn.never rfl (pi_tup (pe_cal c1 hr rfl (pa_cons (pv 4) pa_nil))) (pg_name (i := 6) sc_reached.nd rfl (Or.inl rfl))
          (pss_one (ps_aug (i := 5) sc_reached.nd rfl (Or.inl rfl) (pe_ix ix_list (pv 0) (pv 6) (fun _ _ => rfl)) iop_or)))
        (pss_cons (ps_set (i := 4) sc_reached.nd rfl (Or.inl rfl) (pe_op op_and (pv 5) (pe_op op_xor (pv 2) (pv 3))))
        (pss_one (ps_aug (i := 3) sc_reached.nd rfl (Or.inl rfl) (pv 4) iop_or))))))
      (pss_one (ps_ret (pv 3))))), ?_⟩
    refine ⟨_, rfl, _, rfl, ?_⟩
    dsimp only [gName, tSeq]
    refine while_by (fun σ H2 => ∃ (seen fresh : Nat) (o1 o2 : Option V), σ = [some (.ref l), some (.int (start : Int)), some (.int (m : Int)), some (.int (seen : Int)), some (.int (fresh : Int)), o1, o2] ∧ Ext H H2 ∧ Mk.Walk bs m start seen fresh)
      (fun σ _ => match σ with
        | [_, _, _, some (.int a), some (.int b), _, _] => 2 * (m - a.toNat) + (if b = 0 then 0 else 1)
        | _ => 0) ⟨start, start, none, none, rfl, Ext.refl H, Mk.Walk.begin hs⟩ ?_ ?_
    · rintro σ H2 ⟨seen, fresh, o1, o2, rfl, x2, W⟩
      refine ⟨_, rfl, decide (fresh ≠ 0), ?_, ?_⟩
      · show decide (fresh ≠ 0) = (((fresh : Nat) : Int) != 0)
        by_cases e : fresh = 0
        · subst e; rfl
        · have e2 : ((fresh : Int) != 0) = true := by simp; omega
          rw [e2]
          exact decide_eq_true e
      by_cases e : fresh = 0
      · rw [decide_eq_false (by simp [e])]
        subst e
        exact iteF ⟨_, rfl, k seen H2 x2 W.fin⟩
      · rw [decide_eq_true e]
        refine iteT ?_
        have hf : fresh < 2 ^ n := Mk.lt_of_sub hm fun q hq => by
          obtain ⟨_, _, c⟩ := W.sound q (W.sub q hq)
          exact c.snd
        refine ⟨_, rfl, fresh, n, rfl, hf, by omega, x2.tabs _ hT, fun p H3 x3 hp hd3 hp3 => ?_⟩
        have x13 := x2.trans x3
        refine ⟨p, rfl, ⟨_, SqT.of hp3⟩, for_tup (K := K) (a := p) (xs := vsN (Mk.bits n fresh)) (fun i σ H4 => ∃ (o2 : Option V), σ = [some (.ref l), some (.int (start : Int)), some (.int (m : Int)), some (.int (seen : Int)), some (.int (fresh : Int)), some (.int ((((Mk.bits n fresh).take i).foldl (fun a q => a ||| lk.getD q 0) 0 : Nat) : Int)), o2] ∧ H4 = H3)
          ⟨_, rfl, rfl⟩ (fun i σ H4 _ ⟨_, _, e4⟩ => by rw [e4]; exact SqT.of hp3) ?_ ?_⟩
        · rintro i x σ H4 hx ⟨o2, rfl, rfl⟩
          rw [List.getElem?_map] at hx
          cases eb : (Mk.bits n fresh)[i]? with
          | none => rw [eb] at hx; cases hx
          | some q =>
            rw [eb] at hx
            cases hx
            have hq := (Mk.mem_bits.mp (List.mem_of_getElem? eb)).1
            have hll := L.len
            refine ⟨_, rfl, _, rfl, _, rfl, _, _, _, _, rfl, rfl, SqL.of (x13.lst hl), atI_nat (vsN_get (show q < lk.length by omega)), _, _, rfl, rfl, some (V.int (q : Int)), ?_, rfl⟩
            have et : (Mk.bits n fresh).take (i + 1) = (Mk.bits n fresh).take i ++ [q] := by
              rw [List.take_add_one, eb]
              rfl
            dsimp only [List.set]
            rw [et, List.foldl_append, or_pp]
            rfl
        · rintro σ H4 ⟨o2, rfl, rfl⟩
          have elen : (vsN (Mk.bits n fresh)).length = (Mk.bits n fresh).length := List.length_map ..
          rw [elen, List.take_length]
          generalize har : (Mk.bits n fresh).foldl (fun a q => a ||| lk.getD q 0) 0 = around
          have ha : ∀ r, around.testBit r = true ↔ ∃ q, fresh.testBit q = true ∧ Mk.adj bs q r = true := fun r => by
            rw [← har]
            exact Mk.around_bits L hf r
          have W2 := W.turn ha
          refine ⟨_, rfl, _, rfl, _, rfl, _, _, rfl, rfl, _, _, rfl, rfl, ?_⟩
          refine ⟨_, rfl, _, rfl, _, _, rfl, rfl, ?_⟩
          have e1 : Builtin.bitAnd (around : Int) (Builtin.bitXor (m : Int) (seen : Int)) = ((around &&& (m ^^^ seen) : Nat) : Int) := by rw [xor_pp, and_pp]
          have e2 : Builtin.bitOr (seen : Int) (Builtin.bitAnd (around : Int) (Builtin.bitXor (m : Int) (seen : Int))) = ((seen ||| (around &&& (m ^^^ seen)) : Nat) : Int) := by rw [e1, or_pp]
          refine ⟨⟨_, _, some (V.int (around : Int)), o2, by dsimp only [List.set]; rw [e2, e1], x13, W2⟩, ?_⟩
          show 2 * (m - (Builtin.bitOr (seen : Int) (Builtin.bitAnd (around : Int) (Builtin.bitXor (m : Int) (seen : Int)))).toNat) + (if Builtin.bitAnd (around : Int) (Builtin.bitXor (m : Int) (seen : Int)) = 0 then 0 else 1) < 2 * (m - ((seen : Nat) : Int).toNat) + (if ((fresh : Nat) : Int) = 0 then 0 else 1)
          rw [e2, e1, Int.toNat_natCast, Int.toNat_natCast, if_neg (show ¬ ((fresh : Nat) : Int) = 0 by omega)]
          have hle := W2.le
          by_cases hz : around &&& (m ^^^ seen) = 0
          · rw [hz, if_pos (show ((0 : Nat) : Int) = 0 from rfl), Nat.or_zero]
            omega
          · rw [if_neg (by omega)]
            have hdj : seen &&& (around &&& (m ^^^ seen)) = 0 := Mk.eq_of_bits fun q => by
              rw [Nat.testBit_and, Nat.testBit_and, Nat.testBit_xor, Nat.zero_testBit]
              have hsm : seen.testBit q = true → m.testBit q = true := fun hq => by
                obtain ⟨_, _, c⟩ := W.sound q hq
                exact c.snd
              cases h1 : seen.testBit q <;> cases h2 : m.testBit q <;> simp_all
            have := Mk.or_gt hdj hz
            omega
    · rintro σ H2 Q1 Q2 hq ⟨v, e, kk, ht, q⟩
      exact ⟨v, e, kk, ht, hq _ _ q⟩
end
section
variable {P : Program} {w : World} {K : PySem.W.Frag} {mg : Str → Option Value} {base : Heap}
/-! ### piece_masks -/
def spPieceMasks (K : PySem.W.Frag) (T1 : Addr) : Sp := fun vs H Q _ => ∃ (l : Addr) (lk : List Nat) (n m : Nat) (bs : List (Nat × Nat)), vs = [.ref l, .int (m : Int)] ∧ H l = some (.lst (vsN lk)) ∧ Mk.Lk n bs lk ∧ Mk.Bs n bs ∧ n ≤ 12 ∧ m < 2 ^ n ∧
  TabG H T1 ∧ ∀ p H' ps, Ext H H' → H p = none → H' p = some (.lst (vsN ps)) → Mk.Pcs bs m ps → Q (.ref p) H'
/-! ### is_border: of a right border -/
def spIsBorder (K : PySem.W.Frag) : Sp := fun vs H Q _ => ∃ (v : V) (b1 b2 n : Nat), vs = [v, .int (n : Int)] ∧ Dp K H v (.tuple [.int (b1 : Int), .int (b2 : Int)]) ∧ b1 < b2 ∧ b2 < n ∧ Q (.bl true) H
theorem sc_is_border : FnScope ["value", "many", "low", "high"] ["value", "many"] (defScope st_is_border) := ⟨rfl, rfl, rfl, by decide +kernel, rfl, by decide +kernel, by decide +kernel⟩
theorem ok_is_border {f : Addr} {fd : FuncData} (F : Fun K "is_border" "is_border" st_is_border f fd) (B : Bl mg) (c1 : Cal P w K mg base 1 "is_integer" ["value", "low", "high"] (spIsInteger K)) : FnOk P w K mg base CX0 2 f fd ["value", "many"] (spIsBorder K) := by
  refine F.ok sc_is_border (fun vs H Q E h => ?_) (fun cdv A outer s H vs Q E hr h => ?_)
  · obtain ⟨v, b1, b2, n, rfl, _⟩ := h
    rfl
  · obtain ⟨v, b1, b2, n, rfl, hd, h12, h2n, k⟩ := h
    refine ⟨_, pss_cons (ps_if (PW.pt (pw_or (pt_cmpR op_neTy (pe_callTy call_type1 rfl B.type (by decide +kernel) (pa_cons (pv 0) pa_nil)) (pe_bltn rfl B.tuple (by decide +kernel) (v := .ty "tuple") rfl) (nomark _))
        (pw_or1 (pt_cmpR op_ne (pe_callB call_len (by rfl) B.len PySem.boot_len (pa_cons (pv 0) pa_nil)) pe_int (nomark _))))) (pss_one (ps_ret pe_bl)) pss_nil)
      (pss_cons (ps_asg (pv 0) (pg_tup rfl (pgs_cons (pg_name (i := 2) sc_is_border.nd rfl (Or.inl rfl)) (pgs_cons (pg_name (i := 3) sc_is_border.nd rfl (Or.inl rfl)) pgs_nil))))
      (pss_one (ps_ret (pe_and (pe_cal c1 hr rfl (pa_cons (pv 3) (pa_cons pe_int (pa_cons (pe_op op_sub (pv 1) pe_int) pa_nil)))) (pe_one (pe_cal c1 hr rfl (pa_cons (pv 2) (pa_cons pe_int (pa_cons (pe_op op_sub (pv 3) pe_int) pa_nil))))))))), ?_⟩
    obtain ⟨t, zs, rfl, h1, h2⟩ := dp_tup hd
    have ez : zs = [V.int (b1 : Int), V.int (b2 : Int)] := by
      cases h2 with
      | cons z1 zr =>
        cases zr with
        | cons z2 zr =>
          cases zr
          rw [dp_int z1, dp_int z2]
    subst ez
    refine ⟨_, rfl, _, "tuple", rfl, .tup h1, "tuple", "tuple", rfl, rfl, by decide, by decide, false, rfl, ?_⟩
    refine iteF ⟨_, rfl, _, 2, rfl, .inr ⟨_, h1, rfl⟩, rfl, false, rfl, iteF ?_⟩
    refine ⟨_, rfl, t, _, rfl, h1, rfl, _, _, rfl, _, _, rfl, rfl, ?_⟩
    refine ⟨_, rfl, _, rfl, _, _, rfl, rfl, _, .int (b2 : Int), 0, (n : Int) - 1, rfl, .int _, true, ?_, iteT ?_⟩
    · show V.bl (decide (_ ∧ _)) = _
      rw [decide_eq_true (by omega)]
    · refine ⟨_, rfl, _, rfl, _, _, rfl, rfl, _, .int (b1 : Int), 0, (b2 : Int) - 1, rfl, .int _, ?_⟩
      show Q (V.bl (decide (_ ∧ _))) H
      rw [decide_eq_true (by omega)]
      exact k
end
theorem lex2_false {a b c d : Int} (h : c < a ∨ (c = a ∧ d < b)) :
    Ob.lexAt (fun j => decide ([a, b].getD j 0 = [c, d].getD j 0)) (fun j => decide ([a, b].getD j 0 ≤ [c, d].getD j 0)) (decide ([a, b].length ≤ [c, d].length)) 0 (min [a, b].length [c, d].length) = false := by
  show (if decide (a = c) = true then (if decide (b = d) = true then _ else decide (b ≤ d)) else decide (a ≤ c)) = false
  by_cases e1 : a = c
  · rw [decide_eq_true e1, if_pos rfl]
    have e2 : ¬ b = d := by omega
    rw [decide_eq_false e2, if_neg Bool.false_ne_true]
    apply decide_eq_false
    omega
  · rw [decide_eq_false e1, if_neg Bool.false_ne_true]
    apply decide_eq_false
    omega
/-- the three numbers of the module -/
structure Nums (mg : Str → Option Value) : Prop where
  fp : ∃ t, mg "FEWEST_PLACES" = some (.int 2 t)
  mp : ∃ t, mg "MOST_PLACES" = some (.int 12 t)
  mf : ∃ t, mg "MOST_FOLK" = some (.int 1000000 t)
def ltP (a b : Nat × Nat) : Prop := a.1 < b.1 ∨ (a.1 = b.1 ∧ a.2 < b.2)
structure LandOk (fs : List Int) (bs : List (Nat × Nat)) : Prop where
  few : 2 ≤ fs.length
  most : fs.length ≤ 12
  folk : ∀ z ∈ fs, 0 ≤ z ∧ z ≤ 1000000
  bord : Mk.Bs fs.length bs
  asc : bs.Pairwise ltP
theorem bs_len {n : Nat} (hn : n ≤ 12) {bs : List (Nat × Nat)} (hb : Mk.Bs n bs) (h : bs.Pairwise ltP) : bs.length ≤ 1000 := by
  -- coded by one number below 13 * 13, ascending
  have key : ∀ (l : List Nat) (m : Nat), l.Pairwise (· < ·) → (∀ x ∈ l, x < m) → l.length ≤ m := by
    intro l
    induction l with
    | nil => intro m _ _; exact Nat.zero_le _
    | cons a r ih =>
      intro m hp hm
      rw [List.pairwise_cons] at hp
      have h1 := ih (m - a - 1) |> fun _ => hm a List.mem_cons_self
      have h2 : ∀ (r : List Nat) (lo m : Nat), r.Pairwise (· < ·) → (∀ x ∈ r, lo ≤ x ∧ x < m) → r.length ≤ m - lo := by
        intro r
        induction r with
        | nil => intro lo m _ _; exact Nat.zero_le _
        | cons b r ih =>
          intro lo m hp hm
          rw [List.pairwise_cons] at hp
          have h3 := hm b List.mem_cons_self
          have := ih (b + 1) m hp.2 fun x hx => ⟨hp.1 x hx, (hm x (List.mem_cons_of_mem _ hx)).2⟩
          rw [List.length_cons]
          omega
      have h3 := h2 r (a + 1) m hp.2 fun x hx => ⟨hp.1 x hx, hm x (List.mem_cons_of_mem _ hx)⟩
      rw [List.length_cons]
      omega
  have h2 := key (bs.map fun (b : Nat × Nat) => 13 * b.1 + b.2) 169 (by
    rw [List.pairwise_map]
    refine List.Pairwise.imp_of_mem (fun {a b} ha hb' z => ?_) h
    have := hb a ha
    have := hb b hb'
    rcases z with z | z
    · omega
    · omega) fun x hx => by
    obtain ⟨b, h1, rfl⟩ := List.mem_map.mp hx
    have := hb b h1
    omega
  rw [List.length_map] at h2
  omega
section
variable {P : Program} {w : World} {K : PySem.W.Frag} {mg : Str → Option Value} {base : Heap}
theorem dp_pair {H : Hp} {v : V} {b : Nat × Nat} (h : Dp K H v (.tuple [.int (b.1 : Int), .int (b.2 : Int)])) : ∃ t, v = .ref t ∧ SqT K H t [V.int (b.1 : Int), V.int (b.2 : Int)] := by
  obtain ⟨t, zs, rfl, h1, h2⟩ := dp_tup h
  cases h2 with
  | cons z1 zr =>
    cases zr with
    | cons z2 zr =>
      cases zr
      rw [dp_int z1, dp_int z2] at h1
      exact ⟨t, rfl, h1⟩
theorem dp_bord {H : Hp} {v : V} {bs : List (Nat × Nat)} (h : Dp K H v (bordD bs)) : ∃ c ys, v = .ref c ∧ SqT K H c ys ∧ ys.length = bs.length ∧ ∀ (i : Nat) (b : Nat × Nat), bs[i]? = some b → ∃ u, ys[i]? = some u ∧ Dp K H u (.tuple [.int (b.1 : Int), .int (b.2 : Int)]) := by
  obtain ⟨c, ys, rfl, h1, h2⟩ := dp_tup h
  refine ⟨c, ys, rfl, h1, by have := dpAll_len h2; rw [List.length_map] at this; exact this, fun i b e => ?_⟩
  exact dpAll_get h2 (by rw [List.getElem?_map, e]; rfl)
/-! ### fault_of_folk, fault_of_borders, fault_of_land, check_land: of right lands -/
def spFaultFolk (K : PySem.W.Frag) : Sp := fun vs H Q _ => ∃ (v : V) (fs : List Int), vs = [v] ∧ Dp K H v (.tuple (fs.map .int)) ∧ 2 ≤ fs.length ∧ fs.length ≤ 12 ∧ (∀ z ∈ fs, 0 ≤ z ∧ z ≤ 1000000) ∧ Q .non H
theorem sc_fault_of_folk : FnScope ["folk", "k"] ["folk"] (defScope st_fault_of_folk) := ⟨rfl, rfl, rfl, by decide +kernel, rfl, by decide +kernel, by decide +kernel⟩
theorem ok_fault_of_folk {f : Addr} {fd : FuncData} (F : Fun K "fault_of_folk" "fault_of_folk" st_fault_of_folk f fd) (B : Bl mg) (N : Nums mg) (c1 : Cal P w K mg base 1 "is_integer" ["value", "low", "high"] (spIsInteger K)) : FnOk P w K mg base CX0 2 f fd ["folk"] (spFaultFolk K) := by
  refine F.ok sc_fault_of_folk (fun vs H Q E h => ?_) (fun cdv A outer s H vs Q E hr h => ?_)
  · obtain ⟨v, fs, rfl, _⟩ := h
    rfl
  · obtain ⟨v, fs, rfl, hd, h2, h12, hf, k⟩ := h
    obtain ⟨⟨t1, e1⟩, ⟨t2, e2⟩, ⟨t3, e3⟩⟩ := N
    refine ⟨_, pss_cons (ps_if (PW.pt (pw_or (pt_cmpR op_neTy (pe_callTy call_type1 rfl B.type (by decide +kernel) (pa_cons (pv 0) pa_nil)) (pe_bltn rfl B.tuple (by decide +kernel) (v := .ty "tuple") rfl) (nomark _))
        (pw_or1 (pt_not (pt_chain op_le op_le (pe_glob rfl e1 (v := .int 2) ⟨_, rfl⟩) (pe_callB call_len (by rfl) B.len PySem.boot_len (pa_cons (pv 0) pa_nil)) (pe_glob rfl e2 (v := .int 12) ⟨_, rfl⟩)))))) pss_never pss_nil)
      (pss_cons (ps_for PassesOwn.never rfl (pi_range1 rfl B.range (pa_cons (pe_callB call_len (by rfl) B.len PySem.boot_len (pa_cons (pv 0) pa_nil)) pa_nil)) (pg_name (i := 1) sc_fault_of_folk.nd rfl (Or.inl rfl))
        (pss_one (ps_if (pt_not (pt_val (pe_cal c1 hr rfl (pa_cons (pe_ix ix_tup (pv 0) (pv 1) (fun _ _ => rfl)) (pa_cons pe_int (pa_cons (pe_glob rfl e3 (v := .int 1000000) ⟨_, rfl⟩) pa_nil)))) (by intro _; rfl))) pss_never pss_nil)))
      (pss_one (ps_ret pe_non))), ?_⟩
    obtain ⟨a, rfl, h1⟩ := dp_ints hd
    refine ⟨_, rfl, _, "tuple", rfl, .tup h1, "tuple", "tuple", rfl, rfl, by decide, by decide, false, rfl, ?_⟩
    refine iteF ⟨_, rfl, _, fs.length, rfl, .inr ⟨_, h1, by simp⟩, _, _, rfl, rfl, true, ?_, iteT ⟨_, _, rfl, rfl, true, ?_, iteF ?_⟩⟩
    · show V.bl (decide _) = _
      rw [decide_eq_true (by omega)]
    · show V.bl (decide _) = _
      rw [decide_eq_true (by omega)]
    refine ⟨_, rfl, _, fs.length, rfl, .inr ⟨_, h1, by simp⟩, _, rfl, by omega, by omega, ?_⟩
    rw [Int.toNat_natCast]
    refine for_range (n := fs.length) (fun i σ H2 => ∃ o, σ = [some (.ref a), o] ∧ H2 = H) ⟨_, rfl, rfl⟩ ?_ ?_
    · rintro i σ H2 hi ⟨o, rfl, rfl⟩
      have g1 : (fs.map V.int)[i]? = some (V.int fs[i]) := by rw [List.getElem?_map, List.getElem?_eq_getElem hi]; rfl
      refine ⟨_, rfl, _, rfl, _, _, _, _, rfl, rfl, h1, by rw [Int.zero_add]; exact atI_nat g1, _, .int fs[i], 0, 1000000, rfl, .int _, true, ?_, iteF ⟨_, rfl, rfl⟩⟩
      show V.bl (decide _) = _
      rw [decide_eq_true (hf _ (List.getElem_mem hi))]
    · rintro σ H2 ⟨o, rfl, rfl⟩
      exact k
def spFaultBord (K : PySem.W.Frag) : Sp := fun vs H Q _ => ∃ (v : V) (bs : List (Nat × Nat)) (n : Nat), vs = [v, .int (n : Int)] ∧ Dp K H v (bordD bs) ∧ n ≤ 12 ∧ Mk.Bs n bs ∧ bs.Pairwise ltP ∧ Q .non H
theorem sc_fault_of_borders : FnScope ["borders", "many", "k"] ["borders", "many"] (defScope st_fault_of_borders) := ⟨rfl, rfl, rfl, by decide +kernel, rfl, by decide +kernel, by decide +kernel⟩
theorem ok_fault_of_borders {f : Addr} {fd : FuncData} (F : Fun K "fault_of_borders" "fault_of_borders" st_fault_of_borders f fd) (B : Bl mg) (c1 : Cal P w K mg base 2 "is_border" ["value", "many"] (spIsBorder K)) : FnOk P w K mg base CX0 3 f fd ["borders", "many"] (spFaultBord K) := by
  refine F.ok sc_fault_of_borders (fun vs H Q E h => ?_) (fun cdv A outer s H vs Q E hr h => ?_)
  · obtain ⟨v, bs, n, rfl, _⟩ := h
    rfl
  · obtain ⟨v, bs, n, rfl, hd, hn, hb, ha, k⟩ := h
    refine ⟨_, pss_cons (ps_if (pt_cmpR op_neTy (pe_callTy call_type1 rfl B.type (by decide +kernel) (pa_cons (pv 0) pa_nil)) (pe_bltn rfl B.tuple (by decide +kernel) (v := .ty "tuple") rfl) (nomark _)) pss_never pss_nil)
      (pss_cons (ps_for PassesOwn.never rfl (pi_range1 rfl B.range (pa_cons (pe_callB call_len (by rfl) B.len PySem.boot_len (pa_cons (pv 0) pa_nil)) pa_nil)) (pg_name (i := 2) sc_fault_of_borders.nd rfl (Or.inl rfl))
        (pss_cons (ps_if (pt_not (pt_val (pe_cal c1 hr rfl (pa_cons (pe_ix ix_tup (pv 0) (pv 2) (fun _ _ => rfl)) (pa_cons (pv 1) pa_nil))) (by intro _; rfl))) pss_never pss_nil)
        (pss_one (ps_if (PW.pt (pw_and (pt_cmpR op_gt (pv 2) pe_int (nomark _)) (pw_and1 (pt_cmpR (op_leT hr.units0) (pe_ix ix_tup (pv 0) (pv 2) (fun _ _ => rfl)) (pe_ix ix_tup (pv 0) (pe_op op_sub (pv 2) pe_int) (fun _ _ => rfl)) (nomark _))))) pss_never pss_nil))))
      (pss_one (ps_ret pe_non))), ?_⟩
    obtain ⟨c, ys, rfl, h1, hl, hg⟩ := dp_bord hd
    have hbl := bs_len hn hb ha
    refine ⟨_, rfl, _, "tuple", rfl, .tup h1, "tuple", "tuple", rfl, rfl, by decide, by decide, false, rfl, iteF ?_⟩
    refine ⟨_, rfl, _, bs.length, rfl, .inr ⟨_, h1, hl.symm⟩, _, rfl, by omega, by omega, ?_⟩
    rw [Int.toNat_natCast]
    refine for_range (n := bs.length) (fun i σ H2 => ∃ o, σ = [some (.ref c), some (.int (n : Int)), o] ∧ H2 = H) ⟨_, rfl, rfl⟩ ?_ ?_
    · rintro i σ H2 hi ⟨o, rfl, rfl⟩
      obtain ⟨u, hu, hu2⟩ := hg i _ (List.getElem?_eq_getElem hi)
      have hbi := hb _ (List.getElem_mem hi)
      refine ⟨_, rfl, _, rfl, _, _, _, _, rfl, rfl, h1, by rw [Int.zero_add]; exact atI_nat hu, _, rfl, _, bs[i].1, bs[i].2, n, rfl, hu2, hbi.1, hbi.2, true, rfl, iteF ?_⟩
      refine ⟨_, rfl, _, _, rfl, rfl, decide (0 < i), ?_, ?_⟩
      · show V.bl (decide ((0 : Int) < (0 : Int) + (i : Int))) = _
        congr 1
        apply decide_eq_decide.mpr
        omega
      by_cases hi0 : 0 < i
      · rw [decide_eq_true hi0]
        refine iteT ?_
        obtain ⟨u', hu', hu2'⟩ := hg (i - 1) _ (List.getElem?_eq_getElem (show i - 1 < bs.length by omega))
        obtain ⟨t, rfl, q1⟩ := dp_pair hu2
        obtain ⟨t', rfl, q2⟩ := dp_pair hu2'
        have hlt : ltP bs[i - 1] bs[i] := List.pairwise_iff_getElem.mp ha _ _ _ _ (by omega)
        refine ⟨_, rfl, _, rfl, _, _, _, _, rfl, rfl, h1, by rw [Int.zero_add]; exact atI_nat hu, _, rfl, _, rfl, _, _, rfl, rfl, _, _, _, _, rfl, rfl, h1, (by
          have e : (0 : Int) + (i : Int) - 1 = ((i - 1 : Nat) : Int) := by omega
          rw [e]; exact atI_nat hu'), t, t', [(bs[i].1 : Int), (bs[i].2 : Int)], [(bs[i - 1].1 : Int), (bs[i - 1].2 : Int)], rfl, rfl, q1, q2, false, ?_, iteF ⟨_, rfl, rfl⟩⟩
        congr 1
        unfold ltP at hlt
        apply lex2_false
        omega
      · rw [decide_eq_false hi0]
        exact iteF (iteF ⟨_, rfl, rfl⟩)
    · rintro σ H2 ⟨o, rfl, rfl⟩
      exact k
def spFaultLand (K : PySem.W.Frag) : Sp := fun vs H Q _ => ∃ (v : V) (fs : List Int) (bs : List (Nat × Nat)), vs = [v] ∧ Dp K H v (landD fs bs) ∧ LandOk fs bs ∧ Q .non H
theorem sc_fault_of_land : FnScope ["value", "folk", "borders", "place"] ["value"] (defScope st_fault_of_land) := ⟨rfl, rfl, rfl, by decide +kernel, rfl, by decide +kernel, by decide +kernel⟩
theorem ok_fault_of_land {f : Addr} {fd : FuncData} (F : Fun K "fault_of_land" "fault_of_land" st_fault_of_land f fd) (B : Bl mg) (c1 : Cal P w K mg base 2 "fault_of_folk" ["folk"] (spFaultFolk K)) (c2 : Cal P w K mg base 3 "fault_of_borders" ["borders", "many"] (spFaultBord K)) : FnOk P w K mg base CX0 4 f fd ["value"] (spFaultLand K) := by
  refine F.ok sc_fault_of_land (fun vs H Q E h => ?_) (fun cdv A outer s H vs Q E hr h => ?_)
  · obtain ⟨v, fs, bs, rfl, _⟩ := h
    rfl
  · obtain ⟨v, fs, bs, rfl, hd, ok, k⟩ := h
    refine ⟨_, pss_cons (ps_if (PW.pt (pw_or (pt_cmpR op_neTy (pe_callTy call_type1 rfl B.type (by decide +kernel) (pa_cons (pv 0) pa_nil)) (pe_bltn rfl B.tuple (by decide +kernel) (v := .ty "tuple") rfl) (nomark _))
        (pw_or1 (pt_cmpR op_ne (pe_callB call_len (by rfl) B.len PySem.boot_len (pa_cons (pv 0) pa_nil)) pe_int (nomark _))))) pss_never pss_nil)
      (pss_cons (ps_asg (pv 0) (pg_tup rfl (pgs_cons (pg_name (i := 1) sc_fault_of_land.nd rfl (Or.inl rfl)) (pgs_cons (pg_name (i := 2) sc_fault_of_land.nd rfl (Or.inl rfl)) pgs_nil))))
      (pss_cons (ps_set (i := 3) sc_fault_of_land.nd rfl (Or.inl rfl) (pe_cal c1 (hr.mono (by decide)) rfl (pa_cons (pv 1) pa_nil)))
      (pss_cons (ps_if (pt_cmpR op_isN (pv 3) pe_non (nomark _)) (pss_one (ps_set (i := 3) sc_fault_of_land.nd rfl (Or.inl rfl) (pe_cal c2 hr rfl (pa_cons (pv 2) (pa_cons (pe_callB call_len (by rfl) B.len PySem.boot_len (pa_cons (pv 1) pa_nil)) pa_nil))))) pss_nil)
      (pss_one (ps_ret (pv 3)))))), ?_⟩
    obtain ⟨a, xs, rfl, h1, h2⟩ := dp_tup hd
    have ez : ∃ v0 v1, xs = [v0, v1] ∧ Dp K H v0 (.tuple (fs.map .int)) ∧ Dp K H v1 (bordD bs) := by
      cases h2 with
      | cons z1 zr =>
        cases zr with
        | cons z2 zr =>
          cases zr
          exact ⟨_, _, rfl, z1, z2⟩
    obtain ⟨v0, v1, rfl, d0, d1⟩ := ez
    obtain ⟨b, rfl, h5⟩ := dp_ints d0
    refine ⟨_, rfl, _, "tuple", rfl, .tup h1, "tuple", "tuple", rfl, rfl, by decide, by decide, false, rfl, ?_⟩
    refine iteF ⟨_, rfl, _, 2, rfl, .inr ⟨_, h1, rfl⟩, rfl, false, rfl, iteF ?_⟩
    refine ⟨_, rfl, a, _, rfl, h1, rfl, _, _, rfl, _, _, rfl, rfl, ?_⟩
    refine ⟨_, rfl, _, fs, rfl, d0, ok.few, ok.most, ok.folk, ?_⟩
    refine ⟨_, rfl, rfl, true, rfl, iteT ?_⟩
    refine ⟨_, rfl, _, rfl, _, fs.length, rfl, .inr ⟨_, h5, by simp⟩, _, bs, fs.length, rfl, d1, ok.most, ok.bord, ok.asc, ?_⟩
    exact ⟨_, rfl, k⟩
def spCheckLand (K : PySem.W.Frag) : Sp := spFaultLand K
theorem sc_check_land : FnScope ["land", "place"] ["land"] (defScope st_check_land) := ⟨rfl, rfl, rfl, by decide +kernel, rfl, by decide +kernel, by decide +kernel⟩
theorem ok_check_land {f : Addr} {fd : FuncData} (F : Fun K "check_land" "check_land" st_check_land f fd) (c1 : Cal P w K mg base 4 "fault_of_land" ["value"] (spFaultLand K)) : FnOk P w K mg base CX0 5 f fd ["land"] (spFaultLand K) := by
  refine F.ok sc_check_land (fun vs H Q E h => ?_) (fun cdv A outer s H vs Q E hr h => ?_)
  · obtain ⟨v, fs, bs, rfl, _⟩ := h
    rfl
  · obtain ⟨v, fs, bs, rfl, hd, ok, k⟩ := h
    refine ⟨_, pss_cons (ps_set (i := 1) sc_check_land.nd rfl (Or.inl rfl) (pe_cal c1 hr rfl (pa_cons (pv 0) pa_nil))) (pss_one (ps_if (pt_cmpR op_notN (pv 1) pe_non (nomark _)) pss_never pss_nil)), ?_⟩
    exact ⟨_, rfl, v, fs, bs, rfl, hd, ok, _, rfl, rfl, false, rfl, iteF k⟩
/-! ### check_lot -/
def spCheckLot (K : PySem.W.Frag) (T1 T2 : Addr) : Sp := fun vs H Q _ => ∃ (l v : V) (fs : List Int) (bd : PyData) (ps : List Nat), vs = [l, v] ∧ Dp K H l (.tuple [.tuple (fs.map .int), bd]) ∧ fs.length ≤ 12 ∧ Dp K H v (lotD ps) ∧ isLot fs.length ps = true ∧ ps.length ≤ 12 ∧
  TabG H T1 ∧ TabG H T2 ∧ ∀ H', Ext H H' → Q .non H'
end
section
variable {P : Program} {w : World} {K : PySem.W.Frag} {mg : Str → Option Value} {base : Heap}
/-! ### cut_places -/
theorem asc_pair : ∀ {ns : List Int}, asc ns = true → ns.Pairwise (· < ·)
  | [], _ => .nil
  | [_], _ => by simp
  | a :: b :: r, h => by
    have h2 : (decide (a < b) && asc (b :: r)) = true := h
    rw [Bool.and_eq_true, decide_eq_true_eq] at h2
    have ih := asc_pair h2.2
    rw [List.pairwise_cons] at ih ⊢
    refine ⟨fun x hx => ?_, by rw [List.pairwise_cons]; exact ih⟩
    rcases List.mem_cons.mp hx with e | e
    · rw [e]; exact h2.1
    · have := ih.1 x e
      omega
structure LotOk (n : Nat) (ps : List Nat) : Prop where
  ne : ps ≠ []
  lt : ∀ p ∈ ps, p < n
  asc : ps.Pairwise (· < ·)
theorem pair_asc : ∀ {ns : List Int}, ns.Pairwise (· < ·) → asc ns = true
  | [], _ => rfl
  | [_], _ => rfl
  | a :: b :: r, h => by
    rw [List.pairwise_cons] at h
    show (decide (a < b) && asc (b :: r)) = true
    rw [pair_asc h.2, decide_eq_true (h.1 b List.mem_cons_self)]
    rfl
theorem LotOk.is {n : Nat} {ps : List Nat} (h : LotOk n ps) : isLot n ps = true := by
  unfold isLot
  have e1 : ps.isEmpty = false := by cases ps with
    | nil => exact absurd rfl h.ne
    | cons _ _ => rfl
  have e2 : (ps.all fun p => decide (p < n)) = true := List.all_eq_true.mpr fun p hp => decide_eq_true (h.lt p hp)
  have e3 : Wd.asc (ps.map fun (p : Nat) => (p : Int)) = true := Wd.pair_asc (by
    rw [List.pairwise_map]
    exact h.asc.imp fun z => by omega)
  rw [e1, e2, e3]
  rfl
theorem LotOk.len {n : Nat} {ps : List Nat} (h : LotOk n ps) : ps.length ≤ n := by
  have e := Mk.bits_mask h.asc h.lt
  rw [← e]
  exact Mk.bits_len _ _
end
end Wd

set_option Elab.async false
set_option linter.all false
set_option maxRecDepth 100000
set_option maxHeartbeats 4000000
namespace Wd
open PySem PySem.Spec PyProof.Rows L2 Bx Gx














































section
variable {P : Program} {w : World} {K : PySem.W.Frag} {mg : Str → Option Value} {base : Heap}
/-! ### judging any value: is_border, fault_of_folk -/
theorem tup_dp {H : Hp} {v : V} {d : PyData} (h : Dp K H v d) : (∃ ds a xs, d = .tuple ds ∧ v = .ref a ∧ SqT K H a xs ∧ DpAll K H xs ds) ∨ (∃ T, T ∈ tyNames ∧ TyB K H v T ∧ T ≠ "tuple" ∧ ∀ ds, d ≠ .tuple ds) := by
  cases h with
  | non => exact .inr ⟨"NoneType", by decide, .non, by decide, fun _ z => nomatch z⟩
  | bl b => exact .inr ⟨"bool", by decide, .bl b, by decide, fun _ z => nomatch z⟩
  | int i => exact .inr ⟨"int", by decide, .int i, by decide, fun _ z => nomatch z⟩
  | str x => exact .inr ⟨"str", by decide, .str x, by decide, fun _ z => nomatch z⟩
  | lst h _ => exact .inr ⟨"list", by decide, .lst h, by decide, fun _ z => nomatch z⟩
  | tup h hs => exact .inl ⟨_, _, _, rfl, rfl, h, hs⟩
def bordB (n : Int) : PyData → Bool
  | .tuple [x, .int h] => isIntD 0 (n - 1) (.int h) && isIntD 0 (h - 1) x
  | _ => false
theorem bordB_not {n : Int} {d : PyData} (h : ∀ ds, d ≠ .tuple ds) : bordB n d = false := by
  cases d with
  | tuple ds => exact absurd rfl (h ds)
  | _ => rfl
theorem bordB_len {n : Int} {ds : List PyData} (h : ds.length ≠ 2) : bordB n (.tuple ds) = false := by
  match ds, h with
  | [], _ => rfl
  | [_], _ => rfl
  | [_, _], h => exact absurd rfl h
  | _ :: _ :: _ :: _, _ => simp [bordB]
theorem bordB_fst {n : Int} {x y : PyData} (h : isIntD 0 (n - 1) y = false) : bordB n (.tuple [x, y]) = false := by
  cases y with
  | int i => show (isIntD 0 (n - 1) (.int i) && _) = false; rw [h]; rfl
  | _ => rfl
theorem dp_two {H : Hp} {ds : List PyData} {zs : List V} (hz : ds.length = 2) (h : DpAll K H zs ds) : ∃ x y vx vy, ds = [x, y] ∧ zs = [vx, vy] ∧ Dp K H vx x ∧ Dp K H vy y := by
  cases h with
  | nil => cases hz
  | cons h1 hr =>
    cases hr with
    | nil => cases hz
    | cons h2 hr2 =>
      cases hr2 with
      | nil => exact ⟨_, _, _, _, rfl, rfl, h1, h2⟩
      | cons _ _ => simp at hz
def spIsBorderA (K : PySem.W.Frag) : Sp := fun vs H Q _ => ∃ (v : V) (d : PyData) (n : Int), vs = [v, .int n] ∧ Dp K H v d ∧ Q (.bl (bordB n d)) H
theorem ok_is_borderA {f : Addr} {fd : FuncData} (F : Fun K "is_border" "is_border" st_is_border f fd) (B : Bl mg) (c1 : Cal P w K mg base 1 "is_integer" ["value", "low", "high"] (spIsInteger K)) : FnOk P w K mg base CX0 2 f fd ["value", "many"] (spIsBorderA K) := by
  refine F.ok sc_is_border (fun vs H Q E h => ?_) (fun cdv A outer s H vs Q E hr h => ?_)
  · obtain ⟨v, d, n, rfl, _⟩ := h
    rfl
  · obtain ⟨v, d, n, rfl, hd, k⟩ := h
    refine ⟨_, pss_cons (ps_if (PW.pt (pw_or (pt_cmpR op_neTy (pe_callTy call_type1 rfl B.type (by decide +kernel) (pa_cons (pv 0) pa_nil)) (pe_bltn rfl B.tuple (by decide +kernel) (v := .ty "tuple") rfl) (nomark _))
        (pw_or1 (pt_cmpR op_ne (pe_callB call_len (by rfl) B.len PySem.boot_len (pa_cons (pv 0) pa_nil)) pe_int (nomark _))))) (pss_one (ps_ret pe_bl)) pss_nil)
      (pss_cons (ps_asg (pv 0) (pg_tup rfl (pgs_cons (pg_name (i := 2) sc_is_border.nd rfl (Or.inl rfl)) (pgs_cons (pg_name (i := 3) sc_is_border.nd rfl (Or.inl rfl)) pgs_nil))))
      (pss_one (ps_ret (pe_and (pe_cal c1 hr rfl (pa_cons (pv 3) (pa_cons pe_int (pa_cons (pe_op op_sub (pv 1) pe_int) pa_nil)))) (pe_one (pe_cal c1 hr rfl (pa_cons (pv 2) (pa_cons pe_int (pa_cons (pe_op op_sub (pv 3) pe_int) pa_nil))))))))), ?_⟩
    rcases tup_dp hd with ⟨ds, t, zs, rfl, rfl, h1, h2⟩ | ⟨T, hT, ht, hne, hno⟩
    · refine ⟨_, rfl, _, "tuple", rfl, .tup h1, "tuple", "tuple", rfl, rfl, by decide, by decide, false, rfl, ?_⟩
      have hl := dpAll_len h2
      refine iteF ⟨_, rfl, _, ds.length, rfl, .inr ⟨_, h1, hl.symm⟩, rfl, _, rfl, ?_⟩
      show if (!decide (V.int (ds.length : Int) = V.int 2)) = true then _ else _
      by_cases hz : ds.length = 2
      · rw [hz]
        refine iteF ?_
        obtain ⟨x, y, vx, vy, rfl, rfl, hx, hy⟩ := dp_two hz h2
        · refine ⟨_, rfl, t, _, rfl, h1, rfl, _, _, rfl, _, _, rfl, rfl, ?_⟩
          refine ⟨_, rfl, _, rfl, _, _, rfl, rfl, _, y, 0, n - 1, rfl, hy, ?_⟩
          cases e : isIntD 0 (n - 1) y with
          | false =>
            rw [bordB_fst e] at k
            exact ⟨_, rfl, iteF k⟩
          | true =>
            cases hy with
            | int i =>
              refine ⟨_, rfl, iteT ?_⟩
              refine ⟨_, rfl, _, rfl, _, _, rfl, rfl, _, x, 0, i - 1, rfl, hx, ?_⟩
              have ek : bordB n (.tuple [x, .int i]) = isIntD 0 (i - 1) x := by
                show (isIntD 0 (n - 1) (.int i) && _) = _
                rw [e]
                rfl
              rw [ek] at k
              exact k
            | non => cases e
            | bl => cases e
            | str => cases e
            | lst => cases e
            | tup => cases e
      · have e1 : (!decide (V.int (ds.length : Int) = V.int 2)) = true := by
          rw [decide_eq_false]
          · rfl
          · intro z
            injection z with z
            exact hz (by omega)
        rw [e1]
        refine iteT ?_
        rw [bordB_len hz] at k
        exact k
    · rw [bordB_not hno] at k
      refine ⟨_, rfl, _, T, rfl, ht, T, "tuple", rfl, rfl, hT, by decide, true, ?_, ?_⟩
      · rw [decide_eq_false hne]
        rfl
      · exact iteT (iteT k)
end
section
variable {P : Program} {w : World} {K : PySem.W.Frag} {mg : Str → Option Value} {base : Heap}
/-! ### fault_of_folk of any value -/
def folkF : PyData → Option (List Int)
  | .tuple ds => if 2 ≤ ds.length ∧ ds.length ≤ 12 then (ds.findIdx? fun x => !isIntD 0 1000000 x).map fun (k : Nat) => [0, (k : Int)] else some [0]
  | _ => some [0]
theorem folkF_not {d : PyData} (h : ∀ ds, d ≠ .tuple ds) : folkF d = some [0] := by
  cases d with
  | tuple ds => exact absurd rfl (h ds)
  | _ => rfl
/-- what a fault's finder gives: None, or a new tuple of ints -/
def Gives (Q : VK) (H : Hp) : Option (List Int) → Prop
  | none => Q .non H
  | some l => ∀ q H', Ext H H' → H q = none → H' q = some (.tup (l.map V.int)) → Q (.ref q) H'
def spFaultFolkA (K : PySem.W.Frag) : Sp := fun vs H Q _ => ∃ (v : V) (d : PyData), vs = [v] ∧ Dp K H v d ∧ Gives Q H (folkF d)
theorem ok_fault_of_folkA {f : Addr} {fd : FuncData} (F : Fun K "fault_of_folk" "fault_of_folk" st_fault_of_folk f fd) (B : Bl mg) (N : Nums mg) (c1 : Cal P w K mg base 1 "is_integer" ["value", "low", "high"] (spIsInteger K)) : FnOk P w K mg base CX0 2 f fd ["folk"] (spFaultFolkA K) := by
  refine F.ok sc_fault_of_folk (fun vs H Q E h => ?_) (fun cdv A outer s H vs Q E hr h => ?_)
  · obtain ⟨v, d, rfl, _⟩ := h
    rfl
  · obtain ⟨v, d, rfl, hd, k⟩ := h
    obtain ⟨⟨t1, e1⟩, ⟨t2, e2⟩, ⟨t3, e3⟩⟩ := N
    refine ⟨_, pss_cons (ps_if (PW.pt (pw_or (pt_cmpR op_neTy (pe_callTy call_type1 rfl B.type (by decide +kernel) (pa_cons (pv 0) pa_nil)) (pe_bltn rfl B.tuple (by decide +kernel) (v := .ty "tuple") rfl) (nomark _))
        (pw_or1 (pt_not (pt_chain op_le op_le (pe_glob rfl e1 (v := .int 2) ⟨_, rfl⟩) (pe_callB call_len (by rfl) B.len PySem.boot_len (pa_cons (pv 0) pa_nil)) (pe_glob rfl e2 (v := .int 12) ⟨_, rfl⟩)))))) (pss_one (ps_ret (pe_tup (pa_cons pe_int pa_nil)))) pss_nil)
      (pss_cons (ps_for PassesOwn.never rfl (pi_range1 rfl B.range (pa_cons (pe_callB call_len (by rfl) B.len PySem.boot_len (pa_cons (pv 0) pa_nil)) pa_nil)) (pg_name (i := 1) sc_fault_of_folk.nd rfl (Or.inl rfl))
        (pss_one (ps_if (pt_not (pt_val (pe_cal c1 hr rfl (pa_cons (pe_ix ix_tup (pv 0) (pv 1) (fun _ _ => rfl)) (pa_cons pe_int (pa_cons (pe_glob rfl e3 (v := .int 1000000) ⟨_, rfl⟩) pa_nil)))) (by intro _; rfl))) (pss_one (ps_ret (pe_tup (pa_cons pe_int (pa_cons (pv 1) pa_nil))))) pss_nil)))
      (pss_one (ps_ret pe_non))), ?_⟩
    have zero : folkF d = some [0] → ∀ p, H p = none → Q (.ref p) (upd H p (.tup [.int 0])) := fun e p hp => by
      rw [e] at k
      exact k p _ (.new hp) hp upd_same
    rcases tup_dp hd with ⟨ds, a, xs, rfl, rfl, h1, h2⟩ | ⟨T, hT, ht, hne, hno⟩
    · have hl := dpAll_len h2
      refine ⟨_, rfl, _, "tuple", rfl, .tup h1, "tuple", "tuple", rfl, rfl, by decide, by decide, false, rfl, ?_⟩
      by_cases hz2 : 2 ≤ ds.length
      · by_cases hz12 : ds.length ≤ 12
        · refine iteF ⟨_, rfl, _, ds.length, rfl, .inr ⟨_, h1, hl.symm⟩, _, _, rfl, rfl, true, ?_, iteT ⟨_, _, rfl, rfl, true, ?_, iteF ?_⟩⟩
          · show V.bl (decide _) = _
            rw [decide_eq_true (by omega)]
          · show V.bl (decide _) = _
            rw [decide_eq_true (by omega)]
          have ek : folkF (.tuple ds) = (ds.findIdx? fun x => !isIntD 0 1000000 x).map fun (k : Nat) => [0, (k : Int)] := by
            show (if 2 ≤ ds.length ∧ ds.length ≤ 12 then _ else _) = _
            rw [if_pos ⟨hz2, hz12⟩]
          rw [ek] at k
          clear zero ek
          refine ⟨_, rfl, _, ds.length, rfl, .inr ⟨_, h1, hl.symm⟩, _, rfl, by omega, by omega, ?_⟩
          rw [Int.toNat_natCast]
          refine for_range (n := ds.length) (fun i σ H2 => ∃ o, σ = [some (.ref a), o] ∧ H2 = H ∧ ∀ (j : Nat) (hj : j < ds.length), j < i → isIntD 0 1000000 ds[j] = true) ⟨_, rfl, rfl, fun j _ hj => absurd hj (Nat.not_lt_zero j)⟩ ?_ ?_
          · rintro i σ H2 hi ⟨o, rfl, rfl, hok⟩
            obtain ⟨vi, g1, g2⟩ := dpAll_get h2 (List.getElem?_eq_getElem hi)
            refine ⟨_, rfl, _, rfl, _, _, _, _, rfl, rfl, h1, by rw [Int.zero_add]; exact atI_nat g1, _, ds[i], 0, 1000000, rfl, g2, _, rfl, ?_⟩
            cases e : isIntD 0 1000000 ds[i] with
            | true =>
              refine iteF ⟨_, rfl, rfl, fun j hj hji => ?_⟩
              by_cases z : j = i
              · subst z; exact e
              · exact hok j hj (by omega)
            | false =>
              refine iteT ?_
              have ef : (ds.findIdx? fun x => !isIntD 0 1000000 x) = some i := List.findIdx?_eq_some_iff_getElem.mpr ⟨hi, by rw [e]; rfl, fun j hji => by rw [hok j (by omega) hji]; simp⟩
              rw [ef] at k
              rw [Int.zero_add]
              refine ⟨_, rfl, by show 2 ≤ sizeLine; decide, fun p hp => ?_⟩
              exact k p _ (.new hp) hp upd_same
          · rintro σ H2 ⟨o, rfl, rfl, hok⟩
            have ef : (ds.findIdx? fun x => !isIntD 0 1000000 x) = none := List.findIdx?_eq_none_iff.mpr fun x hx => by
              obtain ⟨j, hj, rfl⟩ := List.getElem_of_mem hx
              rw [hok j hj hj]
              rfl
            rw [ef] at k
            exact k
        · have e0 : folkF (.tuple ds) = some [0] := by
            show (if 2 ≤ ds.length ∧ ds.length ≤ 12 then _ else _) = _
            rw [if_neg fun z => hz12 z.2]
          refine iteF ⟨_, rfl, _, ds.length, rfl, .inr ⟨_, h1, hl.symm⟩, _, _, rfl, rfl, true, ?_, iteT ⟨_, _, rfl, rfl, false, ?_, ?_⟩⟩
          · show V.bl (decide _) = _
            rw [decide_eq_true (by omega)]
          · show V.bl (decide _) = _
            rw [decide_eq_false (by omega)]
          refine iteT ?_
          exact ⟨by show 1 ≤ sizeLine; decide, fun p hp => zero e0 p hp⟩
      · have e0 : folkF (.tuple ds) = some [0] := by
          show (if 2 ≤ ds.length ∧ ds.length ≤ 12 then _ else _) = _
          rw [if_neg fun z => hz2 z.1]
        refine iteF ⟨_, rfl, _, ds.length, rfl, .inr ⟨_, h1, hl.symm⟩, _, _, rfl, rfl, false, ?_, iteF ?_⟩
        · show V.bl (decide _) = _
          rw [decide_eq_false (by omega)]
        refine ⟨_, rfl, iteT ?_⟩
        exact ⟨by show 1 ≤ sizeLine; decide, fun p hp => zero e0 p hp⟩
    · refine ⟨_, rfl, _, T, rfl, ht, T, "tuple", rfl, rfl, hT, by decide, true, ?_, ?_⟩
      · rw [decide_eq_false hne]
        rfl
      · exact iteT (iteT ⟨by show 1 ≤ sizeLine; decide, fun p hp => zero (folkF_not hno) p hp⟩)
end
end Wd

set_option Elab.async false
set_option linter.all false
set_option maxRecDepth 100000
set_option maxHeartbeats 4000000
namespace Wd
open PySem PySem.Spec PyProof.Rows L2 Bx Gx














































section
variable {P : Program} {w : World} {K : PySem.W.Frag} {mg : Str → Option Value} {base : Heap}
/-! ### fault_of_borders of any value -/
theorem lex2_dec (a b c d : Int) :
    Ob.lexAt (fun j => decide ([a, b].getD j 0 = [c, d].getD j 0)) (fun j => decide ([a, b].getD j 0 ≤ [c, d].getD j 0)) (decide ([a, b].length ≤ [c, d].length)) 0 (min [a, b].length [c, d].length) = decide (a < c ∨ (a = c ∧ b ≤ d)) := by
  show (if decide (a = c) = true then (if decide (b = d) = true then true else decide (b ≤ d)) else decide (a ≤ c)) = _
  by_cases e1 : a = c
  · rw [decide_eq_true e1, if_pos rfl]
    by_cases e2 : b = d
    · rw [decide_eq_true e2, if_pos rfl]
      exact (decide_eq_true (by omega)).symm
    · rw [decide_eq_false e2, if_neg Bool.false_ne_true]
      exact decide_eq_decide.mpr (by omega)
  · rw [decide_eq_false e1, if_neg Bool.false_ne_true]
    exact decide_eq_decide.mpr (by omega)
def leP : PyData → PyData → Bool
  | .tuple [.int a, .int b], .tuple [.int c, .int d] => decide (a < c ∨ (a = c ∧ b ≤ d))
  | _, _ => false
theorem bordB_ints {n : Int} {d : PyData} (h : bordB n d = true) : ∃ a b : Int, d = .tuple [.int a, .int b] ∧ 0 ≤ a ∧ a < b ∧ b < n := by
  match d with
  | .tuple [x, .int b] =>
    have h' : (isIntD 0 (n - 1) (.int b) && isIntD 0 (b - 1) x) = true := h
    obtain ⟨h1, h2⟩ := Bool.and_eq_true_iff.mp h'
    cases x with
    | int a =>
      have h1 := of_decide_eq_true h1
      have h2 := of_decide_eq_true h2
      exact ⟨a, b, rfl, h2.1, by omega, by omega⟩
    | _ => cases h2
def badB (n : Int) (ds : List PyData) (k : Nat) : Bool := !bordB n (ds.getD k .none) || (decide (0 < k) && leP (ds.getD k .none) (ds.getD (k - 1) .none))
def bordF (n : Int) : PyData → Option (List Int)
  | .tuple ds => ((List.range ds.length).find? (badB n ds)).map fun (k : Nat) => [1, (k : Int)]
  | _ => some [1]
theorem bordF_not {n : Int} {d : PyData} (h : ∀ ds, d ≠ .tuple ds) : bordF n d = some [1] := by
  cases d with
  | tuple ds => exact absurd rfl (h ds)
  | _ => rfl
def spFaultBordA (K : PySem.W.Frag) : Sp := fun vs H Q _ => ∃ (v : V) (d : PyData) (n : Int), vs = [v, .int n] ∧ Dp K H v d ∧ (∀ ds, d = .tuple ds → ds.length ≤ 100000) ∧ Gives Q H (bordF n d)
theorem ok_fault_of_bordersA {f : Addr} {fd : FuncData} (F : Fun K "fault_of_borders" "fault_of_borders" st_fault_of_borders f fd) (B : Bl mg) (c1 : Cal P w K mg base 2 "is_border" ["value", "many"] (spIsBorderA K)) : FnOk P w K mg base CX0 3 f fd ["borders", "many"] (spFaultBordA K) := by
  refine F.ok sc_fault_of_borders (fun vs H Q E h => ?_) (fun cdv A outer s H vs Q E hr h => ?_)
  · obtain ⟨v, d, n, rfl, _⟩ := h
    rfl
  · obtain ⟨v, d, n, rfl, hd, hsz, k⟩ := h
    refine ⟨_, pss_cons (ps_if (pt_cmpR op_neTy (pe_callTy call_type1 rfl B.type (by decide +kernel) (pa_cons (pv 0) pa_nil)) (pe_bltn rfl B.tuple (by decide +kernel) (v := .ty "tuple") rfl) (nomark _)) (pss_one (ps_ret (pe_tup (pa_cons pe_int pa_nil)))) pss_nil)
      (pss_cons (ps_for PassesOwn.never rfl (pi_range1 rfl B.range (pa_cons (pe_callB call_len (by rfl) B.len PySem.boot_len (pa_cons (pv 0) pa_nil)) pa_nil)) (pg_name (i := 2) sc_fault_of_borders.nd rfl (Or.inl rfl))
        (pss_cons (ps_if (pt_not (pt_val (pe_cal c1 hr rfl (pa_cons (pe_ix ix_tup (pv 0) (pv 2) (fun _ _ => rfl)) (pa_cons (pv 1) pa_nil))) (by intro _; rfl))) (pss_one (ps_ret (pe_tup (pa_cons pe_int (pa_cons (pv 2) pa_nil))))) pss_nil)
        (pss_one (ps_if (PW.pt (pw_and (pt_cmpR op_gt (pv 2) pe_int (nomark _)) (pw_and1 (pt_cmpR (op_leT hr.units0) (pe_ix ix_tup (pv 0) (pv 2) (fun _ _ => rfl)) (pe_ix ix_tup (pv 0) (pe_op op_sub (pv 2) pe_int) (fun _ _ => rfl)) (nomark _))))) (pss_one (ps_ret (pe_tup (pa_cons pe_int (pa_cons (pv 2) pa_nil))))) pss_nil))))
      (pss_one (ps_ret pe_non))), ?_⟩
    rcases tup_dp hd with ⟨ds, a, xs, rfl, rfl, h1, h2⟩ | ⟨T, hT, ht, hne, hno⟩
    · have hl := dpAll_len h2
      have hsz := hsz ds rfl
      have k : Gives Q H (((List.range ds.length).find? (badB n ds)).map fun (k : Nat) => [1, (k : Int)]) := k
      refine ⟨_, rfl, _, "tuple", rfl, .tup h1, "tuple", "tuple", rfl, rfl, by decide, by decide, false, rfl, iteF ?_⟩
      refine ⟨_, rfl, _, ds.length, rfl, .inr ⟨_, h1, hl.symm⟩, _, rfl, by omega, by omega, ?_⟩
      rw [Int.toNat_natCast]
      have out : ∀ i, i < ds.length → (∀ j, j < i → badB n ds j = false) → badB n ds i = true → ∀ p, H p = none → Q (.ref p) (upd H p (.tup [.int 1, .int (i : Int)])) := fun i hi hok hb p hp => by
        have ef : (List.range ds.length).find? (badB n ds) = some i := List.find?_range_eq_some.mpr ⟨hb, List.mem_range.mpr hi, fun j hj => by rw [hok j hj]; rfl⟩
        rw [ef] at k
        exact k p _ (.new hp) hp upd_same
      refine for_range (n := ds.length) (fun i σ H2 => ∃ o, σ = [some (.ref a), some (.int n), o] ∧ H2 = H ∧ ∀ j, j < i → badB n ds j = false) ⟨_, rfl, rfl, fun j hj => absurd hj (Nat.not_lt_zero j)⟩ ?_ ?_
      · rintro i σ H2 hi ⟨o, rfl, rfl, hok⟩
        obtain ⟨vi, g1, g2⟩ := dpAll_get h2 (List.getElem?_eq_getElem hi)
        have egi : ds.getD i .none = ds[i] := by rw [List.getD_eq_getElem?_getD, List.getElem?_eq_getElem hi]; rfl
        refine ⟨_, rfl, _, rfl, _, _, _, _, rfl, rfl, h1, by rw [Int.zero_add]; exact atI_nat g1, _, rfl, _, ds[i], n, rfl, g2, _, rfl, ?_⟩
        cases e : bordB n ds[i] with
        | false =>
          refine iteT ?_
          have hb : badB n ds i = true := by unfold badB; rw [egi, e]; rfl
          rw [Int.zero_add]
          exact ⟨_, rfl, by show 2 ≤ sizeLine; decide, fun p hp => out i hi hok hb p hp⟩
        | true =>
          refine iteF ?_
          obtain ⟨x, y, ed, hx1, hx2, hx3⟩ := bordB_ints e
          refine ⟨_, rfl, _, _, rfl, rfl, decide (0 < i), ?_, ?_⟩
          · show V.bl (decide ((0 : Int) < (0 : Int) + (i : Int))) = _
            congr 1
            apply decide_eq_decide.mpr
            omega
          by_cases hi0 : 0 < i
          · rw [decide_eq_true hi0]
            refine iteT ?_
            have hi1 : i - 1 < ds.length := by omega
            obtain ⟨vj, g3, g4⟩ := dpAll_get h2 (List.getElem?_eq_getElem hi1)
            have egj : ds.getD (i - 1) .none = ds[i - 1] := by rw [List.getD_eq_getElem?_getD, List.getElem?_eq_getElem hi1]; rfl
            have eb : bordB n ds[i - 1] = true := by
              have := hok (i - 1) (by omega)
              unfold badB at this
              rw [egj] at this
              cases q : bordB n ds[i - 1] with
              | true => rfl
              | false => rw [q] at this; cases this
            obtain ⟨x', y', ed', _⟩ := bordB_ints eb
            have q1 : ∃ t, vi = .ref t ∧ SqT K H2 t ([x, y].map V.int) := by
              rw [ed] at g2
              obtain ⟨t, rfl, q⟩ := dp_ints (ns := [x, y]) g2
              exact ⟨t, rfl, q⟩
            have q2 : ∃ t, vj = .ref t ∧ SqT K H2 t ([x', y'].map V.int) := by
              rw [ed'] at g4
              obtain ⟨t, rfl, q⟩ := dp_ints (ns := [x', y']) g4
              exact ⟨t, rfl, q⟩
            obtain ⟨t, rfl, q1⟩ := q1
            obtain ⟨t', rfl, q2⟩ := q2
            have hbb : badB n ds i = decide (x < x' ∨ (x = x' ∧ y ≤ y')) := by
              unfold badB
              rw [egi, egj, e, ed, ed', decide_eq_true hi0]
              rfl
            refine ⟨_, rfl, _, rfl, _, _, _, _, rfl, rfl, h1, by rw [Int.zero_add]; exact atI_nat g1, _, rfl, _, rfl, _, _, rfl, rfl, _, _, _, _, rfl, rfl, h1, (by
              have e : (0 : Int) + (i : Int) - 1 = ((i - 1 : Nat) : Int) := by omega
              rw [e]; exact atI_nat g3), t, t', [x, y], [x', y'], rfl, rfl, q1, q2, badB n ds i, ?_, ?_⟩
            · congr 1
              rw [lex2_dec, hbb]
            cases eq : badB n ds i with
            | true =>
              refine iteT ?_
              rw [Int.zero_add]
              exact ⟨_, rfl, by show 2 ≤ sizeLine; decide, fun p hp => out i hi hok eq p hp⟩
            | false =>
              refine iteF ⟨_, rfl, rfl, fun j hj => ?_⟩
              by_cases z : j = i
              · rw [z]; exact eq
              · exact hok j (by omega)
          · rw [decide_eq_false hi0]
            refine iteF (iteF ⟨_, rfl, rfl, fun j hj => ?_⟩)
            have z : j = i := by omega
            rw [z]
            unfold badB
            rw [egi, e, decide_eq_false hi0]
            rfl
      · rintro σ H2 ⟨o, rfl, rfl, hok⟩
        have ef : (List.range ds.length).find? (badB n ds) = none := List.find?_range_eq_none.mpr fun j hj => by rw [hok j hj]; rfl
        rw [ef] at k
        exact k
    · rw [bordF_not hno] at k
      refine ⟨_, rfl, _, T, rfl, ht, T, "tuple", rfl, rfl, hT, by decide, true, ?_, ?_⟩
      · rw [decide_eq_false hne]
        rfl
      · exact iteT ⟨by show 1 ≤ sizeLine; decide, fun p hp => k p _ (.new hp) hp upd_same⟩
end
section
variable {P : Program} {w : World} {K : PySem.W.Frag} {mg : Str → Option Value} {base : Heap}
/-! ### fault_of_land, land_fault, is_land of any value -/
def lenD : PyData → Int
  | .tuple ds => (ds.length : Int)
  | _ => 0
def landF : PyData → Option (List Int)
  | .tuple [x, y] => match folkF x with
    | some l => some l
    | none => bordF (lenD x) y
  | _ => some []
theorem landF_not {d : PyData} (h : ∀ ds, d ≠ .tuple ds) : landF d = some [] := by
  cases d with
  | tuple ds => exact absurd rfl (h ds)
  | _ => rfl
theorem landF_len {ds : List PyData} (h : ds.length ≠ 2) : landF (.tuple ds) = some [] := by
  match ds, h with
  | [], _ => rfl
  | [_], _ => rfl
  | [_, _], h => exact absurd rfl h
  | _ :: _ :: _ :: _, _ => simp [landF]
/-- no tuple within is longer than n -/
def shortD (n : Nat) (d : PyData) : Prop := ∀ x y, d = .tuple [x, y] → ∀ ds, y = .tuple ds → ds.length ≤ n
def spFaultLandA (K : PySem.W.Frag) : Sp := fun vs H Q _ => ∃ (v : V) (d : PyData), vs = [v] ∧ Dp K H v d ∧ shortD 100000 d ∧ Gives Q H (landF d)
theorem ok_fault_of_landA {f : Addr} {fd : FuncData} (F : Fun K "fault_of_land" "fault_of_land" st_fault_of_land f fd) (B : Bl mg) (c1 : Cal P w K mg base 2 "fault_of_folk" ["folk"] (spFaultFolkA K)) (c2 : Cal P w K mg base 3 "fault_of_borders" ["borders", "many"] (spFaultBordA K)) : FnOk P w K mg base CX0 4 f fd ["value"] (spFaultLandA K) := by
  refine F.ok sc_fault_of_land (fun vs H Q E h => ?_) (fun cdv A outer s H vs Q E hr h => ?_)
  · obtain ⟨v, d, rfl, _⟩ := h
    rfl
  · obtain ⟨v, d, rfl, hd, hsz, k⟩ := h
    refine ⟨_, pss_cons (ps_if (PW.pt (pw_or (pt_cmpR op_neTy (pe_callTy call_type1 rfl B.type (by decide +kernel) (pa_cons (pv 0) pa_nil)) (pe_bltn rfl B.tuple (by decide +kernel) (v := .ty "tuple") rfl) (nomark _))
        (pw_or1 (pt_cmpR op_ne (pe_callB call_len (by rfl) B.len PySem.boot_len (pa_cons (pv 0) pa_nil)) pe_int (nomark _))))) (pss_one (ps_ret (pe_tup pa_nil))) pss_nil)
      (pss_cons (ps_asg (pv 0) (pg_tup rfl (pgs_cons (pg_name (i := 1) sc_fault_of_land.nd rfl (Or.inl rfl)) (pgs_cons (pg_name (i := 2) sc_fault_of_land.nd rfl (Or.inl rfl)) pgs_nil))))
      (pss_cons (ps_set (i := 3) sc_fault_of_land.nd rfl (Or.inl rfl) (pe_cal c1 (hr.mono (by decide)) rfl (pa_cons (pv 1) pa_nil)))
      (pss_cons (ps_if (pt_cmpR op_isN (pv 3) pe_non (nomark _)) (pss_one (ps_set (i := 3) sc_fault_of_land.nd rfl (Or.inl rfl) (pe_cal c2 hr rfl (pa_cons (pv 2) (pa_cons (pe_callB call_len (by rfl) B.len PySem.boot_len (pa_cons (pv 1) pa_nil)) pa_nil))))) pss_nil)
      (pss_one (ps_ret (pv 3)))))), ?_⟩
    have non : landF d = some [] → ∀ p, H p = none → Q (.ref p) (upd H p (.tup [])) := fun e p hp => by
      rw [e] at k
      exact k p _ (.new hp) hp upd_same
    rcases tup_dp hd with ⟨ds, a, xs, rfl, rfl, h1, h2⟩ | ⟨T, hT, ht, hne, hno⟩
    · have hl := dpAll_len h2
      refine ⟨_, rfl, _, "tuple", rfl, .tup h1, "tuple", "tuple", rfl, rfl, by decide, by decide, false, rfl, ?_⟩
      refine iteF ⟨_, rfl, _, ds.length, rfl, .inr ⟨_, h1, hl.symm⟩, rfl, _, rfl, ?_⟩
      show if (!decide (V.int (ds.length : Int) = V.int 2)) = true then _ else _
      by_cases hz : ds.length = 2
      · rw [hz]
        refine iteF ?_
        obtain ⟨x, y, vx, vy, rfl, rfl, hx, hy⟩ := dp_two hz h2
        clear non
        refine ⟨_, rfl, a, _, rfl, h1, rfl, _, _, rfl, _, _, rfl, rfl, ?_⟩
        refine ⟨_, rfl, vx, x, rfl, hx, ?_⟩
        cases e : folkF x with
        | some l =>
          have ek : landF (.tuple [x, y]) = some l := by simp [landF, e]
          rw [ek] at k
          intro q H' x' hq0 hq
          refine ⟨_, rfl, rfl, false, rfl, iteF ?_⟩
          exact ⟨_, rfl, k q H' x' hq0 hq⟩
        | none =>
          have ek : landF (.tuple [x, y]) = bordF (lenD x) y := by simp [landF, e]
          rw [ek] at k
          have hxt : ∃ ds b zs, x = .tuple ds ∧ vx = .ref b ∧ SqT K H b zs ∧ zs.length = ds.length := by
            rcases tup_dp hx with ⟨ds, b, zs, e1, e2, e3, e4⟩ | ⟨_, _, _, _, hno⟩
            · exact ⟨ds, b, zs, e1, e2, e3, dpAll_len e4⟩
            · rw [folkF_not hno] at e
              cases e
          obtain ⟨ds, b, zs, rfl, rfl, h5, h6⟩ := hxt
          refine ⟨_, rfl, rfl, true, rfl, iteT ?_⟩
          refine ⟨_, rfl, _, rfl, _, ds.length, rfl, .inr ⟨_, h5, h6.symm⟩, vy, y, (ds.length : Int), rfl, hy, hsz _ y rfl, ?_⟩
          have k : Gives Q H (bordF (ds.length : Int) y) := k
          cases e2 : bordF (ds.length : Int) y with
          | none =>
            rw [e2] at k
            exact ⟨_, rfl, k⟩
          | some l =>
            rw [e2] at k
            intro q H' x' hq0 hq
            exact ⟨_, rfl, k q H' x' hq0 hq⟩
      · have e1 : (!decide (V.int (ds.length : Int) = V.int 2)) = true := by
          rw [decide_eq_false]
          · rfl
          · intro z
            injection z with z
            exact hz (by omega)
        rw [e1]
        refine iteT ?_
        exact ⟨Nat.zero_le _, fun p hp => non (landF_len hz) p hp⟩
    · refine ⟨_, rfl, _, T, rfl, ht, T, "tuple", rfl, rfl, hT, by decide, true, ?_, ?_⟩
      · rw [decide_eq_false hne]
        rfl
      · exact iteT (iteT ⟨Nat.zero_le _, fun p hp => non (landF_not hno) p hp⟩)
end
end Wd

set_option Elab.async false
set_option linter.all false
set_option maxRecDepth 100000
set_option maxHeartbeats 4000000
namespace Wd
open PySem PySem.Spec PyProof.Rows L2 Bx Gx














































section
variable {P : Program} {w : World} {K : PySem.W.Frag} {mg : Str → Option Value} {base : Heap}
/-! ### land_fault, is_land, is_lot of any value -/
def spIsLandA (K : PySem.W.Frag) : Sp := fun vs H Q _ => ∃ (v : V) (d : PyData), vs = [v] ∧ Dp K H v d ∧ shortD 100000 d ∧ ∀ H', Ext H H' → Q (.bl (landF d).isNone) H'
/-- the int that a value is -/
def intD : PyData → Int
  | .int i => i
  | _ => 0
theorem ints_of_all {lo hi : Int} : ∀ {ds : List PyData}, (ds.all fun x => isIntD lo hi x) = true → ds = (ds.map intD).map .int
  | [], _ => rfl
  | d :: ds, h => by
    rw [List.all_cons, Bool.and_eq_true] at h
    rw [List.map_cons, List.map_cons, ← ints_of_all h.2]
    cases d with
    | int i => rfl
    | _ => cases h.1
def lotB (n : Nat) : PyData → Bool
  | .tuple ds => !ds.isEmpty && (ds.all fun x => isIntD 0 ((n : Int) - 1) x) && asc (ds.map intD)
  | _ => false
theorem lotB_not {n : Nat} {d : PyData} (h : ∀ ds, d ≠ .tuple ds) : lotB n d = false := by
  cases d with
  | tuple ds => exact absurd rfl (h ds)
  | _ => rfl
theorem all_range_getD' (ds : List PyData) (f : PyData → Bool) : (List.range ds.length).all (fun i => f (ds.getD i .none)) = ds.all f := by
  induction ds with
  | nil => rfl
  | cons p r ih =>
    rw [List.length_cons, List.range_succ_eq_map, List.all_cons, List.all_map, List.all_cons, ← ih]
    rfl
/-- a lot's places -/
def natsD : PyData → List Nat
  | .tuple ds => ds.map fun x => (intD x).toNat
  | _ => []
theorem lotB_ok {n : Nat} {d : PyData} (h : lotB n d = true) : d = lotD (natsD d) ∧ LotOk n (natsD d) := by
  cases d with
  | tuple ds =>
    have h' : (!ds.isEmpty && (ds.all fun x => isIntD 0 ((n : Int) - 1) x) && asc (ds.map intD)) = true := h
    rw [Bool.and_eq_true, Bool.and_eq_true] at h'
    obtain ⟨⟨h1, h2⟩, h3⟩ := h'
    have hmem : ∀ x ∈ ds, ∃ i : Int, x = .int i ∧ 0 ≤ i ∧ i ≤ (n : Int) - 1 := fun x hx => by
      have := List.all_eq_true.mp h2 x hx
      cases x with
      | int i => exact ⟨i, rfl, (of_decide_eq_true this).1, (of_decide_eq_true this).2⟩
      | _ => cases this
    refine ⟨?_, ?_, ?_, ?_⟩
    · show PyData.tuple ds = .tuple ((ds.map fun x => (intD x).toNat).map fun (p : Nat) => .int (p : Int))
      rw [List.map_map]
      congr 1
      refine (List.map_id ds).symm.trans (List.map_congr_left fun x hx => ?_)
      obtain ⟨i, rfl, h0, _⟩ := hmem x hx
      show PyData.int i = .int ((i.toNat : Nat) : Int)
      rw [Int.toNat_of_nonneg h0]
    · intro e
      have e : (ds.map fun x => (intD x).toNat) = [] := e
      rw [List.map_eq_nil_iff] at e
      rw [e] at h1
      cases h1
    · intro p hp
      obtain ⟨x, hx, rfl⟩ := List.mem_map.mp (show p ∈ ds.map fun x => (intD x).toNat from hp)
      obtain ⟨i, rfl, h0, hi⟩ := hmem x hx
      show i.toNat < n
      omega
    · show (ds.map fun x => (intD x).toNat).Pairwise (· < ·)
      have h4 := asc_pair h3
      rw [List.pairwise_map] at h4 ⊢
      refine h4.imp_of_mem fun {x y} hx hy z => ?_
      obtain ⟨i, rfl, h0, _⟩ := hmem x hx
      obtain ⟨j, rfl, h5, _⟩ := hmem y hy
      have z : i < j := z
      show i.toNat < j.toNat
      omega
  | _ => cases h
theorem lotB_is {n : Nat} {ps : List Nat} (h : LotOk n ps) : lotB n (lotD ps) = true := by
  show (!(ps.map fun (p : Nat) => PyData.int (p : Int)).isEmpty && ((ps.map fun (p : Nat) => PyData.int (p : Int)).all fun x => isIntD 0 ((n : Int) - 1) x) && asc ((ps.map fun (p : Nat) => PyData.int (p : Int)).map intD)) = true
  have e1 : (ps.map fun (p : Nat) => PyData.int (p : Int)).isEmpty = false := by
    cases ps with
    | nil => exact absurd rfl h.ne
    | cons _ _ => rfl
  have e2 : ((ps.map fun (p : Nat) => PyData.int (p : Int)).all fun x => isIntD 0 ((n : Int) - 1) x) = true := List.all_eq_true.mpr fun x hx => by
    obtain ⟨p, hp, rfl⟩ := List.mem_map.mp hx
    have := h.lt p hp
    exact decide_eq_true (by omega)
  have e3 : asc ((ps.map fun (p : Nat) => PyData.int (p : Int)).map intD) = true := pair_asc (by
    rw [List.map_map, List.pairwise_map]
    exact h.asc.imp fun z => by show ((_ : Nat) : Int) < ((_ : Nat) : Int); omega)
  rw [e1, e2, e3]
  rfl
def spIsLotA (K : PySem.W.Frag) (T1 T2 : Addr) : Sp := fun vs H Q _ => ∃ (l v : V) (fs : List Int) (bd d : PyData), vs = [l, v] ∧ Dp K H l (.tuple [.tuple (fs.map .int), bd]) ∧ fs.length ≤ 100 ∧ Dp K H v d ∧ (∀ ds, d = .tuple ds → ds.length ≤ 6000) ∧
  TabG H T1 ∧ TabG H T2 ∧ ∀ H', Ext H H' → Q (.bl (lotB fs.length d)) H'
theorem ok_is_lotA {f c T1 T2 : Addr} {fd : FuncData} (F : FunC K "is_lot" "is_lot" st_is_lot f fd c) (TB : TabB base mg c T1) (B : Bl mg) (c1 : Cal P w K mg base 2 "is_place" ["land", "value"] (spIsPlace K))
    (c2 : Cal P w K mg base 4 "is_ascending" ["row"] (spIsAscending K T2)) : FnOk P w K mg base CX0 6 f fd ["land", "value"] (spIsLotA K T1 T2) := by
  refine F.ok sc_is_lot (fun vs H Q E h => ?_) (fun A outer s H vs Q E hr h => ?_)
  · obtain ⟨l, v, fs, bd, d, rfl, _⟩ := h
    rfl
  · obtain ⟨l, v, fs, bd, d, rfl, hl, hn, hd, hz, hT1, hT2, k⟩ := h
    refine ⟨_, pss_cons (ps_if (PW.pt (pw_or (pt_cmpR op_neTy (pe_callTy call_type1 rfl B.type (by decide +kernel) (pa_cons (pv 1) pa_nil)) (pe_bltn rfl B.tuple (by decide +kernel) (v := .ty "tuple") rfl) (nomark _))
        (pw_or1 (pt_cmpR op_eq (pe_callB call_len (by rfl) B.len PySem.boot_len (pa_cons (pv 1) pa_nil)) pe_int (nomark _))))) (pss_one (ps_ret pe_bl)) pss_nil)
      (pss_one (ps_ret (pe_and (pe_gall (k := 3) (N := ["place", "land"]) (src := [none, some 0]) (vs := [0])
        ⟨fun B s H fp code hB => pg_name (i := 0) (by decide +kernel : (["place", "land"] : List Str).Nodup) rfl (Or.inl rfl), fun B s H fp code hB => pts_nil, fun B s H fp code hB => pe_cal c1 (hB.deeper _) rfl (pa_cons (pv 1) (pa_cons (pv 0) pa_nil))⟩
        hr rfl B.all TB rfl (gOk (ND := ["land", "value"]) (sc := defScope st_is_lot) (by decide +kernel)) (pi_tup (pv 1)))
        (pe_one (pe_cal c2 (hr.mono (by decide)) rfl (pa_cons (pv 1) pa_nil)))))), ?_⟩
    rcases tup_dp hd with ⟨ds, a, xs, rfl, rfl, h1, h2⟩ | ⟨T, hT, ht, hne, hno⟩
    · have hlen := dpAll_len h2
      have hz := hz ds rfl
      refine ⟨_, rfl, _, "tuple", rfl, .tup h1, "tuple", "tuple", rfl, rfl, by decide, by decide, false, rfl, ?_⟩
      refine iteF ⟨_, rfl, _, ds.length, rfl, .inr ⟨_, h1, hlen.symm⟩, rfl, _, rfl, ?_⟩
      have ek : lotB fs.length (.tuple ds) = (!ds.isEmpty && (ds.all fun x => isIntD 0 ((fs.length : Int) - 1) x) && asc (ds.map intD)) := rfl
      rw [ek] at k
      by_cases he : ds = []
      · subst he
        refine iteT ?_
        exact k H (Ext.refl H)
      · have hne : decide (V.int (ds.length : Int) = V.int 0) = false := by
          apply decide_eq_false
          intro z
          injection z with z
          exact he (List.length_eq_zero_iff.mp (by omega))
        rw [hne]
        have e0 : ds.isEmpty = false := by cases ds with
          | nil => exact absurd rfl he
          | cons _ _ => rfl
        rw [e0] at k
        refine iteF ?_
        refine ⟨_, rfl, a, rfl, ⟨_, h1⟩, hT1, fun H2 hT => ?_⟩
        have x2 : Ext H H2 := Ext.tabbed hT1 hT
        refine g_all (Ph := fun H4 => H4 = H2) (src_tup fun H4 e => by rw [e]; exact x2.sqT h1) (fun i => isIntD 0 ((fs.length : Int) - 1) (ds.getD i .none)) rfl (fun i H C hp hi k2 => ?_) (fun H4 hp ea => ?_) fun H4 hp ea => ?_
        · subst hp
          have hi' : i < ds.length := by omega
          obtain ⟨vi, g1, g2⟩ := dpAll_get h2 (List.getElem?_eq_getElem hi')
          have egi : ds.getD i .none = ds[i] := by rw [List.getD_eq_getElem?_getD, List.getElem?_eq_getElem hi']; rfl
          have evi : xs.getD i .non = vi := by rw [List.getD_eq_getElem?_getD, g1]; rfl
          refine ⟨rfl, _, rfl, _, rfl, _, _, fs, bd, ds[i], rfl, dp_ext x2 hl, hn, (by rw [evi]; exact dp_ext x2 g2), ?_⟩
          rw [egi] at k2
          exact k2 H rfl
        · subst hp
          rw [hlen, all_range_getD' ds fun x => isIntD 0 ((fs.length : Int) - 1) x] at ea
          have ei := ints_of_all ea
          refine ⟨_, rfl, iteT ⟨_, rfl, _, ds.map intD, rfl, ?_, by rw [List.length_map]; exact hz, x2.tabs _ hT2, fun H5 x5 => ?_⟩⟩
          · rw [← ei]
            exact dp_ext x2 hd
          · have q := k H5 (x2.trans x5)
            rw [ea] at q
            exact q
        · subst hp
          rw [hlen, all_range_getD' ds fun x => isIntD 0 ((fs.length : Int) - 1) x] at ea
          refine ⟨_, rfl, iteF ?_⟩
          have q := k H4 x2
          rw [ea] at q
          exact q
    · rw [lotB_not hno] at k
      refine ⟨_, rfl, _, T, rfl, ht, T, "tuple", rfl, rfl, hT, by decide, true, ?_, ?_⟩
      · rw [decide_eq_false hne]
        rfl
      · exact iteT (iteT (k H (.refl H)))
end
section
variable {P : Program} {w : World} {K : PySem.W.Frag} {mg : Str → Option Value} {base : Heap}
/-! ### the drawn numbers -/
/-- the spring at sp, its great cells at gr -/
structure SpAt (H : Hp) (sp gr : Addr) : Prop where
  ex : ∃ (xs : List Int) (m t : Int), H sp = some (.lst [.ref gr, .int m, .int t]) ∧ H gr = some (.lst (xs.map V.int)) ∧ 0 ≤ m ∧ m < 2305843009213693951 ∧ xs.length ≤ 63
  ne : sp ≠ gr
theorem SpAt.ls {H : Hp} {sp gr p : Addr} (h : SpAt H sp gr) (hp : p ∈ [sp, gr]) : p ∈ [sp, gr] ∧ ∃ xs, H p = some (.lst xs) := by
  obtain ⟨xs, m, t, h1, h2, _⟩ := h.ex
  refine ⟨hp, ?_⟩
  rcases List.mem_cons.mp hp with e | e
  · rw [e]; exact ⟨_, h1⟩
  · rw [List.mem_singleton.mp e]; exact ⟨_, h2⟩
theorem SpAt.ext {H H' : Hp} {sp gr : Addr} (h : SpAt H sp gr) (x : Ext H H') : SpAt H' sp gr := by
  obtain ⟨xs, m, t, h1, h2, h3⟩ := h.ex
  exact ⟨⟨xs, m, t, x.lst h1, x.lst h2, h3⟩, h.ne⟩
theorem SpAt.upd {H : Hp} {sp gr p : Addr} {o : HO} (h : SpAt H sp gr) (h1 : p ≠ sp) (h2 : p ≠ gr) : SpAt (upd H p o) sp gr := by
  obtain ⟨xs, m, t, h3, h4, h5⟩ := h.ex
  exact ⟨⟨xs, m, t, by rw [upd_ne h1.symm]; exact h3, by rw [upd_ne h2.symm]; exact h4, h5⟩, h.ne⟩
def spSpring (K : PySem.W.Frag) : Sp := fun vs H Q _ => ∃ (a : Addr) (ns : List Int), vs = [.ref a] ∧ SqL K H a (ns.map V.int) ∧ ns.length ≤ 63 ∧ ∀ sp gr H', Ext H H' → SpAt H' sp gr → H sp = none → H gr = none → Q (.ref sp) H'
theorem sc_law_spring : FnScope ["script", "cell", "great", "mixed"] ["script"] (defScope st__law_spring) := ⟨rfl, rfl, rfl, by decide +kernel, rfl, by decide +kernel, by decide +kernel⟩
theorem ok_law_spring {f : Addr} {fd : FuncData} (F : Fun K "_law_spring" "_law_spring" st__law_spring f fd) (B : Bl mg) : FnOk P w K mg base CX0 1 f fd ["script"] (spSpring K) := by
  refine F.ok sc_law_spring (fun vs H Q E h => ?_) (fun cdv A outer s H vs Q E hr h => ?_)
  · obtain ⟨a, ns, rfl, _⟩ := h
    rfl
  · obtain ⟨a, ns, rfl, hS, hlen, k⟩ := h
    refine ⟨_, pss_cons (ps_setLc (i := 2) (own := [("cell", 1)]) (g := gName 1) rfl sc_law_spring.nd rfl rfl (sw_true rfl rfl rfl (by decide +kernel)) (pi_list (pv 0)) (blkOk_by (own := [("cell", 1)]) (N := ["script", "cell", "great", "mixed"]) (sc := defScope st__law_spring) (by decide +kernel))
        (fun _ _ _ _ _ => pg_name (i := 1) sc_law_spring.nd rfl (Or.inl rfl)) (fun _ _ _ _ _ => pts_one (pt_cmpR op_ge (pv 1) (pe_op op_pow pe_int pe_int) (nomark _))) (fun _ _ _ _ _ => pe_op op_sub (pv 1) (pe_op op_pow pe_int pe_int)))
      (pss_cons (ps_set (i := 3) sc_law_spring.nd rfl (Or.inl rfl) (pe_op op_add pe_int (pe_op op_mul pe_int (pe_callB call_len (by rfl) B.len PySem.boot_len (pa_cons (pv 0) pa_nil)))))
      (pss_cons (ps_for PassesOwn.never rfl (pi_list (pv 0)) (pg_name (i := 1) sc_law_spring.nd rfl (Or.inl rfl))
        (pss_one (ps_set (i := 3) sc_law_spring.nd rfl (Or.inl rfl) (pe_op op_mod (pe_callTy call_int1 rfl B.int (by decide +kernel) (pa_cons (pe_op op_add (pe_op op_add (pe_op op_mul (pv 3) pe_int) (pe_op op_mul (pv 1) pe_int)) pe_int) pa_nil)) pe_int))))
      (pss_one (ps_ret (pe_lst (pa_cons (pv 2) (pa_cons (pv 3) (pa_cons pe_int pa_nil)))))))), ?_⟩
    refine ⟨_, rfl, a, rfl, ⟨_, hS⟩, fun D hD => ?_⟩
    refine lc_list (K := K) (a := a) (xs := ns.map V.int) (fun i H1 => ∃ xs : List Int, xs.length ≤ i ∧ H1 = upd H D (.lst (xs.map V.int))) ⟨[], Nat.le_refl _, rfl⟩ (fun i H1 _ ⟨xs, _, e⟩ => by rw [e]; exact (Ext.new hD).sqL hS) ?_ ?_
    · rintro i x H1 hx ⟨xs, hl, rfl⟩
      obtain ⟨z, rfl⟩ : ∃ z, x = V.int z := by
        rw [List.getElem?_map] at hx
        cases e : ns[i]? with
        | none => rw [e] at hx; cases hx
        | some z => rw [e] at hx; exact ⟨z, (Option.some.inj hx).symm⟩
      have hi : i < ns.length := by
        have := (List.getElem?_eq_some_iff.mp hx).1
        rwa [List.length_map] at this
      refine ⟨rfl, _, rfl, _, _, rfl, rfl, ⟨by decide, by decide, by decide⟩, _, _, rfl, rfl, _, rfl, ?_⟩
      refine ite2 (fun _ => ?_) (fun _ => ?_)
      · refine ⟨_, rfl, _, _, rfl, rfl, ⟨by decide, by decide, by decide⟩, _, _, rfl, rfl, _, upd_same, ?_, xs ++ [z - 10 ^ Int.toNat 18], ?_, ?_⟩
        · rw [List.length_map]
          exact small1000 (by omega)
        · rw [List.length_append]
          exact Nat.add_le_add_right hl 1
        · rw [upd_upd, List.map_append]
          rfl
      · exact ⟨xs, by omega, rfl⟩
    · rintro H1 ⟨xs, hl, rfl⟩
      rw [List.length_map] at hl
      have x1 : Ext H (upd H D (.lst (xs.map V.int))) := Ext.new hD
      have hDa : (upd H D (.lst (xs.map V.int))) D = some (.lst (xs.map V.int)) := upd_same
      generalize upd H D (.lst (xs.map V.int)) = H1 at x1 hDa ⊢
      refine ⟨_, rfl, _, ns.length, rfl, .inl ⟨_, x1.sqL hS, by simp⟩, _, _, rfl, rfl, .inl ⟨by decide, by decide⟩, _, _, rfl, rfl, ?_⟩
      refine ⟨_, rfl, a, rfl, ⟨_, x1.sqL hS⟩, for_list (K := K) (a := a) (xs := ns.map V.int) (fun i σ H2 => ∃ (v : Option V) (m : Int), σ = [some (.ref a), v, some (.ref D), some (.int m)] ∧ H2 = H1 ∧ 0 ≤ m ∧ m < 2305843009213693951)
        ⟨_, _, rfl, rfl, by omega, by omega⟩ (fun i σ H2 _ ⟨_, _, _, e, _⟩ => by rw [e]; exact x1.sqL hS) ?_ ?_⟩
      · rintro i x σ H2 hx ⟨v, m, rfl, rfl, hm1, hm2⟩
        obtain ⟨z, rfl⟩ : ∃ z, x = V.int z := by
          rw [List.getElem?_map] at hx
          cases e : ns[i]? with
          | none => rw [e] at hx; cases hx
          | some z => rw [e] at hx; exact ⟨z, (Option.some.inj hx).symm⟩
        refine ⟨_, rfl, _, _, rfl, rfl, .inr ⟨by decide, by decide⟩, _, rfl, _, _, rfl, rfl, .inr ⟨by decide, by decide⟩, _, _, rfl, rfl, _, _, rfl, rfl, .inl ⟨_, rfl, ?_⟩⟩
        refine ⟨_, _, rfl, rfl, (by show (0 : Int) < 2305843009213693951; decide), some (.int z), _, rfl, rfl, Int.emod_nonneg _ (by decide), Int.emod_lt_of_pos _ (by decide)⟩
      · rintro σ H2 ⟨v, m, rfl, rfl, hm1, hm2⟩
        refine ⟨_, rfl, _, rfl, by show 3 ≤ sizeLine; decide, fun l hlf => ?_⟩
        have hnl : l ≠ D := fun e => by rw [e, hDa] at hlf; cases hlf
        exact k l D _ (x1.trans (Ext.new hlf)) ⟨⟨xs, m, 0, upd_same, by rw [upd_ne hnl.symm]; exact hDa, hm1, hm2, by omega⟩, hnl⟩ (x1.free hlf) hD
/-! ### a number from 0 on -/
theorem fmod_bd (y : Int) {m : Nat} (h : 0 < m) : 0 ≤ y.fmod (m : Int) ∧ y.fmod (m : Int) < (m : Int) := by
  rw [Int.fmod_eq_emod_of_nonneg y (by omega)]
  exact ⟨Int.emod_nonneg _ (by omega), Int.emod_lt_of_pos _ (by omega)⟩
def spDrop (K : PySem.W.Frag) : Sp := fun vs H Q _ => ∃ (sp gr : Addr) (many : Nat), vs = [.ref sp, .int (many : Int)] ∧ SpAt H sp gr ∧ 0 < many ∧ many < 100000000 ∧ ∀ (n : Nat) H', n < many → ExtS [sp, gr] H H' → SpAt H' sp gr → Q (.int (n : Int)) H'
theorem sc_law_drop : FnScope ["spring", "many", "great", "found"] ["spring", "many"] (defScope st__law_drop) := ⟨rfl, rfl, rfl, by decide +kernel, rfl, by decide +kernel, by decide +kernel⟩
theorem ok_law_drop {f : Addr} {fd : FuncData} (F : Fun K "_law_drop" "_law_drop" st__law_drop f fd) (B : Bl mg) : FnOk P w K mg base CX0 1 f fd ["spring", "many"] (spDrop K) := by
  refine F.ok sc_law_drop (fun vs H Q E h => ?_) (fun cdv A outer s H vs Q E hr h => ?_)
  · obtain ⟨sp, gr, many, rfl, _⟩ := h
    rfl
  · obtain ⟨sp, gr, many, rfl, S, hm0, hmb, k⟩ := h
    refine ⟨_, pss_cons (ps_set (i := 2) sc_law_drop.nd rfl (Or.inl rfl) (pe_ix ix_list (pv 0) pe_int (fun _ _ => rfl)))
      (pss_cons (ps_while PassesOwn.never (PW.pt (pw_and (pt_cmpR (op_neD hr.units) (pv 2) (pe_lst pa_nil) (nomark _)) (pw_and1 (pt_cmpR op_eq (pe_ix ix_list (pv 2) pe_int (fun _ _ => rfl)) pe_int (nomark _)))))
        (pss_one (ps_expr (pe_bm PySem.F.plainAttrs_list PySem.F.slot_list_pop PySem.F.type_list_pop mt_popAt (pv 2) (pa_cons pe_int pa_nil)))))
      (pss_cons (ps_if (pt_cmpR (op_neD hr.units) (pv 2) (pe_lst pa_nil) (nomark _))
        (pss_cons (ps_set (i := 3) sc_law_drop.nd rfl (Or.inl rfl) (pe_op op_modN (pe_callTy call_int1 rfl B.int (by decide +kernel) (pa_cons (pe_ix ix_list (pv 2) pe_int (fun _ _ => rfl)) pa_nil)) (pv 1)))
        (pss_cons (ps_asg (pe_op op_fdivN (pe_ix ix_list (pv 2) pe_int (fun _ _ => rfl)) (pv 1)) (pg_sub (pv 2) pe_int set_list))
        (pss_one (ps_ret (pv 3))))) pss_nil)
      (pss_cons (ps_asg (pe_op op_add (pe_ix ix_list (pv 0) pe_int (fun _ _ => rfl)) pe_int) (pg_sub (pv 0) pe_int set_list))
      (pss_cons (ps_asg (pe_op op_mod (pe_callTy call_int1 rfl B.int (by decide +kernel) (pa_cons (pe_op op_add (pe_op op_mul (pe_ix ix_list (pv 0) pe_int (fun _ _ => rfl)) pe_int) (pe_op op_mul (pe_ix ix_list (pv 0) pe_int (fun _ _ => rfl)) pe_int)) pa_nil)) pe_int) (pg_sub (pv 0) pe_int set_list))
      (pss_one (ps_ret (pe_op op_modN (pe_op op_fdiv (pe_op op_mod (pe_callTy call_int1 rfl B.int (by decide +kernel) (pa_cons (pe_op op_mul (pe_ix ix_list (pv 0) pe_int (fun _ _ => rfl)) (pe_ix ix_list (pv 0) pe_int (fun _ _ => rfl))) pa_nil)) pe_int) pe_int) (pv 1)))))))), ?_⟩
    obtain ⟨xs, m, t, h1, h2, hm1, hm2, hl⟩ := S.ex
    refine ⟨_, rfl, sp, _, _, _, rfl, rfl, SqL.of h1, atI_nat (j := 0) rfl, ?_⟩
    dsimp only [gName, tSeq]
    refine via (fun σ H2 => σ = [some (.ref sp), some (.int (many : Int)), some (.ref gr), none] ∧ SpAt H2 sp gr ∧ ExtS [sp, gr] H H2) ?_ (fun nx hnx => ?_)
    · rintro σ H2 ⟨rfl, S2, x2⟩
      obtain ⟨ys, m2, t2, g1, g2, g3, g4, g5⟩ := S2.ex
      refine ⟨_, rfl, Nat.zero_le _, fun l hl0 => ?_⟩
      have hng : gr ≠ l := ne_of_none g2 hl0
      have x3 : ExtS [sp, gr] H2 (upd H2 l (.lst [])) := .new hl0
      refine ⟨.list (ys.map .int), .list [], .lst (SqL.of (by rw [upd_ne hng]; exact g2)) (dpAll_of_ints ys), .lst (SqL.of upd_same) .nil, (Sh.ints (n := 0) ys).shaped (by decide), (Sh.lst (n := 0) (fun d hd => by cases hd)).shaped (by decide), _, rfl, ?_⟩
      rw [eqv_nil]
      have S3 : SpAt (upd H2 l (.lst [])) sp gr := S2.upd (ne_of_none g1 hl0).symm hng.symm
      have g1' : (upd H2 l (.lst [])) sp = some (.lst [.ref gr, .int m2, .int t2]) := by rw [upd_ne (ne_of_none g1 hl0)]; exact g1
      have g2' : (upd H2 l (.lst [])) gr = some (.lst (ys.map V.int)) := by rw [upd_ne hng]; exact g2
      have x23 := x2.trans x3
      generalize upd H2 l (.lst []) = H3 at x23 S3 g1' g2' ⊢
      have w1 : sp ∈ [sp, gr] ∧ ∃ xs, H sp = some (.lst xs) := S.ls (by simp)
      have w2 : gr ∈ [sp, gr] ∧ ∃ xs, H gr = some (.lst xs) := S.ls (by simp)
      cases ys with
      | cons y r =>
        refine iteT ?_
        refine ⟨_, rfl, gr, _, _, _, rfl, rfl, SqL.of g2', atI_nat (j := 0) rfl, .inl ⟨_, rfl, _, rfl, _, _, rfl, rfl, by omega, ?_⟩⟩
        refine ⟨_, rfl, gr, _, _, _, rfl, rfl, SqL.of g2', atI_nat (j := 0) rfl, _, rfl, _, _, rfl, rfl, ⟨by omega, by omega⟩, _, rfl, gr, _, _, 0, rfl, rfl, g2', by simp [ixN], _, rfl, ?_⟩
        obtain ⟨hf1, hf2⟩ := fmod_bd y hm0
        have e : y.fmod (many : Int) = (((y.fmod (many : Int)).toNat : Nat) : Int) := by omega
        have hlt : (y.fmod (many : Int)).toNat < many := by omega
        dsimp only [List.set]
        show Q (V.int (y.fmod (many : Int))) _
        rw [e]
        refine k _ _ hlt (x23.write (.inr w2)) ⟨⟨y.fdiv many :: r, m2, t2, by rw [upd_ne S.ne]; exact g1', upd_same, g3, g4, g5⟩, S.ne⟩
      | nil =>
        refine iteF ?_
        refine ⟨_, rfl, sp, _, _, _, rfl, rfl, SqL.of g1', atI_nat (j := 2) rfl, _, _, rfl, rfl, _, rfl, sp, _, _, 2, rfl, rfl, g1', rfl, ?_⟩
        dsimp only [List.set]
        refine ⟨_, rfl, sp, _, _, _, rfl, rfl, SqL.of upd_same, atI_nat (j := 1) rfl, _, _, rfl, rfl, .inr ⟨by decide, by decide⟩, _, rfl, sp, _, _, _, rfl, rfl, SqL.of upd_same, atI_nat (j := 2) rfl, _, _, rfl, rfl, .inr ⟨by decide, by decide⟩, _, _, rfl, rfl, .inl ⟨_, rfl, _, _, rfl, rfl, (by show (0 : Int) < 2305843009213693951; decide), _, rfl, sp, _, _, 1, rfl, rfl, upd_same, rfl, ?_⟩⟩
        dsimp only [List.set]
        rw [upd_upd]
        have hq1 := Int.emod_nonneg (m2 * 6364136223846793005 + (t2 + 1) * 1442695040888963407) (show (2305843009213693951 : Int) ≠ 0 by decide)
        have hq2 := Int.emod_lt_of_pos (m2 * 6364136223846793005 + (t2 + 1) * 1442695040888963407) (show (0 : Int) < 2305843009213693951 by decide)
        generalize (m2 * 6364136223846793005 + (t2 + 1) * 1442695040888963407) % 2305843009213693951 = q at hq1 hq2 ⊢
        refine ⟨_, rfl, sp, _, _, _, rfl, rfl, SqL.of upd_same, atI_nat (j := 1) rfl, _, rfl, sp, _, _, _, rfl, rfl, SqL.of upd_same, atI_nat (j := 1) rfl, _, _, rfl, rfl, .inl ⟨by omega, by omega⟩, .inl ⟨_, rfl, _, _, rfl, rfl, (by show (0 : Int) < 2305843009213693921; decide), _, _, rfl, rfl, ⟨by decide, by decide⟩, _, rfl, _, _, rfl, rfl, by omega, ?_⟩⟩
        generalize q * q % 2305843009213693921 / 1048576 = y
        obtain ⟨hf1, hf2⟩ := fmod_bd y hm0
        have e : y.fmod (many : Int) = (((y.fmod (many : Int)).toNat : Nat) : Int) := by omega
        have hlt : (y.fmod (many : Int)).toNat < many := by omega
        show Q (V.int (y.fmod (many : Int))) _
        rw [e]
        refine k _ _ hlt (x23.write (.inr w1)) ⟨⟨[], q, t2 + 1, upd_same, by rw [upd_ne S.ne.symm]; exact g2', hq1, hq2, by decide⟩, S.ne⟩
    · refine while_by (fun σ H2 => σ = [some (.ref sp), some (.int (many : Int)), some (.ref gr), none] ∧ SpAt H2 sp gr ∧ ExtS [sp, gr] H H2)
        (fun σ H2 => match H2 gr with
          | some (.lst ys) => ys.length
          | _ => 0) ⟨rfl, S, .refl _ H⟩ ?_ ?_
      · rintro σ H2 ⟨rfl, S2, x2⟩
        obtain ⟨ys, m2, t2, g1, g2, g3, g4, g5⟩ := S2.ex
        refine ⟨_, rfl, Nat.zero_le _, fun l hl0 => ?_⟩
        have hng : gr ≠ l := ne_of_none g2 hl0
        have x3 : ExtS [sp, gr] H2 (upd H2 l (.lst [])) := .new hl0
        refine ⟨.list (ys.map .int), .list [], .lst (SqL.of (by rw [upd_ne hng]; exact g2)) (dpAll_of_ints ys), .lst (SqL.of upd_same) .nil, (Sh.ints (n := 0) ys).shaped (by decide), (Sh.lst (n := 0) (fun d hd => by cases hd)).shaped (by decide), _, rfl, ?_⟩
        rw [eqv_nil]
        have S3 : SpAt (upd H2 l (.lst [])) sp gr := S2.upd (ne_of_none g1 hl0).symm hng.symm
        have g1' : (upd H2 l (.lst [])) sp = some (.lst [.ref gr, .int m2, .int t2]) := by rw [upd_ne (ne_of_none g1 hl0)]; exact g1
        have g2' : (upd H2 l (.lst [])) gr = some (.lst (ys.map V.int)) := by rw [upd_ne hng]; exact g2
        have x23 := x2.trans x3
        generalize upd H2 l (.lst []) = H3 at x23 S3 g1' g2' ⊢
        cases ys with
        | nil => exact iteF (hnx _ _ ⟨rfl, S3, x23⟩)
        | cons y r =>
          refine iteT ?_
          refine ⟨_, rfl, gr, _, _, _, rfl, rfl, SqL.of g2', atI_nat (j := 0) rfl, rfl, _, rfl, ?_⟩
          refine ite2 (fun _ => ?_) (fun _ => ?_)
          · refine ⟨_, rfl, .inl ⟨rfl, _, SqL.of g2'⟩, gr, _, 0, 0, _, rfl, rfl, g2', by decide, by decide, by simp [seqIndex?], rfl, ⟨rfl, ⟨⟨r, m2, t2, by rw [upd_ne S.ne]; exact g1', upd_same, g3, g4, by have := g5; simp at this; omega⟩, S.ne⟩, x23.write (.inr (S.ls (by simp)))⟩, ?_⟩
            rw [g2, upd_same]
            simp
          · exact hnx _ _ ⟨rfl, S3, x23⟩
      · rintro σ H2 Q1 Q2 hq ⟨v, e, hl, g⟩
        refine ⟨v, e, hl, fun l hl0 => ?_⟩
        obtain ⟨d, d2, a1, a2, a3, a4, kk, a5, q⟩ := g l hl0
        refine ⟨d, d2, a1, a2, a3, a4, kk, a5, ?_⟩
        cases kk with
        | false => exact hq _ _ q
        | true =>
          obtain ⟨b1, b2, b3, b4, b5, b6, b7, b8, b9, b10, b11, b12, b13, b14⟩ := q
          exact ⟨b1, b2, b3, b4, b5, b6, b7, b8, b9, b10, b11, b12, b13, hq _ _ b14⟩
end
section
variable {P : Program} {w : World} {K : PySem.W.Frag} {mg : Str → Option Value} {base : Heap}
/-! ### a drawn sequence -/
theorem rgV_nat (n : Nat) : rgV 0 (n : Int) = vsN (List.range n) := by
  unfold rgV vsN
  simp
theorem vsN_len (l : List Nat) : (vsN l).length = l.length := List.length_map ..
theorem vsN_at {l : List Nat} {n : Nat} (h : n < l.length) : (vsN l)[n]? = some (.int ((l[n] : Nat) : Int)) := by
  rw [List.getElem?_map, List.getElem?_eq_getElem h]
  rfl
theorem erase_map {α β : Type} (f : α → β) : ∀ (l : List α) (n : Nat), (l.map f).eraseIdx n = (l.eraseIdx n).map f
  | [], _ => rfl
  | _ :: _, 0 => rfl
  | x :: l, n + 1 => by
    show f x :: (l.map f).eraseIdx n = f x :: (l.eraseIdx n).map f
    rw [erase_map f l n]
theorem erase_perm : ∀ {l : List Nat} {n : Nat} (h : n < l.length), (l[n] :: l.eraseIdx n).Perm l
  | _ :: _, 0, _ => .refl _
  | x :: l, n + 1, h => by
    have h2 : n < l.length := by simpa using h
    have ih := erase_perm (l := l) (n := n) h2
    exact (List.Perm.swap x (l[n]'h2) (l.eraseIdx n)).trans (ih.cons x)
def spOrder (K : PySem.W.Frag) : Sp := fun vs H Q _ => ∃ (sp gr : Addr) (many : Nat), vs = [.ref sp, .int (many : Int)] ∧ SpAt H sp gr ∧ many ≤ 100 ∧ ∀ (p : Addr) (os : List Nat) H', os.Perm (List.range many) → ExtS [sp, gr] H H' → SpAt H' sp gr → H p = none → H' p = some (.tup (vsN os)) → Q (.ref p) H'
theorem sc_law_order : FnScope ["spring", "many", "left", "found", "turn"] ["spring", "many"] (defScope st__law_order) := ⟨rfl, rfl, rfl, by decide +kernel, rfl, by decide +kernel, by decide +kernel⟩
theorem ok_law_order {f : Addr} {fd : FuncData} (F : Fun K "_law_order" "_law_order" st__law_order f fd) (B : Bl mg) (c1 : Cal P w K mg base 1 "_law_drop" ["spring", "many"] (spDrop K)) : FnOk P w K mg base CX0 2 f fd ["spring", "many"] (spOrder K) := by
  refine F.ok sc_law_order (fun vs H Q E h => ?_) (fun cdv A outer s H vs Q E hr h => ?_)
  · obtain ⟨sp, gr, many, rfl, _⟩ := h
    rfl
  · obtain ⟨sp, gr, many, rfl, S, hm, k⟩ := h
    refine ⟨_, pss_cons (ps_par (i := 2) (j := 3) (by rfl) sc_law_order.nd rfl rfl (by decide) rfl rfl (pa_cons (pe_listRg rfl rfl B.list (prg_1 rfl B.range (pv 1))) (pa_cons (pe_lst pa_nil) pa_nil)) (by rfl))
      (pss_cons (ps_for PassesOwn.never rfl (pi_range1 rfl B.range (pa_cons (pv 1) pa_nil)) (pg_name (i := 4) sc_law_order.nd rfl (Or.inl rfl))
        (pss_one (ps_expr (pe_bm PySem.F.plainAttrs_list PySem.F.slot_list_append PySem.F.type_list_append mt_append (pv 3)
          (pa_cons (pe_bm PySem.F.plainAttrs_list PySem.F.slot_list_pop PySem.F.type_list_pop mt_popAt (pv 2)
            (pa_cons (pe_cal c1 (hr.mono (by decide)) rfl (pa_cons (pv 0) (pa_cons (pe_callB call_len (by rfl) B.len PySem.boot_len (pa_cons (pv 2) pa_nil)) pa_nil))) pa_nil)) pa_nil)))))
      (pss_one (ps_ret (pe_tupleOf rfl B.tuple (pv 3))))), ?_⟩
    refine ⟨_, rfl, _, rfl, ⟨by omega, by omega⟩, fun l hl0 => ?_⟩
    rw [rgV_nat]
    have y1 : ExtS [sp, gr] H (upd H l (.lst (vsN (List.range many)))) := .new hl0
    have S1 : SpAt (upd H l (.lst (vsN (List.range many)))) sp gr := S.ext (.new hl0)
    refine ⟨Nat.zero_le _, fun d hd0 => ⟨_, _, rfl, ?_⟩⟩
    have hld : l ≠ d := ne_of_none upd_same hd0
    have hd : H d = none := y1.free hd0
    have nl : l ∉ [sp, gr] := fun h => by
      obtain ⟨_, xs, e⟩ := S.ls h
      rw [hl0] at e; cases e
    have nd : d ∉ [sp, gr] := fun h => by
      obtain ⟨_, xs, e⟩ := S.ls h
      rw [hd] at e; cases e
    dsimp only [List.set]
    refine ⟨_, rfl, _, rfl, by omega, by omega, for_range (lo := 0) (n := (many : Int).toNat) (fun i σ H2 => ∃ (v : Option V) (ls fs : List Nat), σ = [some (.ref sp), some (.int (many : Int)), some (.ref l), some (.ref d), v] ∧ H2 l = some (.lst (vsN ls)) ∧ H2 d = some (.lst (vsN fs)) ∧ (fs ++ ls).Perm (List.range many) ∧ fs.length = i ∧ SpAt H2 sp gr ∧ ExtS [sp, gr] H H2)
      ⟨_, List.range many, [], rfl, by rw [upd_ne hld]; exact upd_same, upd_same, List.Perm.refl _, rfl, S1.ext (.new hd0), y1.trans (.new hd0)⟩ ?_ ?_⟩
    · rintro i σ H2 hi ⟨v, ls, fs, rfl, h1, h2, hp, hf, S2, x2⟩
      have hlen := hp.length_eq
      rw [List.length_append, List.length_range, hf] at hlen
      rw [Int.toNat_natCast] at hi
      refine ⟨_, rfl, .inl ⟨rfl, _, SqL.of h2⟩, _, rfl, .inl ⟨rfl, _, SqL.of h1⟩, _, rfl, _, rfl, _, ls.length, rfl, .inl ⟨_, SqL.of h1, (vsN_len ls).symm⟩, sp, gr, ls.length, rfl, S2, by omega, by omega, fun n H3 hn x3 S3 => ?_⟩
      have h1' := x3.lst nl h1
      have h2' := x3.lst nd h2
      refine ⟨l, _, _, n, _, rfl, rfl, h1', by omega, by omega, ?_, vsN_at hn, d, _, _, rfl, rfl, by rw [upd_ne hld.symm]; exact h2', ?_, ?_⟩
      · rw [vsN_len]
        have e1 : ¬ ((n : Int) < 0) := by omega
        have e2 : decide (0 ≤ (n : Int)) = true := decide_eq_true (by omega)
        have e3 : decide ((n : Int) < (ls.length : Int)) = true := decide_eq_true (by omega)
        simp only [seqIndex?, if_neg e1, e2, e3, Bool.and_self, if_true, Int.toNat_natCast]
      · rw [vsN_len]
        exact small1000 (by omega)
      · refine ⟨_, ls.eraseIdx n, fs ++ [ls[n]], rfl, ?_, ?_, ?_, by rw [List.length_append, hf]; rfl, ?_, ?_⟩
        · rw [upd_ne hld, upd_same]
          rw [erase_map]
        · rw [upd_same]
          show _ = some (HO.lst (List.map _ (fs ++ [ls[n]])))
          rw [List.map_append]
          rfl
        · rw [List.append_assoc]
          exact ((erase_perm hn).append_left fs).trans hp
        · exact (S3.upd (fun e => nl (by simp [e])) (fun e => nl (by simp [e]))).upd (fun e => nd (by simp [e])) (fun e => nd (by simp [e]))
        · exact ((x2.trans x3).write (.inl hl0)).write (.inl hd)
    · rintro σ H2 ⟨v, ls, fs, rfl, h1, h2, hp, hf, S2, x2⟩
      have hlen := hp.length_eq
      rw [List.length_append, List.length_range, hf] at hlen
      rw [Int.toNat_natCast] at hlen
      have el : ls = [] := List.length_eq_zero_iff.mp (by omega)
      subst el
      rw [List.append_nil] at hp
      exact ⟨_, rfl, .inl ⟨d, _, rfl, SqL.of h2, fun q hq => k q fs _ hp (x2.trans (.new hq)) (S2.ext (.new hq)) (x2.free hq) upd_same⟩⟩
end
section
variable {P : Program} {w : World} {K : PySem.W.Frag} {mg : Str → Option Value} {base : Heap}
/-! ### the neighbours of a place -/
theorem filt_snoc (f : Nat → Bool) (l : List Nat) (i : Nat) : (l ++ [i]).filter f = l.filter f ++ (if f i = true then [i] else []) := by
  rw [List.filter_append]
  congr 1
  by_cases z : f i = true
  · rw [if_pos z, List.filter_cons_of_pos z]; rfl
  · rw [if_neg z, List.filter_cons_of_neg z]; rfl
def nearL (n : Nat) (bs : List (Nat × Nat)) (p : Nat) : List Nat := (List.range n).filter fun k => Mk.adj bs k p
theorem sh_pair (n : Nat) (a b : Int) : Bx.Sh (n + 2) (.tuple [.int a, .int b]) := .tup fun d hd => by
  rcases List.mem_cons.mp hd with e | e
  · rw [e]; exact .int _ _
  · rw [List.mem_singleton.mp e]; exact .int _ _
theorem sh_bord (n : Nat) (bs : List (Nat × Nat)) : Bx.Sh (n + 3) (bordD bs) := .tup fun d hd => by
  obtain ⟨b, _, rfl⟩ := List.mem_map.mp hd
  exact sh_pair _ _ _
theorem any_adj (bs : List (Nat × Nat)) (k p : Nat) :
    ((bs.map fun (b : Nat × Nat) => PyData.tuple [.int (b.1 : Int), .int (b.2 : Int)]).any fun z => PyData.eqv z (.tuple [.int (if (p : Int) < (k : Int) then (p : Int) else (k : Int)), .int (if (p : Int) > (k : Int) then (p : Int) else (k : Int))])) = Mk.adj bs k p := by
  unfold Mk.adj
  have e1 : (if (p : Int) < (k : Int) then (p : Int) else (k : Int)) = ((min k p : Nat) : Int) := by
    split <;> omega
  have e2 : (if (p : Int) > (k : Int) then (p : Int) else (k : Int)) = ((max k p : Nat) : Int) := by
    split <;> omega
  rw [e1, e2, List.any_map]
  induction bs with
  | nil => rfl
  | cons b r ih =>
    rw [List.any_cons, ih, List.contains_cons]
    congr 1
    obtain ⟨x, y⟩ := b
    rw [Bool.eq_iff_iff]
    simp [PyData.eqv, PyData.eqvAll]
    omega
def spNear (K : PySem.W.Frag) : Sp := fun vs H Q _ => ∃ (l : V) (fs : List Int) (bs : List (Nat × Nat)) (p : Nat), vs = [l, .int (p : Int)] ∧ Dp K H l (landD fs bs) ∧ fs.length ≤ 12 ∧ ∀ q H', Ext H H' → H q = none → H' q = some (.lst (vsN (nearL fs.length bs p))) → Q (.ref q) H'
theorem sc_law_near : FnScope ["land", "place", "k"] ["land", "place"] (defScope st__law_near) := ⟨rfl, rfl, rfl, by decide +kernel, rfl, by decide +kernel, by decide +kernel⟩
theorem dp_land {H : Hp} {l : V} {fs : List Int} {bs : List (Nat × Nat)} (h : Dp K H l (landD fs bs)) : ∃ (a af : Addr) (vb : V), l = .ref a ∧ SqT K H a [.ref af, vb] ∧ SqT K H af (fs.map V.int) ∧ Dp K H vb (bordD bs) := by
  obtain ⟨a, xs, rfl, h1, h2⟩ := dp_tup h
  cases h2 with
  | cons hf h3 =>
    cases h3 with
    | cons hb h4 =>
      cases h4
      obtain ⟨af, rfl, h5⟩ := dp_ints hf
      exact ⟨a, af, _, rfl, h1, h5, hb⟩
theorem ok_law_near {f : Addr} {fd : FuncData} (F : Fun K "_law_near" "_law_near" st__law_near f fd) (B : Bl mg) : FnOk P w K mg base CX0 1 f fd ["land", "place"] (spNear K) := by
  refine F.ok sc_law_near (fun vs H Q E h => ?_) (fun cdv A outer s H vs Q E hr h => ?_)
  · obtain ⟨l, fs, bs, p, rfl, _⟩ := h
    rfl
  · obtain ⟨l, fs, bs, p, rfl, hl, hn, k⟩ := h
    refine ⟨_, pss_one (ps_ret (pe_lc (own := [("k", 2)]) (g := gName 2) (by rfl) sc_law_near.nd (pi_range1 rfl B.range (pa_cons (pe_callB call_len (by rfl) B.len PySem.boot_len (pa_cons (pe_ix ix_tup (pv 0) pe_int (fun _ _ => rfl)) pa_nil)) pa_nil))
      (blkOk_by (own := [("k", 2)]) (N := ["land", "place", "k"]) (sc := defScope st__law_near) (by decide +kernel)) (fun _ _ _ _ _ => pg_name (i := 2) sc_law_near.nd rfl (Or.inl rfl))
      (fun _ _ _ _ _ => pts_one (pt_cmpR (op_inDTK (K := K) rfl (u65 hr)) (pe_tup (pa_cons (pe_callB (call_min2 rfl) (by rfl) B.min (by decide +kernel) (pa_cons (pv 2) (pa_cons (pv 1) pa_nil))) (pa_cons (pe_callB (call_max2 rfl) (by rfl) B.max (by decide +kernel) (pa_cons (pv 2) (pa_cons (pv 1) pa_nil))) pa_nil))) (pe_ix (ix_tupK (K := K) rfl) (pv 0) pe_int (fun _ _ => rfl)) (by rfl)))
      (fun _ _ _ _ _ => pv 2))), ?_⟩
    obtain ⟨a, af, vb, rfl, h1, h2, h3⟩ := dp_land hl
    refine ⟨_, rfl, a, _, _, _, rfl, rfl, h1, atI_nat (j := 0) rfl, _, fs.length, rfl, .inr ⟨_, h2, by simp⟩, _, rfl, by omega, by omega, fun D hD => ?_⟩
    have x1 : ∀ o, Ext H (upd H D o) := fun o => .new hD
    refine lc_range (lo := 0) (n := (fs.length : Int).toNat) (fun i H2 => H2 D = some (.lst (vsN ((List.range i).filter fun k => Mk.adj bs k p))) ∧ Ext H H2) ⟨upd_same, x1 _⟩ (fun i H2 hi ⟨e, x2⟩ => ?_) fun H2 ⟨e, x2⟩ => k D H2 x2 hD (by rw [Int.toNat_natCast] at e; exact e)
    rw [Int.toNat_natCast] at hi
    refine ⟨rfl, _, rfl, _, rfl, _, _, rfl, _, rfl, _, rfl, _, _, rfl, by show 2 ≤ sizeLine; decide, fun t ht => ?_⟩
    have x3 : Ext H (upd H2 t (.tup [.int (if (p : Int) < (0 + (i : Int)) then (p : Int) else (0 + (i : Int))), .int (if (p : Int) > (0 + (i : Int)) then (p : Int) else (0 + (i : Int)))])) := x2.trans (.new ht)
    refine ⟨_, rfl, a, _, _, _, rfl, rfl, x3.sqT h1, atI_nat (j := 1) rfl, .tuple [.int (if (p : Int) < (0 + (i : Int)) then (p : Int) else (0 + (i : Int))), .int (if (p : Int) > (0 + (i : Int)) then (p : Int) else (0 + (i : Int)))], _, dp_new ht (.cons (.int _) (.cons (.int _) .nil)), dp_ext x3 h3, (sh_pair 0 _ _).shaped (by decide), (sh_bord 0 bs).shaped (by decide), _, rfl, ?_⟩
    rw [Bool.false_xor, Int.zero_add, any_adj bs i p]
    have ne : D ≠ t := ne_of_none e ht
    have et : (List.range (i + 1)).filter (fun k => Mk.adj bs k p) = (List.range i).filter (fun k => Mk.adj bs k p) ++ (if Mk.adj bs i p = true then [i] else []) := by
      rw [List.range_succ]
      exact filt_snoc (fun k => Mk.adj bs k p) _ i
    by_cases z : Mk.adj bs i p = true
    · rw [z]
      refine iteT ⟨_, rfl, _, by rw [upd_ne ne]; exact e, ?_, ?_, (x2.trans (.new ht)).write hD⟩
      · rw [vsN_len]
        have := List.length_filter_le (fun k => Mk.adj bs k p) (List.range i)
        rw [List.length_range] at this
        exact small1000 (by omega)
      · rw [upd_same, et, if_pos z]
        show _ = some (HO.lst (List.map _ (_ ++ _)))
        rw [List.map_append]
        rfl
    · rw [Bool.not_eq_true] at z
      rw [z]
      refine iteF ⟨by rw [upd_ne ne, et, if_neg (by rw [z]; exact Bool.false_ne_true), List.append_nil]; exact e, x2.trans (.new ht)⟩
end
end Wd

set_option Elab.async false
set_option linter.all false
set_option maxRecDepth 100000
set_option maxHeartbeats 4000000
namespace Wd
open PySem PySem.Spec PyProof.Rows L2 Bx Gx














































section
variable {P : Program} {w : World} {K : PySem.W.Frag} {mg : Str → Option Value} {base : Heap}
/-! ### the places to which a lot hangs from one of them -/
theorem inV_vsN (k : Nat) (l : List Nat) : inV (.int (k : Int)) (vsN l) = decide (k ∈ l) := by
  unfold inV vsN
  rw [List.any_map]
  induction l with
  | nil => rfl
  | cons x r ih =>
    rw [List.any_cons, ih]
    have e : ((fun y => eqV y (.int (k : Int))) ∘ fun (m : Nat) => V.int (m : Int)) x = decide (k = x) := by
      show ((x : Int) == (k : Int)) = _
      rw [Bool.eq_iff_iff]
      simp
      omega
    rw [e, Bool.eq_iff_iff]
    simp
theorem flat_vsN (l : List Nat) : (vsN l).all flatV = true := by
  rw [List.all_eq_true]
  intro x hx
  obtain ⟨y, _, rfl⟩ := List.mem_map.mp hx
  rfl
/-- a lot's own part, ascending: what hangs to a place -/
structure Part (bs : List (Nat × Nat)) (ps : List Nat) (p : Nat) (r : List Nat) : Prop where
  asc : r.Pairwise (· < ·)
  mem : ∀ x, x ∈ r ↔ Mk.Conn bs (· ∈ ps) p x
def spLReached (K : PySem.W.Frag) : Sp := fun vs H Q _ => ∃ (l : V) (v : Addr) (fs : List Int) (bs : List (Nat × Nat)) (ps : List Nat) (p : Nat), vs = [l, .ref v, .int (p : Int)] ∧ Dp K H l (landD fs bs) ∧ fs.length ≤ 12 ∧ Mk.Bs fs.length bs ∧ SqT K H v (vsN ps) ∧ (∀ x ∈ ps, x < fs.length) ∧ p ∈ ps ∧
  ∀ q H' r, Ext H H' → H q = none → H' q = some (.tup (vsN r)) → Part bs ps p r → Q (.ref q) H'
theorem sc_law_reached : FnScope ["land", "lot", "place", "found", "at", "k"] ["land", "lot", "place"] (defScope st__law_reached) := ⟨rfl, rfl, rfl, by decide +kernel, rfl, by decide +kernel, by decide +kernel⟩
theorem ok_law_reached {f : Addr} {fd : FuncData} (F : Fun K "_law_reached" "_law_reached" st__law_reached f fd) (B : Bl mg) (c1 : Cal P w K mg base 1 "_law_near" ["land", "place"] (spNear K)) : FnOk P w K mg base CX0 2 f fd ["land", "lot", "place"] (spLReached K) := by
  refine F.ok sc_law_reached (fun vs H Q E h => ?_) (fun cdv A outer s H vs Q E hr h => ?_)
  · obtain ⟨l, v, fs, bs, ps, p, rfl, _⟩ := h
    rfl
  · obtain ⟨l, v, fs, bs, ps, p, rfl, hl, hn, hb, hv, hlt, hp, k⟩ := h
    refine ⟨_, pss_cons (ps_asg (pe_tup (pa_cons (pe_lst (pa_cons (pv 2) pa_nil)) (pa_cons pe_int pa_nil))) (pg_tup (by rfl) (pgs_cons (pg_name (i := 3) sc_law_reached.nd rfl (Or.inr rfl)) (pgs_cons (pg_name (i := 4) sc_law_reached.nd rfl (Or.inl rfl)) pgs_nil))))
      (pss_cons (ps_while PassesOwn.never (pt_cmpR op_lt (pv 4) (pe_callB call_len (by rfl) B.len PySem.boot_len (pa_cons (pv 3) pa_nil)) (nomark _))
        (pss_cons (ps_set (i := 3) sc_law_reached.nd rfl (Or.inr rfl) (pe_op op_cat (pv 3)
          (pe_lc (own := [("k", 5)]) (g := gName 5) (by rfl) sc_law_reached.nd (pi_list (pe_cal c1 (hr.mono (by decide)) rfl (pa_cons (pv 0) (pa_cons (pe_ix ix_list (pv 3) (pv 4) (fun _ _ => rfl)) pa_nil))))
            (blkOk_by (own := [("k", 5)]) (N := ["land", "lot", "place", "found", "at", "k"]) (sc := defScope st__law_reached) (by decide +kernel)) (fun _ _ _ _ _ => pg_name (i := 5) sc_law_reached.nd rfl (Or.inl rfl))
            (fun _ _ _ _ _ => pts_one (PW.pt (pw_and (pt_cmpR (op_inK (K := K) rfl) (pv 5) (pv 1) (by rfl)) (pw_and1 (pt_cmpR (op_notInK (K := K) rfl) (pv 5) (pv 3) (by rfl))))))
            (fun _ _ _ _ _ => pv 5))))
        (pss_one (ps_set (i := 4) sc_law_reached.nd rfl (Or.inl rfl) (pe_op op_add (pv 4) pe_int)))))
      (pss_one (ps_ret (pe_tupleOf rfl B.tuple (pe_callB cr_sorted (by rfl) B.sorted (by decide +kernel) (pa_cons (pv 3) pa_nil)))))), ?_⟩
    refine ⟨_, rfl, by show 1 ≤ sizeLine; decide, fun d hd => ⟨by show 2 ≤ sizeLine; decide, fun t ht => ⟨t, _, rfl, SqT.of upd_same, rfl, ?_⟩⟩⟩
    dsimp only [gCons, gName, gNil, tSeq, List.set, L2.start, List.map, List.length, List.replicate, List.append]
    refine ⟨_, _, rfl, _, _, rfl, rfl, ?_⟩
    have x0 : Ext H (upd (upd H d (.lst [.int (p : Int)])) t (.tup [.ref d, .int 0])) := (Ext.new hd).trans (.new ht)
    have e0 : (upd (upd H d (.lst [.int (p : Int)])) t (.tup [.ref d, .int 0])) d = some (.lst (vsN [p])) := by
      rw [upd_ne (ne_of_none upd_same ht), upd_same]
      rfl
    refine while_by (fun σ H2 => ∃ (fnd : List Nat) (at_ : Nat) (D : Addr) (o : Option V), σ = [some l, some (.ref v), some (.int (p : Int)), some (.ref D), some (.int (at_ : Int)), o] ∧ Ext H H2 ∧ H D = none ∧ H2 D = some (.lst (vsN fnd)) ∧ Mk.Rw bs ps p fnd at_)
      (fun σ _ => match σ with
        | [_, _, _, _, some (.int a), _] => fs.length - a.toNat
        | _ => 0) ⟨[p], 0, d, none, rfl, x0, hd, e0, .begin hp⟩ ?_ ?_
    · rintro σ H2 ⟨fnd, at_, D, o, rfl, x2, hD, hD2, W⟩
      have hfl : fnd.length ≤ fs.length := Mk.nodup_le _ _ W.nd fun x hx => hlt x (W.sound x hx).snd
      refine ⟨_, rfl, _, rfl, _, fnd.length, rfl, .inl ⟨_, SqL.of hD2, (vsN_len fnd).symm⟩, _, _, rfl, rfl, _, rfl, ?_⟩
      refine ite2 (fun z => ?_) (fun z => ?_)
      · have hat : at_ < fnd.length := by
          have := of_decide_eq_true z
          omega
        refine ⟨_, rfl, _, rfl, _, rfl, _, rfl, D, _, _, _, rfl, rfl, SqL.of hD2, atI_nat (vsN_at hat), l, fs, bs, fnd[at_], rfl, dp_ext x2 hl, hn, fun q H3 x3 hq hq2 => ⟨q, rfl, ⟨_, SqL.of hq2⟩, fun D2 hD2n => ?_⟩⟩
        have hget : fnd[at_]? = some fnd[at_] := List.getElem?_eq_getElem hat
        have W2 := W.turn hget hb
        generalize fnd[at_] = x at W2 hq2
        have x23 := x2.trans x3
        have hD3 := x3.lst hD2
        have ne : D ≠ D2 := ne_of_none hD3 hD2n
        refine lc_list (K := K) (a := q) (xs := vsN (nearL fs.length bs x)) (fun i H4 => H4 D2 = some (.lst (vsN (((nearL fs.length bs x).take i).filter fun k => decide (k ∈ ps) && decide (k ∉ fnd)))) ∧ Ext H3 H4) ⟨upd_same, .new hD2n⟩ (fun i H4 _ ⟨_, x4⟩ => SqL.of (x4.lst hq2)) (fun i y H4 hy ⟨e4, x4⟩ => ?_) (fun H4 ⟨e4, x4⟩ => ?_)
        · rw [List.getElem?_map] at hy
          cases eb : (nearL fs.length bs x)[i]? with
          | none => rw [eb] at hy; cases hy
          | some z =>
            rw [eb] at hy
            cases hy
            have et : (nearL fs.length bs x).take (i + 1) = (nearL fs.length bs x).take i ++ [z] := by
              rw [List.take_add_one, eb]
              rfl
            refine ⟨rfl, _, rfl, _, rfl, v, _, rfl, .inr ((x23.trans x4).sqT hv), rfl, flat_vsN _, _, rfl, ?_⟩
            have hsz : (vsN (((nearL fs.length bs x).take i).filter fun k => decide (k ∈ ps) && decide (k ∉ fnd))).length < sizeLine := by
              rw [vsN_len]
              have h1 := List.length_filter_le (fun k => decide (k ∈ ps) && decide (k ∉ fnd)) ((nearL fs.length bs x).take i)
              have h2 : ((nearL fs.length bs x).take i).length ≤ (nearL fs.length bs x).length := by rw [List.length_take]; omega
              have h3 : (nearL fs.length bs x).length ≤ fs.length := by
                have := List.length_filter_le (fun k => Mk.adj bs k x) (List.range fs.length)
                rw [List.length_range] at this
                exact this
              exact small1000 (by omega)
            rw [et]
            have ef := filt_snoc (fun k => decide (k ∈ ps) && decide (k ∉ fnd)) ((nearL fs.length bs x).take i) z
            rw [ef]
            show if (if false = true then !inV _ _ else inV _ _) = true then _ else _
            rw [if_neg Bool.false_ne_true, inV_vsN]
            by_cases z1 : z ∈ ps
            · rw [decide_eq_true z1]
              refine iteT ⟨_, rfl, _, rfl, D, _, rfl, .inl (SqL.of (x4.lst hD3)), rfl, flat_vsN _, _, rfl, ?_⟩
              show if (if true = true then !inV _ _ else inV _ _) = true then _ else _
              rw [if_pos rfl, inV_vsN]
              by_cases z2 : z ∈ fnd
              · rw [decide_eq_true z2]
                refine iteF ?_
                refine ⟨?_, x4⟩
                simp only [z1, z2, decide_true, not_true, decide_false, Bool.and_false, if_false, List.append_nil, Bool.false_eq_true]
                exact e4
              · rw [decide_eq_false z2]
                refine iteT ⟨_, rfl, _, e4, hsz, ?_, x4.write hD2n⟩
                rw [upd_same]
                simp only [z1, z2, decide_true, not_false_eq_true, Bool.and_true, if_true]
                show _ = some (HO.lst (List.map _ (_ ++ _)))
                rw [List.map_append]
                rfl
            · rw [decide_eq_false z1]
              refine iteF ?_
              refine ⟨?_, x4⟩
              simp only [z1, decide_false, Bool.false_and, if_false, List.append_nil, Bool.false_eq_true]
              exact e4
        · rw [vsN_len, List.take_length] at e4
          have hD4 := x4.lst hD3
          have hnl : (((nearL fs.length bs x).filter fun k => decide (k ∈ ps) && decide (k ∉ fnd))).length ≤ fs.length := by
            have h1 := List.length_filter_le (fun k => decide (k ∈ ps) && decide (k ∉ fnd)) (nearL fs.length bs x)
            have h3 : (nearL fs.length bs x).length ≤ fs.length := by
              have := List.length_filter_le (fun k => Mk.adj bs k x) (List.range fs.length)
              rw [List.length_range] at this
              exact this
            omega
          refine ⟨_, _, _, _, rfl, rfl, hD4, e4, Nat.le_of_lt (small1000 (by rw [vsN_len, vsN_len]; omega)), fun r hr0 => ?_⟩
          refine ⟨_, rfl, _, _, rfl, rfl, ?_⟩
          dsimp only [List.set]
          have x24 := x23.trans x4
          refine ⟨⟨_, at_ + 1, r, o, ?_, x24.trans (.new hr0), x24.free hr0, ?_, W2⟩, ?_⟩
          · rfl
          · rw [upd_same]
            show _ = some (HO.lst (List.map _ (_ ++ _)))
            rw [List.map_append]
            rfl
          · show fs.length - (((at_ : Nat) : Int) + 1).toNat < fs.length - ((at_ : Nat) : Int).toNat
            omega
      · have hat : fnd.length ≤ at_ := by
          have h0 := z
          rw [decide_eq_true_eq] at h0
          omega
        refine ⟨_, rfl, D, fnd.map fun (m : Nat) => (m : Int), rfl, ?_, by rw [List.length_map]; omega, fun ns q hperm hasc hq => ?_⟩
        · rw [List.map_map]
          exact SqL.of hD2
        have hnn : ∀ z ∈ ns, 0 ≤ z := fun z hz => by
          obtain ⟨y, _, rfl⟩ := List.mem_map.mp (hperm.mem_iff.mp hz)
          omega
        have ens : (ns.map Int.toNat).map (fun (m : Nat) => (m : Int)) = ns := by
          rw [List.map_map]
          conv => rhs; rw [← List.map_id ns]
          exact List.map_congr_left fun z hz => Int.toNat_of_nonneg (hnn z hz)
        have hmem : ∀ x, x ∈ ns.map Int.toNat ↔ x ∈ fnd := fun x => by
          rw [List.mem_map]
          constructor
          · rintro ⟨z, hz, rfl⟩
            obtain ⟨y, hy, rfl⟩ := List.mem_map.mp (hperm.mem_iff.mp hz)
            exact hy
          · intro hx
            exact ⟨(x : Int), hperm.mem_iff.mpr (List.mem_map.mpr ⟨x, hx, rfl⟩), rfl⟩
        have hnd : ns.Nodup := hperm.nodup_iff.mpr (by
          refine List.Pairwise.map _ ?_ W.nd
          intro a b hab e
          exact hab (by omega))
        have hpw : (ns.map Int.toNat).Pairwise (· < ·) := by
          rw [List.pairwise_map]
          refine (hasc.and hnd).imp_of_mem fun {a b} ha hb2 hab => ?_
          have h1 := hnn a ha
          have h2 := hnn b hb2
          have h3 := hab.1
          have h4 := hab.2
          omega
        refine .inl ⟨q, _, rfl, SqL.of upd_same, fun r hr0 => ?_⟩
        have er : ns.map V.int = vsN (ns.map Int.toNat) := by
          show _ = (ns.map Int.toNat).map fun (m : Nat) => V.int (m : Int)
          conv => lhs; rw [← ens]
          rw [List.map_map]
          rfl
        exact k r _ (ns.map Int.toNat) (x2.trans ((Ext.new hq).trans (.new hr0))) (x2.free ((Ext.new hq).free hr0)) (by rw [upd_same, er]) ⟨hpw, fun x => (hmem x).trans (W.fin hat x)⟩
    · rintro σ H2 Q1 Q2 hq ⟨a1, a2, a3, a4, a5, a6, a7, a8, a9, a10, a11, a12, a13, a14, a15⟩
      exact ⟨a1, a2, a3, a4, a5, a6, a7, a8, a9, a10, a11, a12, a13, a14, hq _ _ a15⟩
end
section
variable {P : Program} {w : World} {K : PySem.W.Frag} {mg : Str → Option Value} {base : Heap}
/-! ### the greatest lots that hang together -/
def spLPieces (K : PySem.W.Frag) : Sp := fun vs H Q _ => ∃ (l : V) (v : Addr) (fs : List Int) (bs : List (Nat × Nat)) (ps : List Nat), vs = [l, .ref v] ∧ Dp K H l (landD fs bs) ∧ fs.length ≤ 12 ∧ Mk.Bs fs.length bs ∧ SqT K H v (vsN ps) ∧ (∀ x ∈ ps, x < fs.length) ∧ ps.Pairwise (· < ·) ∧
  ∀ q H' (rs : List (List Nat)), Ext H H' → H q = none → Dp K H' (.ref q) (.tuple (rs.map lotD)) → (∀ r ∈ rs, r.Pairwise (· < ·) ∧ ∀ x ∈ r, x ∈ ps) → rs.length ≤ ps.length → Mk.Pcs bs (Mk.mask ps) (rs.map Mk.mask) → Q (.ref q) H'
theorem sc_law_pieces : FnScope ["land", "lot", "found", "left", "place"] ["land", "lot"] (defScope st__law_pieces) := ⟨rfl, rfl, rfl, by decide +kernel, rfl, by decide +kernel, by decide +kernel⟩
theorem dp_lotT {H : Hp} {a : Addr} {r : List Nat} (h : SqT K H a (vsN r)) : Dp K H (.ref a) (lotD r) := .tup h (dpAll_lot r)
theorem ok_law_pieces {f : Addr} {fd : FuncData} (F : Fun K "_law_pieces" "_law_pieces" st__law_pieces f fd) (B : Bl mg) (c1 : Cal P w K mg base 2 "_law_reached" ["land", "lot", "place"] (spLReached K)) : FnOk P w K mg base CX0 3 f fd ["land", "lot"] (spLPieces K) := by
  refine F.ok sc_law_pieces (fun vs H Q E h => ?_) (fun cdv A outer s H vs Q E hr h => ?_)
  · obtain ⟨l, v, fs, bs, ps, rfl, _⟩ := h
    rfl
  · obtain ⟨l, v, fs, bs, ps, rfl, hl, hn, hb, hv, hlt, hasc, k⟩ := h
    have hpl : ps.length ≤ fs.length := by
      have e := Mk.bits_mask hasc hlt
      rw [← e]
      exact Mk.bits_len _ _
    refine ⟨_, pss_cons (ps_asg (pe_tup (pa_cons (pe_lst pa_nil) (pa_cons (pe_callTy call_list_of rfl B.list (by decide +kernel) (pa_cons (pv 1) pa_nil)) pa_nil))) (pg_tup (by rfl) (pgs_cons (pg_name (i := 2) sc_law_pieces.nd rfl (Or.inr rfl)) (pgs_cons (pg_name (i := 3) sc_law_pieces.nd rfl (Or.inl rfl)) pgs_nil))))
      (pss_cons (ps_while PassesOwn.never (pt_cmpR (op_neD hr.units) (pv 3) (pe_lst pa_nil) (nomark _))
        (pss_cons (ps_expr (pe_bm PySem.F.plainAttrs_list PySem.F.slot_list_append PySem.F.type_list_append mt_append (pv 2) (pa_cons (pe_cal c1 (hr.mono (by decide)) rfl (pa_cons (pv 0) (pa_cons (pv 1) (pa_cons (pe_ix ix_list (pv 3) pe_int (fun _ _ => rfl)) pa_nil)))) pa_nil)))
        (pss_one (ps_setLc (i := 3) (own := [("place", 4)]) (g := gName 4) (by rfl) sc_law_pieces.nd rfl rfl (sw_true rfl rfl rfl (by decide +kernel)) (pi_list (pv 3))
          (blkOk_by (own := [("place", 4)]) (N := ["land", "lot", "found", "left", "place"]) (sc := defScope st__law_pieces) (by decide +kernel)) (fun _ _ _ _ _ => pg_name (i := 4) sc_law_pieces.nd rfl (Or.inl rfl))
          (fun _ _ _ _ _ => pts_one (pt_cmpR (op_notInK (K := K) rfl) (pv 4) (pe_ix (ix_lstK (K := K) rfl) (pv 2) (pe_un un_neg pe_int) (fun _ _ => rfl)) (by rfl)))
          (fun _ _ _ _ _ => pv 4)))))
      (pss_one (ps_ret (pe_tupleOf rfl B.tuple (pv 2))))), ?_⟩
    refine ⟨Nat.zero_le _, fun d hd => ⟨_, rfl, v, _, rfl, .inr ((Ext.new hd).sqT hv), fun l0 hl0 => ⟨by show 2 ≤ sizeLine; decide, fun t ht => ⟨t, _, rfl, SqT.of upd_same, rfl, ?_⟩⟩⟩⟩
    dsimp only [gCons, gName, gNil, tSeq, List.set, L2.start, List.map, List.length, List.replicate, List.append]
    refine ⟨_, _, rfl, _, _, rfl, rfl, ?_⟩
    have ndl : d ≠ l0 := ne_of_none upd_same hl0
    have x0 : Ext H (upd (upd (upd H d (.lst [])) l0 (.lst (vsN ps))) t (.tup [.ref d, .ref l0])) := ((Ext.new hd).trans (.new hl0)).trans (.new ht)
    have e0 : (upd (upd (upd H d (.lst [])) l0 (.lst (vsN ps))) t (.tup [.ref d, .ref l0])) d = some (.lst []) := by
      have e : (upd (upd H d (.lst [])) l0 (.lst (vsN ps))) d = some (.lst []) := by rw [upd_ne ndl, upd_same]
      rw [upd_ne (ne_of_none e ht)]
      exact e
    have e1 : (upd (upd (upd H d (.lst [])) l0 (.lst (vsN ps))) t (.tup [.ref d, .ref l0])) l0 = some (.lst (vsN ps)) := by
      rw [upd_ne (ne_of_none upd_same ht), upd_same]
    refine while_by (fun σ H2 => ∃ (L : Addr) (left : List Nat) (rs : List (List Nat)) (as : List V) (o : Option V), σ = [some l, some (.ref v), some (.ref d), some (.ref L), o] ∧ Ext H H2 ∧ H L = none ∧ d ≠ L ∧ H2 d = some (.lst as) ∧ DpAll K H2 as (rs.map lotD) ∧ H2 L = some (.lst (vsN left)) ∧ Mk.Pw bs ps left rs)
      (fun σ H2 => match σ with
        | [_, _, _, some (.ref L), _] => (match H2 L with
          | some (.lst ys) => ys.length
          | _ => 0)
        | _ => 0) ⟨l0, ps, [], [], none, rfl, x0, (Ext.new hd).free hl0, ndl, e0, .nil, e1, .begin hasc⟩ ?_ ?_
    · rintro σ H2 ⟨L, left, rs, as, o, rfl, x2, hL, hdL, hD2, hA, hL2, W⟩
      refine ⟨_, rfl, Nat.zero_le _, fun z hz0 => ?_⟩
      have hLz : L ≠ z := ne_of_none hL2 hz0
      have x3 : Ext H2 (upd H2 z (.lst [])) := .new hz0
      refine ⟨.list ((left.map fun (m : Nat) => (m : Int)).map .int), .list [], .lst (SqL.of (by rw [upd_ne hLz, hL2]; show some (HO.lst (left.map _)) = some (HO.lst ((left.map _).map V.int)); rw [List.map_map]; rfl)) (dpAll_of_ints _), .lst (SqL.of upd_same) .nil, (Sh.ints (n := 0) _).shaped (by decide), (Sh.lst (n := 0) (fun d hd => by cases hd)).shaped (by decide), _, rfl, ?_⟩
      rw [eqv_nil]
      have x23 := x2.trans x3
      have hD3 := x3.lst hD2
      have hL3 := x3.lst hL2
      have hA3 := dpAll_ext x3 hA
      generalize upd H2 z (.lst []) = H3 at x23 hD3 hL3 hA3 ⊢
      cases left with
      | nil =>
        refine iteF ?_
        refine ⟨_, rfl, .inl ⟨d, _, rfl, SqL.of hD3, fun q hq => ?_⟩⟩
        have := W.len
        refine k q _ rs (x23.trans (.new hq)) (x23.free hq) (dp_new hq hA3) W.good ?_ W.fin
        rw [List.length_nil] at this
        exact this
      | cons x0 tl =>
        refine iteT ?_
        have h0 : x0 ∈ ps := W.sub x0 List.mem_cons_self
        have hlen := W.len
        rw [List.length_cons] at hlen
        refine ⟨_, rfl, .inl ⟨rfl, _, SqL.of hD3⟩, _, rfl, _, rfl, _, rfl, L, _, _, _, rfl, rfl, SqL.of hL3, atI_nat (j := 0) rfl, l, v, fs, bs, ps, x0, rfl, dp_ext x23 hl, hn, hb, x23.sqT hv, hlt, h0, fun q H4 r x4 hq hq4 hP => ?_⟩
        have hD4 := x4.lst hD3
        have hL4 := x4.lst hL3
        have hA4 := dpAll_ext x4 hA3
        have halen : as.length = rs.length := by
          have := dpAll_len hA
          rw [List.length_map] at this
          exact this
        have hsz : as.length < sizeLine := small1000 (by omega)
        refine ⟨d, _, _, rfl, rfl, hD4, hsz, ?_⟩
        obtain ⟨W2, hlt2⟩ := W.turn hP.asc hP.mem
        have x24 := x23.trans x4
        have x25 : Ext H (upd H4 d (.lst (as ++ [.ref q]))) := x24.write hd
        have hLne : L ≠ d := hdL.symm
        have x45 : ∀ a o, a ≠ d → H4 a = some o → (upd H4 d (.lst (as ++ [.ref q]))) a = some o := fun a o n e => by rw [upd_ne n]; exact e
        have hqd : q ≠ d := fun e => by rw [e, hD3] at hq; cases hq
        have hq5 := x45 q _ hqd hq4
        have hL5 := x45 L _ hLne hL4
        have hD5 : (upd H4 d (.lst (as ++ [.ref q]))) d = some (.lst (as ++ [.ref q])) := upd_same
        have hA5 : DpAll K (upd H4 d (.lst (as ++ [.ref q]))) (as ++ [.ref q]) ((rs ++ [r]).map lotD) := by
          rw [List.map_append]
          refine dpAll_app ?_ (.cons (dp_lotT (SqT.of hq5)) .nil)
          have x5 : ExtS [d] H4 (upd H4 d (.lst (as ++ [.ref q]))) := (ExtS.refl [d] H4).write (.inr ⟨by simp, _, hD4⟩)
          exact dpAll_extS x5 (noLs_map lotD (fun r => by show noLs _ = true; exact noLs_map _ (fun _ => rfl) r) rs) hA4
        generalize upd H4 d (.lst (as ++ [.ref q])) = H5 at x25 hq5 hL5 hD5 hA5 ⊢
        refine ⟨_, rfl, L, rfl, ⟨_, SqL.of hL5⟩, fun D2 hD2n => ?_⟩
        have nd2 : d ≠ D2 := ne_of_none hD5 hD2n
        refine lc_list (K := K) (a := L) (xs := vsN (x0 :: tl)) (fun i H6 => H6 D2 = some (.lst (vsN (((x0 :: tl).take i).filter fun x => decide (x ∉ r)))) ∧ Ext H5 H6) ⟨upd_same, .new hD2n⟩ (fun i H6 _ ⟨_, x6⟩ => SqL.of (x6.lst hL5)) (fun i y H6 hy ⟨e6, x6⟩ => ?_) (fun H6 ⟨e6, x6⟩ => ?_)
        · rw [List.getElem?_map] at hy
          cases eb : (x0 :: tl)[i]? with
          | none => rw [eb] at hy; cases hy
          | some u =>
            rw [eb] at hy
            cases hy
            have et : (x0 :: tl).take (i + 1) = (x0 :: tl).take i ++ [u] := by
              rw [List.take_add_one, eb]
              rfl
            have hlen6 : (vsN (((x0 :: tl).take i).filter fun x => decide (x ∉ r))).length < sizeLine := by
              rw [vsN_len]
              have h1 := List.length_filter_le (fun x => decide (x ∉ r)) ((x0 :: tl).take i)
              have h2 : ((x0 :: tl).take i).length ≤ (x0 :: tl).length := by rw [List.length_take]; omega
              rw [List.length_cons] at h2
              exact small1000 (by omega)
            refine ⟨rfl, _, rfl, _, rfl, _, rfl, d, _, _, _, rfl, rfl, SqL.of (x6.lst hD5), ?_, q, _, rfl, .inr (SqT.of (x6.tup hq5)), rfl, flat_vsN _, _, rfl, ?_⟩
            · exact atI_last _ _
            · show if (if true = true then !inV _ _ else inV _ _) = true then _ else _
              rw [if_pos rfl, inV_vsN, et, filt_snoc (fun x => decide (x ∉ r))]
              by_cases z2 : u ∈ r
              · rw [decide_eq_true z2]
                refine iteF ⟨?_, x6⟩
                simp only [z2, not_true, decide_false, if_false, List.append_nil, Bool.false_eq_true]
                exact e6
              · rw [decide_eq_false z2]
                refine iteT ⟨_, rfl, _, e6, hlen6, ?_, x6.write hD2n⟩
                rw [upd_same]
                simp only [z2, decide_true, not_false_eq_true, if_true]
                show _ = some (HO.lst (List.map _ (_ ++ _)))
                rw [List.map_append]
                rfl
        · rw [vsN_len, List.take_length] at e6
          have hD6 := x6.lst hD5
          have hLn : H D2 = none := x25.free hD2n
          refine ⟨⟨D2, _, rs ++ [r], as ++ [.ref q], o, rfl, x25.trans x6, hLn, nd2, hD6, dpAll_ext x6 hA5, e6, W2⟩, ?_⟩
          show (match H6 D2 with
            | some (.lst ys) => ys.length
            | _ => 0) < (match H2 L with
            | some (.lst ys) => ys.length
            | _ => 0)
          rw [e6, hL2]
          show (vsN _).length < (vsN _).length
          rw [vsN_len, vsN_len]
          exact hlt2
    · rintro σ H2 Q1 Q2 hq ⟨v, e, hl, g⟩
      refine ⟨v, e, hl, fun l hl0 => ?_⟩
      obtain ⟨d, d2, a1, a2, a3, a4, kk, a5, q⟩ := g l hl0
      exact ⟨d, d2, a1, a2, a3, a4, kk, a5, hq _ _ q⟩
end
section
variable {P : Program} {w : World} {K : PySem.W.Frag} {mg : Str → Option Value} {base : Heap}
/-! ### a drawn lot -/
theorem noL_bord (bs : List (Nat × Nat)) : noL (bordD bs) = true := by
  show noLs _ = true
  exact noLs_map _ (fun _ => rfl) bs
theorem noL_land (fs : List Int) (bs : List (Nat × Nat)) : noL (landD fs bs) = true := by
  show (noL (.tuple (fs.map .int)) && (noL (bordD bs) && true)) = true
  rw [noL_bord]
  show (noLs _ && true) = true
  rw [noLs_map _ (fun _ => rfl) fs]
  rfl
theorem asc_snoc {l : List Nat} {i : Nat} (h : l.Pairwise (· < ·)) (h2 : ∀ x ∈ l, x < i) : (l ++ [i]).Pairwise (· < ·) := by
  rw [List.pairwise_append]
  refine ⟨h, by simp, fun a ha b hb => ?_⟩
  rw [List.mem_singleton.mp hb]
  exact h2 a ha
theorem asc_len {l : List Nat} {n : Nat} (h : l.Pairwise (· < ·)) (h2 : ∀ x ∈ l, x < n) : l.length ≤ n := by
  have e := Mk.bits_mask h h2
  rw [← e]
  exact Mk.bits_len _ _
theorem SpAt.notin {H : Hp} {sp gr p : Addr} (h : SpAt H sp gr) (hp : H p = none) : p ∉ [sp, gr] := fun e => by
  obtain ⟨_, xs, e2⟩ := h.ls e
  rw [hp] at e2
  cases e2
def spSome (K : PySem.W.Frag) : Sp := fun vs H Q _ => ∃ (sp gr : Addr) (l : V) (fs : List Int) (bs : List (Nat × Nat)), vs = [.ref sp, l] ∧ SpAt H sp gr ∧ Dp K H l (landD fs bs) ∧ 0 < fs.length ∧ fs.length ≤ 12 ∧
  ∀ (q : Addr) (ps : List Nat) H', ExtS [sp, gr] H H' → SpAt H' sp gr → H q = none → H' q = some (.tup (vsN ps)) → ps ≠ [] → ps.Pairwise (· < ·) → (∀ x ∈ ps, x < fs.length) → Q (.ref q) H'
theorem sc_law_some : FnScope ["spring", "land", "found", "k"] ["spring", "land"] (defScope st__law_some) := ⟨rfl, rfl, rfl, by decide +kernel, rfl, by decide +kernel, by decide +kernel⟩
theorem ok_law_some {f : Addr} {fd : FuncData} (F : Fun K "_law_some" "_law_some" st__law_some f fd) (B : Bl mg) (c1 : Cal P w K mg base 1 "_law_drop" ["spring", "many"] (spDrop K)) : FnOk P w K mg base CX0 2 f fd ["spring", "land"] (spSome K) := by
  refine F.ok sc_law_some (fun vs H Q E h => ?_) (fun cdv A outer s H vs Q E hr h => ?_)
  · obtain ⟨sp, gr, l, fs, bs, rfl, _⟩ := h
    rfl
  · obtain ⟨sp, gr, l, fs, bs, rfl, S, hl, hn0, hn, k⟩ := h
    refine ⟨_, pss_cons (ps_set (i := 2) sc_law_some.nd rfl (Or.inl rfl) (pe_tupleOf rfl B.tuple
        (pe_lc (own := [("k", 3)]) (g := gName 3) (by rfl) sc_law_some.nd (pi_range1 rfl B.range (pa_cons (pe_callB call_len (by rfl) B.len PySem.boot_len (pa_cons (pe_ix ix_tup (pv 1) pe_int (fun _ _ => rfl)) pa_nil)) pa_nil))
          (blkOk_by (own := [("k", 3)]) (N := ["spring", "land", "found", "k"]) (sc := defScope st__law_some) (by decide +kernel)) (fun _ _ _ _ _ => pg_name (i := 3) sc_law_some.nd rfl (Or.inl rfl))
          (fun _ _ _ _ _ => pts_one (pt_cmpR op_gt (pe_cal c1 (hr.mono (by decide)) rfl (pa_cons (pv 0) (pa_cons pe_int pa_nil))) pe_int (nomark _)))
          (fun _ _ _ _ _ => pv 3))))
      (pss_one (ps_ret (pe_ifExp (pt_cmpR (op_neD hr.units) (pv 2) (pe_tup pa_nil) (nomark _)) (pv 2)
        (pe_tup (pa_cons (pe_cal c1 (hr.mono (by decide)) rfl (pa_cons (pv 0) (pa_cons (pe_callB call_len (by rfl) B.len PySem.boot_len (pa_cons (pe_ix ix_tup (pv 1) pe_int (fun _ _ => rfl)) pa_nil)) pa_nil))) pa_nil))))), ?_⟩
    obtain ⟨a, af, vb, rfl, h1, h2, h3⟩ := dp_land hl
    refine ⟨_, rfl, a, _, _, _, rfl, rfl, h1, atI_nat (j := 0) rfl, _, fs.length, rfl, .inr ⟨_, h2, by simp⟩, _, rfl, by omega, by omega, fun D hD => ?_⟩
    have hDs := S.notin hD
    have S1 : ∀ o, SpAt (upd H D o) sp gr := fun o => S.ext (.new hD)
    refine lc_range (lo := 0) (n := (fs.length : Int).toNat) (fun i H2 => ∃ ps : List Nat, H2 D = some (.lst (vsN ps)) ∧ ps.Pairwise (· < ·) ∧ (∀ x ∈ ps, x < i) ∧ SpAt H2 sp gr ∧ ExtS [sp, gr] H H2) ⟨[], upd_same, .nil, (fun x hx => by cases hx), S1 _, .new hD⟩ (fun i H2 hi ⟨ps, e, ha, hlt, S2, x2⟩ => ?_) fun H2 ⟨ps, e, ha, hlt, S2, x2⟩ => ?_
    · rw [Int.toNat_natCast] at hi
      refine ⟨rfl, _, rfl, sp, gr, 3, rfl, S2, by decide, by decide, fun n H3 hn3 x3 S3 => ?_⟩
      have e3 := x3.lst hDs e
      refine ⟨_, _, rfl, rfl, _, rfl, ?_⟩
      refine ite2 (fun _ => ?_) (fun _ => ?_)
      · have := asc_len ha hlt
        refine ⟨_, rfl, _, e3, by rw [vsN_len]; exact small1000 (by omega), ps ++ [i], ?_, asc_snoc ha hlt, fun x hx => ?_, S3.upd (fun z => hDs (by simp [z])) (fun z => hDs (by simp [z])), (x2.trans x3).write (.inl hD)⟩
        · rw [upd_same]
          show _ = some (HO.lst (List.map _ (_ ++ _)))
          rw [List.map_append, Int.zero_add]
          rfl
        · rcases List.mem_append.mp hx with z | z
          · have := hlt x z; omega
          · rw [List.mem_singleton.mp z]; omega
      · exact ⟨ps, e3, ha, fun x hx => by have := hlt x hx; omega, S3, x2.trans x3⟩
    · rw [Int.toNat_natCast] at hlt
      refine .inl ⟨D, _, rfl, SqL.of e, fun q hq => ?_⟩
      have x3 : ExtS [sp, gr] H (upd H2 q (.tup (vsN ps))) := x2.trans (.new hq)
      have S3 : SpAt (upd H2 q (.tup (vsN ps))) sp gr := S2.ext (.new hq)
      have e3 : (upd H2 q (.tup (vsN ps))) q = some (.tup (vsN ps)) := upd_same
      have hqf := x2.free hq
      generalize upd H2 q (.tup (vsN ps)) = H3 at x3 S3 e3 ⊢
      refine ⟨_, rfl, Nat.zero_le _, fun t ht => ?_⟩
      have hqt : q ≠ t := ne_of_none e3 ht
      refine ⟨lotD ps, .tuple [], dp_lotT (SqT.of (by rw [upd_ne hqt]; exact e3)), .tup (SqT.of upd_same) .nil, ?_, (Sh.tup (n := 0) (fun d hd => by cases hd)).shaped (by decide), _, rfl, ?_⟩
      · have := (Sh.intsT (n := 0) (ps.map fun (p : Nat) => (p : Int))).shaped (by decide)
        rw [List.map_map] at this
        exact this
      have x4 := x3.trans (ExtS.new (S := [sp, gr]) (o := .tup []) ht)
      have S4 : SpAt (upd H3 t (.tup [])) sp gr := S3.ext (.new ht)
      have e4 : (upd H3 t (.tup [])) q = some (.tup (vsN ps)) := by rw [upd_ne hqt]; exact e3
      show if (!PyData.eqv (.tuple _) (.tuple [])) = true then _ else _
      rw [eqv_nilT]
      generalize upd H3 t (.tup []) = H4 at x4 S4 e4 ⊢
      cases ps with
      | cons p r => exact iteT ⟨_, rfl, k q (p :: r) H4 x4 S4 hqf e4 (fun z => nomatch z) ha hlt⟩
      | nil =>
        refine iteF ?_
        refine ⟨_, rfl, _, rfl, a, _, _, _, rfl, rfl, x4.sqT h1, atI_nat (j := 0) rfl, _, fs.length, rfl, .inr ⟨_, x4.sqT h2, by simp⟩, sp, gr, fs.length, rfl, S4, hn0, by omega, fun n H5 hn5 x5 S5 => ⟨by show 1 ≤ sizeLine; decide, fun r hr0 => ?_⟩⟩
        have x6 := x4.trans x5
        exact k r [n] _ (x6.trans (.new hr0)) (S5.ext (.new hr0)) (x6.free hr0) upd_same (fun z => nomatch z) (by simp) fun x hx => by rw [List.mem_singleton.mp hx]; exact hn5
end
end Wd

set_option Elab.async false
set_option linter.all false
set_option maxRecDepth 100000
set_option maxHeartbeats 4000000
namespace Wd
open PySem PySem.Spec PyProof.Rows L2 Bx Gx














































section
variable {P : Program} {w : World} {K : PySem.W.Frag} {mg : Str → Option Value} {base : Heap}
/-! ### alike -/
def tyName : PyData → String
  | .none => "NoneType"
  | .bool _ => "bool"
  | .int _ => "int"
  | .str _ => "str"
  | .list _ => "list"
  | .tuple _ => "tuple"
  | _ => "dict"
theorem tyX_dp {H : Hp} {v : V} {d : PyData} (h : Dp K H v d) : TyX K H v (.type (tyName d)) ∧ tyName d ∈ ["NoneType", "bool", "int", "str", "list", "tuple"] := by
  cases h with
  | non => exact ⟨.base .non, by simp [tyName]⟩
  | bl b => exact ⟨.base (.bl b), by simp [tyName]⟩
  | int i => exact ⟨.base (.int i), by simp [tyName]⟩
  | str x => exact ⟨.base (.str x), by simp [tyName]⟩
  | lst h _ =>
    refine ⟨?_, by simp [tyName]⟩
    rcases h with (h | ⟨o, h⟩) | ⟨o, _, _, h1, h2, _⟩
    · exact .base (.lst h)
    · exact .base (.frz h)
    · exact .kList h1 h2
  | tup h _ =>
    refine ⟨?_, by simp [tyName]⟩
    rcases h with (h | ⟨o, h⟩) | ⟨o, _, _, h1, h2, _⟩
    · exact .base (.tup h)
    · exact .fTuple h
    · exact .kTuple h1 h2
def kindsOf (T : String) : List Bool := [decide (T = "bool"), decide (T = "int" ∨ T = "bool"), decide (T = "str"), decide (T = "tuple"), decide (T = "list"), decide (T = "NoneType")]
theorem kit_in (T U : String) (hT : T ∈ ["NoneType", "bool", "int", "str", "list", "tuple"]) (hU : U ∈ ["bool", "int", "str", "list", "tuple"]) : PySem.W.kitOne K (.type T) (.type U) = some (decide (T = U ∨ (T = "bool" ∧ U = "int"))) := by
  simp only [List.mem_cons, List.mem_nil_iff, or_false] at hT hU
  rcases hT with rfl | rfl | rfl | rfl | rfl | rfl <;> rcases hU with rfl | rfl | rfl | rfl | rfl <;> exact kit_ty (by decide +kernel)
def spKinds (K : PySem.W.Frag) : Sp := fun vs H Q _ => ∃ (v : V) (d : PyData), vs = [v] ∧ Dp K H v d ∧ ∀ q H', Ext H H' → H q = none → H' q = some (.lst ((kindsOf (tyName d)).map V.bl)) → Q (.ref q) H'
end
section
variable {P : Program} {w : World} {K : PySem.W.Frag} {mg : Str → Option Value} {base : Heap}
theorem seq_eq {d : PyData} {ds ds' : List PyData} (h : d = .list ds ∨ d = .tuple ds) (h' : d = .list ds' ∨ d = .tuple ds') : ds' = ds := by
  rcases h with rfl | rfl <;> rcases h' with e | e <;> cases e <;> rfl
theorem canLay_get : ∀ {ds : List PyData}, PyData.canLayAll0 ds = true → ∀ d ∈ ds, d.canLay0 = true
  | [], _, d, hd => by cases hd
  | e :: ds, h, d, hd => by
    simp only [PyData.canLayAll0, Bool.and_eq_true] at h
    rcases List.mem_cons.mp hd with z | z
    · rw [z]; exact h.1
    · exact canLay_get h.2 d z
theorem depth_get : ∀ {ds : List PyData} {n : Nat}, PyData.depthAll ds ≤ n → ∀ d ∈ ds, d.depth ≤ n
  | [], _, _, d, hd => by cases hd
  | e :: ds, n, h, d, hd => by
    simp only [PyData.depthAll] at h
    rcases List.mem_cons.mp hd with z | z
    · rw [z]; omega
    · exact depth_get (by omega) d z
theorem rix_of {H : Hp} {a : Addr} {xs : List V} {i : Nat} {v : V} {Q : VK} (h : SqL K H a xs ∨ SqT K H a xs) (e : xs[i]? = some v) (q : Q v H) : rIx K (.ref a) (.int (i : Int)) H Q := by
  rcases h with h | h
  · exact .inl ⟨a, xs, i, v, rfl, rfl, h, atI_nat e, q⟩
  · exact .inr (.inl ⟨a, xs, i, v, rfl, rfl, h, atI_nat e, q⟩)
theorem ix_seqK {X : Cx} {K : PySem.W.Frag} (h : X.K = K) : IxR X (rIx K) := h ▸ ix_seq
mutual
/-- data whose lists and tuples are short -/
def smD : PyData → Bool
  | .list ds => decide (ds.length ≤ 500) && smDs ds
  | .tuple ds => decide (ds.length ≤ 500) && smDs ds
  | _ => true
def smDs : List PyData → Bool
  | [] => true
  | d :: ds => smD d && smDs ds
end
theorem smD_seq {d : PyData} {ds : List PyData} (h : d = .list ds ∨ d = .tuple ds) (hs : smD d = true) : ds.length ≤ 500 ∧ smDs ds = true := by
  rcases h with rfl | rfl <;> simpa [smD] using hs
theorem smDs_get : ∀ {ds : List PyData}, smDs ds = true → ∀ d ∈ ds, smD d = true
  | [], _, d, hd => by cases hd
  | e :: ds, h, d, hd => by
    simp only [smDs, Bool.and_eq_true] at h
    rcases List.mem_cons.mp hd with z | z
    · rw [z]; exact h.1
    · exact smDs_get h.2 d z
def spAlike (K : PySem.W.Frag) (r : Nat) : Sp := fun vs H Q _ => ∃ (v u : V) (d : PyData), vs = [v, u] ∧ Dp K H v d ∧ Dp K H u d ∧ d.canLay0 = true ∧ smD d = true ∧ d.depth < r ∧ ∀ H', Ext H H' → Q (.bl true) H'
theorem dp_seq {H : Hp} {v : V} {d : PyData} (h : Dp K H v d) (ht : tyName d = "tuple" ∨ tyName d = "list") : ∃ a xs ds, v = .ref a ∧ (SqL K H a xs ∨ SqT K H a xs) ∧ DpAll K H xs ds ∧ d.depth = PyData.depthAll ds + 1 ∧ (d.canLay0 = true → PyData.canLayAll0 ds = true) ∧ (d = .list ds ∨ d = .tuple ds) := by
  cases h with
  | lst h hs => exact ⟨_, _, _, rfl, .inl h, hs, by simp [PyData.depth], by simp [PyData.canLay0], .inl rfl⟩
  | tup h hs => exact ⟨_, _, _, rfl, .inr h, hs, by simp [PyData.depth], by simp [PyData.canLay0], .inr rfl⟩
  | non => simp [tyName] at ht
  | bl => simp [tyName] at ht
  | int => simp [tyName] at ht
  | str => simp [tyName] at ht
theorem kit_two (T : String) (hT : T ∈ ["NoneType", "bool", "int", "str", "list", "tuple"]) : PySem.W.kitAny K (.type T) [.type "tuple", .type "list"] = some (decide (T = "tuple" ∨ T = "list")) := by
  unfold PySem.W.kitAny
  rw [kit_in T "tuple" hT (by simp)]
  unfold PySem.W.kitAny
  rw [kit_in T "list" hT (by simp)]
  by_cases h1 : T = "tuple"
  · subst h1; rfl
  · by_cases h2 : T = "list"
    · subst h2; rfl
    · simp only [h1, h2, false_or, or_self, decide_false, show ¬ ("tuple" = "int") by decide, show ¬ ("list" = "int") by decide, and_false]
      rfl
end
end Wd

set_option Elab.async false
set_option linter.all false
set_option maxRecDepth 100000
set_option maxHeartbeats 4000000
namespace Wd
open PySem PySem.Spec PyProof.Rows L2 Bx Gx














































section
variable {P : Program} {w : World} {K : PySem.W.Frag} {mg : Str → Option Value} {base : Heap}
/-! ### a drawn land -/
theorem lc_keysT {d : Addr} {o : Obj} {kvs : List (List L2.Key × V)} {g : TG} {tt : TT} {te : TE} {vs : List Nat} {σ : L2.St} {H1 : Hp} {D : Addr} {Qd : Hp → Prop} (Pv : Nat → Hp → Prop)
    (h0 : Pv 0 (upd H1 D (.lst []))) (hl : ∀ i H, i ≤ kvs.length → Pv i H → H d = some (.frz o (.dT kvs)))
    (hs : ∀ i k v q H, kvs[i]? = some (k, v) → H q = some (.tup (k.map kV)) → Pv i H → g (.ref q) (wipe σ vs) H fun σ2 H2 => wipe σ2 vs = wipe σ vs ∧ tt σ2 H2 fun b H3 => if b = true then te σ2 H3 fun y H4 => ∃ acc, H4 D = some (.lst acc) ∧ acc.length < sizeLine ∧ Pv (i + 1) (upd H4 D (.lst (acc ++ [y]))) else Pv (i + 1) H3)
    (hd : ∀ H, Pv kvs.length H → Qd H) :
    ∃ W : Nat → Nat → Hp → Prop, (∃ m, W 0 m (upd H1 D (.lst []))) ∧ ∀ i m H, W i m H → ((Itkt d o kvs).stop i H ∧ Qd H) ∨ ((Itkt d o kvs).go i H ∧ ∃ Nx : Hp → Prop, (∀ H', Nx H' → ∃ m', m' < m ∧ W (i + 1) m' H') ∧
      ∀ x H', (Itkt d o kvs).yld i H x H' → g x (wipe σ vs) H' fun σ2 H2 => wipe σ2 vs = wipe σ vs ∧ tt σ2 H2 fun b H3 => if b = true then te σ2 H3 fun y H4 => ∃ acc, H4 D = some (.lst acc) ∧ acc.length < sizeLine ∧ Nx (upd H4 D (.lst (acc ++ [y]))) else Nx H3) := by
  refine ⟨fun i m H => Pv i H ∧ i ≤ kvs.length ∧ m = kvs.length - i, ⟨_, h0, Nat.zero_le _, rfl⟩, fun i m H ⟨hp, hi, hm⟩ => ?_⟩
  by_cases e : i = kvs.length
  · subst e
    exact .inl ⟨⟨hl _ H (Nat.le_refl _) hp, Nat.le_refl _⟩, hd H hp⟩
  · refine .inr ⟨⟨hl i H hi hp, by omega⟩, fun H' => Pv (i + 1) H', fun H' h => ⟨kvs.length - (i + 1), by omega, h, by omega, rfl⟩, ?_⟩
    rintro x H' ⟨rfl, k, v, q, hk, rfl, hq⟩
    exact hs i k v q H' hk hq hp
abbrev keyP (a b : Nat) : List L2.Key := [.inl (a : Int), .inl (b : Int)]
structure Bd (n : Nat) (kvs : List (List L2.Key × V)) : Prop where
  nd : (kvs.map (·.1)).Nodup
  ok : ∀ kv, kv ∈ kvs → ∃ a b : Nat, kv.1 = keyP a b ∧ a < b ∧ b < n
theorem Bd.nil (n : Nat) : Bd n [] := ⟨by simp, fun _ h => nomatch h⟩
theorem Bd.put {n : Nat} {kvs : List (List L2.Key × V)} (h : Bd n kvs) {a b : Nat} (hab : a < b) (hb : b < n) (v : V) : Bd n (putK kvs (keyP a b) v) := by
  unfold putK
  by_cases e : (kvs.any fun kv => decide (kv.1 = keyP a b)) = true
  · rw [if_pos e]
    have ek : (kvs.map fun kv => if kv.1 = keyP a b then (kv.1, v) else kv).map (·.1) = kvs.map (·.1) := by
      rw [List.map_map]
      refine List.map_congr_left fun kv _ => ?_
      show (if kv.1 = keyP a b then (kv.1, v) else kv).1 = kv.1
      split <;> rfl
    refine ⟨by rw [ek]; exact h.nd, fun kv hkv => ?_⟩
    obtain ⟨kv0, h0, rfl⟩ := List.mem_map.mp hkv
    obtain ⟨x, y, e1, e2, e3⟩ := h.ok kv0 h0
    refine ⟨x, y, ?_, e2, e3⟩
    split
    · exact e1
    · exact e1
  · rw [if_neg e]
    refine ⟨?_, fun kv hkv => ?_⟩
    · rw [List.map_append]
      refine List.nodup_append.mpr ⟨h.nd, by simp, fun x hx y hy exy => ?_⟩
      rw [List.map_cons, List.map_nil, List.mem_singleton] at hy
      obtain ⟨kv, hkv, rfl⟩ := List.mem_map.mp hx
      refine e (List.any_eq_true.mpr ⟨kv, hkv, decide_eq_true ?_⟩)
      rw [exy, hy]
    · rcases List.mem_append.mp hkv with z | z
      · exact h.ok kv z
      · rw [List.mem_singleton.mp z]
        exact ⟨a, b, rfl, hab, hb⟩
theorem Bd.len {n : Nat} {kvs : List (List L2.Key × V)} (h : Bd n kvs) (hn : n ≤ 12) : kvs.length ≤ 169 := by
  have key := Mk.nodup_le 169 (kvs.map fun kv => match kv.1 with
    | [.inl a, .inl b] => a.toNat * 13 + b.toNat
    | _ => 0) ?_ ?_
  · rw [List.length_map] at key
    exact key
  · have hnd := h.nd
    rw [List.nodup_iff_pairwise_ne, List.pairwise_map] at hnd ⊢
    refine hnd.imp_of_mem fun {x y} hx hy hne => ?_
    obtain ⟨a, b, e1, h1, h2⟩ := h.ok x hx
    obtain ⟨c, d, e2, h3, h4⟩ := h.ok y hy
    rw [e1, e2]
    rw [e1, e2] at hne
    show a * 13 + b ≠ c * 13 + d
    intro z
    apply hne
    have : a = c ∧ b = d := by omega
    rw [this.1, this.2]
  · intro x hx
    obtain ⟨kv, hkv, rfl⟩ := List.mem_map.mp hx
    obtain ⟨a, b, e1, h1, h2⟩ := h.ok kv hkv
    rw [e1]
    show a * 13 + b < 169
    omega
structure LdSt (H : Hp) (sp gr fo b : Addr) (n : Nat) (fs : List Int) (H2 : Hp) : Prop where
  d : ∃ kvs, H2 b = some (.dT kvs) ∧ Bd n kvs
  f : H2 fo = some (.tup (fs.map V.int))
  s : SpAt H2 sp gr
  x : ExtS [sp, gr] H H2
theorem LdSt.drop {H H2 H3 : Hp} {sp gr fo b : Addr} {n : Nat} {fs : List Int} (h : LdSt H sp gr fo b n fs H2) (x : ExtS [sp, gr] H2 H3) (s : SpAt H3 sp gr) : LdSt H sp gr fo b n fs H3 :=
  ⟨let ⟨kvs, e, hb⟩ := h.d; ⟨kvs, x.dT e, hb⟩, x.tup h.f, s, h.x.trans x⟩
theorem LdSt.new {H H2 : Hp} {sp gr fo b t : Addr} {o : HO} {n : Nat} {fs : List Int} (h : LdSt H sp gr fo b n fs H2) (ht : H2 t = none) : LdSt H sp gr fo b n fs (upd H2 t o) :=
  h.drop (.new ht) (h.s.ext (.new ht))
theorem LdSt.put {H H2 : Hp} {sp gr fo b t : Addr} {n : Nat} {fs : List Int} (h : LdSt H sp gr fo b n fs H2) (hb0 : H b = none) (hs : b ∉ [sp, gr]) (hn : n ≤ 12) {a c : Nat} (hac : a < c) (hc : c < n) (ht : H2 t = some (.tup [.int (a : Int), .int (c : Int)])) :
    ∃ H3, DPut H2 b (.ref t) (.bl true) H3 ∧ LdSt H sp gr fo b n fs H3 := by
  obtain ⟨kvs, e, hb⟩ := h.d
  refine ⟨upd H2 b (.dT (putK kvs (keyP a c) (.bl true))), .inr ⟨kvs, keyP a c, t, e, rfl, ht, small1000 (by have := hb.len hn; omega), rfl⟩, ⟨_, upd_same, hb.put hac hc _⟩, ?_, h.s.upd (fun z => hs (by simp [z])) (fun z => hs (by simp [z])), h.x.write (.inl hb0)⟩
  have hne : fo ≠ b := fun z => by
    have h1 := h.f
    rw [z, e] at h1
    cases h1
  rw [upd_ne hne]
  exact h.f
end
section
variable {P : Program} {w : World} {K : PySem.W.Frag} {mg : Str → Option Value} {base : Heap}
theorem two_sorted {ns : List Int} {x y : Int} (h : ns.Perm [x, y]) (hs : ns.Pairwise (· ≤ ·)) : ns = [min x y, max x y] := by
  have hl := h.length_eq
  match ns, hl with
  | [u, v], _ =>
    have huv : u ≤ v := by
      rw [List.pairwise_cons] at hs
      exact hs.1 v (by simp)
    have hu : u ∈ [x, y] := h.mem_iff.mp (by simp)
    have hc : (u = x ∧ v = y) ∨ (u = y ∧ v = x) := by
      rcases List.mem_cons.mp hu with e | e
      · subst e
        exact .inl ⟨rfl, by simpa using h.cons_inv⟩
      · have e := List.mem_singleton.mp e
        subst e
        have h2 : [u, v].Perm [u, x] := h.trans (List.Perm.swap u x [])
        exact .inr ⟨rfl, by simpa using h2.cons_inv⟩
    rcases hc with ⟨e1, e2⟩ | ⟨e1, e2⟩
    · rw [← e1, ← e2]
      congr 1
      · omega
      · congr 1; omega
    · rw [← e1, ← e2]
      congr 1
      · omega
      · congr 1; omega
/-- refs to pairs -/
inductive Pa (H : Hp) : List V → List (Nat × Nat) → Prop
  | nil : Pa H [] []
  | cons {t : Addr} {p : Nat × Nat} {vs : List V} {ps : List (Nat × Nat)} : H t = some (.tup [.int (p.1 : Int), .int (p.2 : Int)]) → Pa H vs ps → Pa H (.ref t :: vs) (p :: ps)
theorem Pa.mono {H H' : Hp} (k : ∀ t xs, H t = some (.tup xs) → H' t = some (.tup xs)) {vs : List V} {ps : List (Nat × Nat)} (h : Pa H vs ps) : Pa H' vs ps := by
  induction h with
  | nil => exact .nil
  | cons e _ ih => exact .cons (k _ _ e) ih
theorem Pa.snoc {H : Hp} {vs : List V} {ps : List (Nat × Nat)} (h : Pa H vs ps) {t : Addr} {p : Nat × Nat} (e : H t = some (.tup [.int (p.1 : Int), .int (p.2 : Int)])) : Pa H (vs ++ [.ref t]) (ps ++ [p]) := by
  induction h with
  | nil => exact .cons e .nil
  | cons e2 _ ih => exact .cons e2 ih
theorem Pa.len {H : Hp} {vs : List V} {ps : List (Nat × Nat)} (h : Pa H vs ps) : vs.length = ps.length := by
  induction h with
  | nil => rfl
  | cons _ _ ih => simp [ih]
theorem Pa.dp {H : Hp} {vs : List V} {ps : List (Nat × Nat)} (h : Pa H vs ps) : DpAll K H vs (ps.map fun (b : Nat × Nat) => .tuple [.int (b.1 : Int), .int (b.2 : Int)]) := by
  induction h with
  | nil => exact .nil
  | cons e _ ih => exact .cons (.tup (SqT.of e) (.cons (.int _) (.cons (.int _) .nil))) ih
theorem Pa.perm {H : Hp} {vs us : List V} (hp : vs.Perm us) : ∀ {ps : List (Nat × Nat)}, Pa H vs ps → ∃ bs, Pa H us bs ∧ ps.Perm bs := by
  induction hp with
  | nil => intro ps h; exact ⟨ps, h, .refl _⟩
  | cons x _ ih =>
    intro ps h
    cases h with
    | cons e h2 =>
      obtain ⟨bs, h3, h4⟩ := ih h2
      exact ⟨_, .cons e h3, h4.cons _⟩
  | swap x y l =>
    intro ps h
    cases h with
    | cons e h2 =>
      cases h2 with
      | cons e' h3 => exact ⟨_, .cons e' (.cons e h3), .swap _ _ _⟩
  | trans _ _ ih1 ih2 =>
    intro ps h
    obtain ⟨bs, h1, h2⟩ := ih1 h
    obtain ⟨cs, h3, h4⟩ := ih2 h1
    exact ⟨cs, h3, h2.trans h4⟩
theorem Pa.mem {H : Hp} {vs : List V} {ps : List (Nat × Nat)} (h : Pa H vs ps) {v : V} (hv : v ∈ vs) : ∃ t p, v = .ref t ∧ p ∈ ps ∧ H t = some (.tup [.int (p.1 : Int), .int (p.2 : Int)]) := by
  induction h with
  | nil => cases hv
  | cons e _ ih =>
    rcases List.mem_cons.mp hv with z | z
    · exact ⟨_, _, z, by simp, e⟩
    · obtain ⟨t, p, h1, h2, h3⟩ := ih z
      exact ⟨t, p, h1, List.mem_cons_of_mem _ h2, h3⟩
def kOf (H : Hp) : V → Int × Int
  | .ref t => match H t with
    | some (.tup [.int i, .int j]) => (i, j)
    | _ => (0, 0)
  | _ => (0, 0)
theorem Pa.asc {H : Hp} {vs : List V} {ps : List (Nat × Nat)} (h : Pa H vs ps) (hs : SrtO.Srtd (L2.ltP (kOf H)) vs) (hn : ps.Nodup) : ps.Pairwise ltP := by
  induction h with
  | nil => exact .nil
  | @cons t p vs ps e h2 ih =>
    rw [SrtO.Srtd, List.pairwise_cons] at hs
    rw [List.nodup_cons] at hn
    rw [List.pairwise_cons]
    refine ⟨fun q hq => ?_, ih hs.2 hn.2⟩
    obtain ⟨v, hv, t2, e1, e2⟩ : ∃ v ∈ vs, ∃ t2, v = .ref t2 ∧ H t2 = some (.tup [.int (q.1 : Int), .int (q.2 : Int)]) := by
      clear ih hs hn
      induction h2 with
      | nil => cases hq
      | cons e' _ ih2 =>
        rcases List.mem_cons.mp hq with z | z
        · rw [z]; exact ⟨_, List.mem_cons_self, _, rfl, e'⟩
        · obtain ⟨v, hv, r⟩ := ih2 z
          exact ⟨v, List.mem_cons_of_mem _ hv, r⟩
    have h3 := hs.1 v hv
    rw [e1] at h3
    have k1 : kOf H (.ref t) = ((p.1 : Int), (p.2 : Int)) := by
      show (match H t with
        | some (.tup [.int i, .int j]) => (i, j)
        | _ => (0, 0)) = _
      rw [e]
    have k2 : kOf H (.ref t2) = ((q.1 : Int), (q.2 : Int)) := by
      show (match H t2 with
        | some (.tup [.int i, .int j]) => (i, j)
        | _ => (0, 0)) = _
      rw [e2]
    have h4 : SrtO.lexB (kOf H (.ref t2)) (kOf H (.ref t)) = false := h3
    rw [k1, k2] at h4
    have hne : q ≠ p := fun z => hn.1 (z ▸ hq)
    have hne2 : ¬ (q.1 = p.1 ∧ q.2 = p.2) := fun z => hne (Prod.ext z.1 z.2)
    show p.1 < q.1 ∨ (p.1 = q.1 ∧ p.2 < q.2)
    unfold SrtO.lexB at h4
    by_cases z : q.1 = p.1
    · rw [if_pos (show (q.1 : Int) = (p.1 : Int) by omega), decide_eq_false_iff_not] at h4
      omega
    · rw [if_neg (show ¬ (q.1 : Int) = (p.1 : Int) by omega), decide_eq_false_iff_not] at h4
      omega
/-- a key led along an order -/
def prK (os : List Nat) : List L2.Key → Nat × Nat
  | [.inl a, .inl c] => (min (os.getD a.toNat 0) (os.getD c.toNat 0), max (os.getD a.toNat 0) (os.getD c.toNat 0))
  | _ => (0, 0)
theorem prK_keyP (os : List Nat) (a c : Nat) : prK os (keyP a c) = (min (os.getD a 0) (os.getD c 0), max (os.getD a 0) (os.getD c 0)) := rfl
theorem os_get {os : List Nat} {n : Nat} (h : os.Perm (List.range n)) : (∀ a, a < n → os.getD a 0 < n) ∧ ∀ a c, a < n → c < n → os.getD a 0 = os.getD c 0 → a = c := by
  have hl : os.length = n := by rw [h.length_eq, List.length_range]
  have hnd : os.Nodup := h.nodup_iff.mpr List.nodup_range
  have hg : ∀ a (ha : a < n), os.getD a 0 = os[a]'(by omega) := fun a ha => by
    rw [List.getD_eq_getElem?_getD, List.getElem?_eq_getElem (by omega)]
    rfl
  refine ⟨fun a ha => ?_, fun a c ha hc e => ?_⟩
  · rw [hg a ha]
    exact List.mem_range.mp (h.mem_iff.mp (List.getElem_mem _))
  · rw [hg a ha, hg c hc] at e
    exact (List.getElem_inj hnd).mp e
theorem prK_ok {os : List Nat} {n : Nat} (h : os.Perm (List.range n)) {kvs : List (List L2.Key × V)} (hb : Bd n kvs) : (kvs.map fun kv => prK os kv.1).Nodup ∧ ∀ p ∈ kvs.map (fun kv => prK os kv.1), p.1 < p.2 ∧ p.2 < n := by
  obtain ⟨h1, h2⟩ := os_get h
  refine ⟨?_, fun p hp => ?_⟩
  · have hnd := hb.nd
    rw [List.nodup_iff_pairwise_ne, List.pairwise_map] at hnd ⊢
    refine hnd.imp_of_mem fun {x y} hx hy hne => ?_
    obtain ⟨a, b, e1, h3, h4⟩ := hb.ok x hx
    obtain ⟨c, d, e2, h5, h6⟩ := hb.ok y hy
    rw [e1, e2] at hne ⊢
    rw [prK_keyP, prK_keyP]
    intro z
    apply hne
    injection z with z1 z2
    have i1 := h2 a c (by omega) (by omega)
    have i2 := h2 a d (by omega) (by omega)
    have i3 := h2 b c (by omega) (by omega)
    have i4 := h2 b d (by omega) (by omega)
    have : a = c ∧ b = d := by omega
    rw [this.1, this.2]
  · obtain ⟨kv, hkv, rfl⟩ := List.mem_map.mp hp
    obtain ⟨a, b, e1, h3, h4⟩ := hb.ok kv hkv
    rw [e1, prK_keyP]
    have i1 := h1 a (by omega)
    have i2 := h1 b (by omega)
    have i3 := h2 a b (by omega) (by omega)
    show min _ _ < max _ _ ∧ max _ _ < n
    omega
def spLand (K : PySem.W.Frag) : Sp := fun vs H Q _ => ∃ (sp gr : Addr) (places : Nat), vs = [.ref sp, .int (places : Int)] ∧ SpAt H sp gr ∧ 2 ≤ places ∧ places ≤ 12 ∧
  ∀ q (fs : List Int) (bs : List (Nat × Nat)) H', ExtS [sp, gr] H H' → SpAt H' sp gr → H q = none → Dp K H' (.ref q) (landD fs bs) → LandOk fs bs → fs.length ≤ places → Q (.ref q) H'
abbrev ldN : List Str := ["spring", "places", "many", "shape", "bound", "k", "folk", "borders", "rarely", "j", "i", "order"]
theorem sc_law_land : FnScope ldN ["spring", "places"] (defScope st__law_land) := ⟨rfl, rfl, rfl, by decide +kernel, rfl, by decide +kernel, by decide +kernel⟩
theorem ok_law_land {f : Addr} {fd : FuncData} (F : Fun K "_law_land" "_law_land" st__law_land f fd) (B : Bl mg) (c1 : Cal P w K mg base 1 "_law_drop" ["spring", "many"] (spDrop K)) (c2 : Cal P w K mg base 2 "_law_order" ["spring", "many"] (spOrder K)) : FnOk P w K mg base CX0 3 f fd ["spring", "places"] (spLand K) := by
  refine F.ok sc_law_land (fun vs H Q E h => ?_) (fun cdv A outer s H vs Q E hr h => ?_)
  · obtain ⟨sp, gr, pl, rfl, _⟩ := h
    rfl
  · obtain ⟨sp, gr, pl, rfl, S, hp2, hp12, k⟩ := h
    have hr1 := hr.mono (j := 1) (by decide)
    refine ⟨_, pss_cons (ps_par (i := 2) (j := 3) (by rfl) sc_law_land.nd rfl rfl (by decide) rfl rfl (pa_cons (pe_op op_add pe_int (pe_cal c1 hr1 rfl (pa_cons (pv 0) (pa_cons (pe_op op_sub (pv 1) pe_int) pa_nil)))) (pa_cons (pe_cal c1 hr1 rfl (pa_cons (pv 0) (pa_cons pe_int pa_nil))) pa_nil)) (by rfl))
      (pss_cons (ps_set (i := 4) sc_law_land.nd rfl (Or.inr rfl) (pe_ix ix_list (pe_lst (pa_cons pe_int (pa_cons pe_int (pa_cons pe_int (pa_cons pe_int pa_nil))))) (pe_cal c1 hr1 rfl (pa_cons (pv 0) (pa_cons pe_int pa_nil))) (fun _ _ => rfl)))
      (pss_cons (ps_par3 (i := 6) (j := 7) (l := 8) (by rfl) sc_law_land.nd rfl rfl rfl (by decide) (by decide) (by decide) rfl rfl rfl (pa_cons (pe_tupleOf rfl B.tuple
            (pe_lc (own := [("k", 5)]) (g := gName 5) (by rfl) sc_law_land.nd (pi_range1 rfl B.range (pa_cons (pv 2) pa_nil))
              (blkOk_by (own := [("k", 5)]) (N := ldN) (sc := defScope st__law_land) (by decide +kernel)) (fun _ _ _ _ _ => pg_name (i := 5) sc_law_land.nd rfl (Or.inl rfl))
              (fun _ _ _ _ _ => pts_nil) (fun _ _ _ _ _ => pe_cal c1 hr1 rfl (pa_cons (pv 0) (pa_cons (pv 4) pa_nil)))))
          (pa_cons pe_dnewT (pa_cons (pe_op op_add pe_int (pe_cal c1 hr1 rfl (pa_cons (pv 0) (pa_cons pe_int pa_nil)))) pa_nil))) (by rfl))
      (pss_cons (ps_for PassesOwn.never rfl (pi_range2 rfl B.range (pa_cons pe_int (pa_cons (pv 2) pa_nil))) (pg_name (i := 5) sc_law_land.nd rfl (Or.inl rfl))
        (pss_one (ps_if (pt_cmpR op_lt (pv 3) pe_int (nomark _))
          (pss_one (ps_dput (hu_of hr) (pv 7) (pe_tup (pa_cons (pe_op op_sub (pv 5) pe_int) (pa_cons (pv 5) pa_nil))) pe_bl rfl))
          (pss_one (ps_if (pt_cmpR op_eq (pv 3) pe_int (nomark _))
            (pss_one (ps_dput (hu_of hr) (pv 7) (pe_ifExp (pt_cmpR op_le (pe_op op_mul pe_int (pv 5)) (pv 2) (nomark _)) (pe_tup (pa_cons (pe_op op_sub (pv 5) pe_int) (pa_cons (pv 5) pa_nil))) (pe_tup (pa_cons (pe_op op_sub (pv 2) (pv 5)) (pa_cons (pv 5) pa_nil)))) pe_bl rfl))
            (pss_one (ps_if (pt_cmpR op_gt (pv 3) pe_int (nomark _))
              (pss_one (ps_dput (hu_of hr) (pv 7) (pe_tup (pa_cons (pe_cal c1 hr1 rfl (pa_cons (pv 0) (pa_cons (pv 5) pa_nil))) (pa_cons (pv 5) pa_nil))) pe_bl rfl))
              pss_nil)))))))
      (pss_cons (ps_if (PW.pt (pw_and (pt_cmpR op_eq (pv 3) pe_int (nomark _)) (pw_and1 (pt_cmpR op_gt (pv 2) pe_int (nomark _)))))
        (pss_one (ps_dput (hu_of hr) (pv 7) (pe_tup (pa_cons pe_int (pa_cons (pe_op op_sub (pv 2) pe_int) pa_nil))) pe_bl rfl)) pss_nil)
      (pss_cons (ps_for PassesOwn.never rfl (pi_range1 rfl B.range (pa_cons (pv 2) pa_nil)) (pg_name (i := 9) sc_law_land.nd rfl (Or.inl rfl))
        (pss_one (ps_for PassesOwn.never rfl (pi_range1 rfl B.range (pa_cons (pv 9) pa_nil)) (pg_name (i := 10) sc_law_land.nd rfl (Or.inl rfl))
          (pss_one (ps_if (PW.pt (pw_and (pt_cmpR op_gt (pv 3) pe_int (nomark _)) (pw_and1 (pt_cmpR op_eq (pe_cal c1 hr1 rfl (pa_cons (pv 0) (pa_cons (pe_op op_add (pv 8) pe_int) pa_nil))) pe_int (nomark _)))))
            (pss_one (ps_dput (hu_of hr) (pv 7) (pe_tup (pa_cons (pv 10) (pa_cons (pv 9) pa_nil))) pe_bl rfl)) pss_nil)))))
      (pss_cons (ps_set (i := 11) sc_law_land.nd rfl (Or.inr rfl) (pe_cal c2 hr rfl (pa_cons (pv 0) (pa_cons (pv 2) pa_nil))))
      (pss_one (ps_ret (pe_tup (pa_cons (pv 6) (pa_cons (pe_tupleOf rfl B.tuple (pe_callB cr_sortedPO (by rfl) B.sorted (by decide +kernel) (pa_cons
        (pe_lock (pe_lc (own := [("i", 10), ("j", 9)]) (g := L2.gTup K 2 (gCons (gName 10) (gCons (gName 9) gNil))) (by rfl) sc_law_land.nd (pi_keys (pv 7))
          (blkOk_by (own := [("i", 10), ("j", 9)]) (N := ldN) (sc := defScope st__law_land) (by decide +kernel))
          (fun _ _ _ _ _ => pg_tupK (K := K) rfl (by rfl) (pgs_cons (pg_name (i := 10) sc_law_land.nd rfl (Or.inl rfl)) (pgs_cons (pg_name (i := 9) sc_law_land.nd rfl (Or.inl rfl)) pgs_nil)))
          (fun _ _ _ _ _ => pts_nil)
          (fun _ _ _ _ _ => pe_tupleOfK (K := K) rfl rfl B.tuple (pe_callB (cr_sortedK (K := K) rfl) (by rfl) B.sorted (by decide +kernel) (pa_cons (pe_lst (pa_cons (pe_ix (ix_tupK (K := K) rfl) (pv 11) (pv 10) (fun _ _ => rfl)) (pa_cons (pe_ix (ix_tupK (K := K) rfl) (pv 11) (pv 9) (fun _ _ => rfl)) pa_nil))) pa_nil))))) pa_nil))) pa_nil))))))))))), ?_⟩
    -- many, shape
    have epl : (pl : Int) - 1 = ((pl - 1 : Nat) : Int) := by omega
    refine ⟨_, rfl, _, rfl, _, _, rfl, rfl, sp, gr, pl - 1, by show [V.ref sp, V.int ((pl : Int) - 1)] = _; rw [epl], S, by omega, by omega, fun n0 H1 hn0 x1 S1 => ?_⟩
    refine ⟨_, _, rfl, rfl, _, rfl, sp, gr, 10, rfl, S1, by decide, by decide, fun sh H2 hsh x2 S2 => ⟨_, _, rfl, ?_⟩⟩
    have x12 := x1.trans x2
    dsimp only [List.set, L2.start, List.map, List.length, List.replicate, List.append]
    rw [show (2 : Int) + (n0 : Int) = ((2 + n0 : Nat) : Int) from by omega]
    have hn12 : 2 + n0 ≤ 12 := by omega
    have hnpl : 2 + n0 ≤ pl := by omega
    have hn2 : 2 ≤ 2 + n0 := by omega
    generalize 2 + n0 = mn at hn12 hn2 hnpl ⊢
    -- bound
    refine ⟨by show 4 ≤ sizeLine; decide, fun l hl0 => ⟨_, rfl, sp, gr, 4, rfl, S2.ext (.new hl0), by decide, by decide, fun t4 H3 ht4 x3 S3 => ?_⟩⟩
    have hln := S2.notin hl0
    have hl3 := x3.lst hln (upd_same (H := H2) (a := l))
    obtain ⟨bd, hbd, hbd0, hbd1⟩ : ∃ bd : Nat, ([V.int 1, V.int 2, V.int 9, V.int 1000001] : List V)[t4]? = some (.int (bd : Int)) ∧ 0 < bd ∧ bd ≤ 1000001 := by
      match t4, ht4 with
      | 0, _ => exact ⟨1, rfl, by decide, by decide⟩
      | 1, _ => exact ⟨2, rfl, by decide, by decide⟩
      | 2, _ => exact ⟨9, rfl, by decide, by decide⟩
      | 3, _ => exact ⟨1000001, rfl, by decide, by decide⟩
    refine ⟨l, _, _, _, rfl, rfl, SqL.of hl3, atI_nat hbd, ?_⟩
    have x13 : ExtS [sp, gr] H H3 := (x12.trans (.new hl0)).trans x3
    dsimp only [gName, List.set]
    -- folk, borders, rarely
    refine ⟨_, rfl, _, rfl, by omega, by omega, fun D hD => ?_⟩
    have hDn := S3.notin hD
    refine lc_range (lo := 0) (n := (mn : Int).toNat) (fun i H4 => ∃ fs : List Int, H4 D = some (.lst (fs.map V.int)) ∧ fs.length = i ∧ (∀ z ∈ fs, 0 ≤ z ∧ z ≤ 1000000) ∧ SpAt H4 sp gr ∧ ExtS [sp, gr] H H4) ⟨[], upd_same, rfl, (fun z hz => by cases hz), S3.ext (.new hD), x13.trans (.new hD)⟩ (fun i H4 hi ⟨fs, e4, hfl, hfb, S4, x4⟩ => ?_) fun H4 ⟨fs, e4, hfl, hfb, S4, x4⟩ => ?_
    · rw [Int.toNat_natCast] at hi
      refine ⟨rfl, ?_⟩
      dsimp only [tYes]
      rw [if_pos rfl]
      refine ⟨_, rfl, _, rfl, sp, gr, bd, rfl, S4, hbd0, by omega, fun z H5 hz x5 S5 => ⟨_, x5.lst hDn e4, by rw [List.length_map]; exact small1000 (by omega), fs ++ [(z : Int)], ?_, by rw [List.length_append, hfl]; rfl, fun y hy => ?_, S5.upd (fun e => hDn (by simp [e])) (fun e => hDn (by simp [e])), (x4.trans x5).write (.inl (x13.free hD))⟩⟩
      · rw [upd_same, List.map_append]
        rfl
      · rcases List.mem_append.mp hy with h | h
        · exact hfb y h
        · rw [List.mem_singleton.mp h]; omega
    rw [Int.toNat_natCast] at hfl
    refine .inl ⟨D, _, rfl, SqL.of e4, fun fo hfo => fun b hb => ?_⟩
    have hfob : fo ≠ b := ne_of_none upd_same hb
    have hfo0 := x4.free hfo
    have S5 : SpAt (upd H4 fo (.tup (fs.map V.int))) sp gr := S4.ext (.new hfo)
    have x5 : ExtS [sp, gr] H (upd H4 fo (.tup (fs.map V.int))) := x4.trans (.new hfo)
    have hb0 := x5.free hb
    have hbn := S5.notin hb
    have L0 : LdSt H sp gr fo b mn fs (upd (upd H4 fo (.tup (fs.map V.int))) b (.dT [])) := ⟨⟨[], upd_same, .nil _⟩, by rw [upd_ne hfob]; exact upd_same, S5.ext (.new hb), x5.trans (.new hb)⟩
    generalize upd (upd H4 fo (.tup (fs.map V.int))) b (.dT []) = H6 at L0 ⊢
    refine ⟨_, rfl, sp, gr, 6, rfl, L0.s, by decide, by decide, fun ra H7 hra x7 S7 => ⟨_, _, rfl, rfl, _, _, _, rfl, ?_⟩⟩
    have L1 := L0.drop x7 S7
    clear L0
    dsimp only [List.set, wipe]
    rw [show (1 : Int) + (ra : Int) = ((1 + ra : Nat) : Int) from by omega]
    have hrr : 1 + ra ≤ 10 := by omega
    generalize 1 + ra = rr at hrr ⊢
    refine ⟨_, rfl, 1, (mn : Int), rfl, ⟨by omega, by omega, by omega, by omega⟩, for_range (lo := 1) (n := ((mn : Int) - 1).toNat) (fun i σ H8 => ∃ ok : Option V, σ = [some (.ref sp), some (.int (pl : Int)), some (.int (mn : Int)), some (.int (sh : Int)), some (.int (bd : Int)), ok, some (.ref fo), some (.ref b), some (.int (rr : Int)), none, none, none] ∧ LdSt H sp gr fo b mn fs H8)
      ⟨_, rfl, L1⟩ ?_ ?_⟩
    · rintro i σ H8 hi ⟨ok, rfl, L⟩
      have e1 : (1 : Int) + (i : Int) = ((i + 1 : Nat) : Int) := by omega
      rw [e1]
      have hi1 : i + 1 < mn := by omega
      have esub : ((i + 1 : Nat) : Int) - 1 = ((i : Nat) : Int) := by omega
      refine ⟨_, rfl, _, _, rfl, rfl, _, rfl, ?_⟩
      refine ite2 (fun _ => ?_) (fun _ => ?_)
      · refine ⟨_, rfl, _, rfl, _, _, rfl, rfl, _, rfl, by show 2 ≤ sizeLine; decide, fun t ht => ?_⟩
        have L2 := L.new (o := .tup [.int (((i + 1 : Nat) : Int) - 1), .int ((i + 1 : Nat) : Int)]) ht
        obtain ⟨H9, hp9, L9⟩ := L2.put hb0 hbn hn12 (a := i) (c := i + 1) (t := t) (by omega) hi1 (by rw [upd_same, esub])
        exact ⟨b, H9, rfl, hp9, _, rfl, L9⟩
      · refine ⟨_, rfl, rfl, _, rfl, ?_⟩
        refine ite2 (fun _ => ?_) (fun _ => ?_)
        · refine ⟨_, rfl, _, rfl, _, _, rfl, rfl, .inl ⟨by decide, by decide⟩, _, rfl, _, _, rfl, rfl, _, rfl, ?_⟩
          refine ite2 (fun _ => ?_) (fun hz => ?_)
          · refine ⟨_, rfl, _, _, rfl, rfl, _, rfl, by show 2 ≤ sizeLine; decide, fun t ht => ?_⟩
            have L2 := L.new (o := .tup [.int (((i + 1 : Nat) : Int) - 1), .int ((i + 1 : Nat) : Int)]) ht
            obtain ⟨H9, hp9, L9⟩ := L2.put hb0 hbn hn12 (a := i) (c := i + 1) (t := t) (by omega) hi1 (by rw [upd_same, esub])
            exact ⟨b, H9, rfl, hp9, _, rfl, L9⟩
          · rw [decide_eq_true_eq] at hz
            have e2 : (mn : Int) - ((i + 1 : Nat) : Int) = ((mn - (i + 1) : Nat) : Int) := by omega
            refine ⟨_, rfl, _, rfl, _, _, rfl, rfl, _, rfl, by show 2 ≤ sizeLine; decide, fun t ht => ?_⟩
            have L2 := L.new (o := .tup [.int ((mn : Int) - ((i + 1 : Nat) : Int)), .int ((i + 1 : Nat) : Int)]) ht
            obtain ⟨H9, hp9, L9⟩ := L2.put hb0 hbn hn12 (a := mn - (i + 1)) (c := i + 1) (t := t) (by omega) hi1 (by rw [upd_same, e2])
            exact ⟨b, H9, rfl, hp9, _, rfl, L9⟩
        · refine ⟨_, rfl, _, _, rfl, rfl, _, rfl, ?_⟩
          refine ite2 (fun _ => ?_) (fun _ => ?_)
          · refine ⟨_, rfl, _, rfl, _, rfl, sp, gr, i + 1, rfl, L.s, by omega, by omega, fun z H9 hz x9 S9 => ?_⟩
            have L2 := L.drop x9 S9
            refine ⟨_, rfl, by show 2 ≤ sizeLine; decide, fun t ht => ?_⟩
            have L3 := L2.new (o := .tup [.int (z : Int), .int ((i + 1 : Nat) : Int)]) ht
            obtain ⟨H10, hp10, L10⟩ := L3.put hb0 hbn hn12 (a := z) (c := i + 1) (t := t) hz hi1 upd_same
            exact ⟨b, H10, rfl, hp10, _, rfl, L10⟩
          · exact ⟨_, rfl, L⟩
    · rintro σ H8 ⟨ok, rfl, L⟩
      dsimp only [tSeq]
      refine via (fun σ H9 => σ = [some (.ref sp), some (.int (pl : Int)), some (.int (mn : Int)), some (.int (sh : Int)), some (.int (bd : Int)), ok, some (.ref fo), some (.ref b), some (.int (rr : Int)), none, none, none] ∧ LdSt H sp gr fo b mn fs H9) ?_ (fun nx hnx => ?_)
      rotate_left
      · refine ⟨_, rfl, rfl, _, rfl, ?_⟩
        refine ite2 (fun _ => ?_) (fun _ => hnx _ _ ⟨rfl, L⟩)
        refine ⟨_, rfl, _, _, rfl, rfl, _, rfl, ?_⟩
        refine ite2 (fun hz => ?_) (fun _ => hnx _ _ ⟨rfl, L⟩)
        rw [decide_eq_true_eq] at hz
        have e2 : (mn : Int) - 1 = ((mn - 1 : Nat) : Int) := by omega
        refine ⟨_, rfl, _, rfl, _, _, rfl, rfl, by show 2 ≤ sizeLine; decide, fun t ht => ?_⟩
        have L2 := L.new (o := .tup [.int 0, .int ((mn : Int) - 1)]) ht
        obtain ⟨H9, hp9, L9⟩ := L2.put hb0 hbn hn12 (a := 0) (c := mn - 1) (t := t) (by omega) (by omega) (by rw [upd_same, e2]; rfl)
        exact ⟨b, H9, rfl, hp9, hnx _ _ ⟨rfl, L9⟩⟩
      · rintro σ H9 ⟨rfl, L9⟩
        clear L
        refine ⟨_, rfl, _, rfl, by omega, by omega, for_range (lo := 0) (n := (mn : Int).toNat) (fun i σ H10 => ∃ oj oi : Option V, σ = [some (.ref sp), some (.int (pl : Int)), some (.int (mn : Int)), some (.int (sh : Int)), some (.int (bd : Int)), ok, some (.ref fo), some (.ref b), some (.int (rr : Int)), oj, oi, none] ∧ LdSt H sp gr fo b mn fs H10)
          ⟨_, _, rfl, L9⟩ ?_ ?_⟩
        · rintro j σ H10 hj ⟨oj, oi, rfl, L10⟩
          rw [Int.toNat_natCast] at hj
          rw [Int.zero_add]
          refine ⟨_, rfl, _, rfl, by omega, by omega, for_range (lo := 0) (n := (j : Int).toNat) (fun i σ H11 => ∃ oi : Option V, σ = [some (.ref sp), some (.int (pl : Int)), some (.int (mn : Int)), some (.int (sh : Int)), some (.int (bd : Int)), ok, some (.ref fo), some (.ref b), some (.int (rr : Int)), some (.int (j : Int)), oi, none] ∧ LdSt H sp gr fo b mn fs H11)
            ⟨_, rfl, L10⟩ ?_ ?_⟩
          · rintro i σ H11 hi ⟨oi, rfl, L11⟩
            rw [Int.toNat_natCast] at hi
            rw [Int.zero_add]
            refine ⟨_, rfl, _, _, rfl, rfl, _, rfl, ?_⟩
            refine ite2 (fun _ => ?_) (fun _ => ⟨_, rfl, L11⟩)
            have e3 : (rr : Int) + 1 = ((rr + 1 : Nat) : Int) := by omega
            refine ⟨_, rfl, _, rfl, _, _, rfl, rfl, sp, gr, rr + 1, by show [V.ref sp, V.int ((rr : Int) + 1)] = _; rw [e3], L11.s, by omega, by omega, fun z H12 hz x12 S12 => ⟨rfl, _, rfl, ?_⟩⟩
            have L12 := L11.drop x12 S12
            refine ite2 (fun _ => ?_) (fun _ => ⟨_, rfl, L12⟩)
            refine ⟨_, rfl, _, rfl, _, rfl, by show 2 ≤ sizeLine; decide, fun t ht => ?_⟩
            have L13 := L12.new (o := .tup [.int (i : Int), .int (j : Int)]) ht
            obtain ⟨H14, hp14, L14⟩ := L13.put hb0 hbn hn12 (a := i) (c := j) (t := t) hi hj upd_same
            exact ⟨b, H14, rfl, hp14, _, rfl, L14⟩
          · rintro σ H11 ⟨oi, rfl, L11⟩
            exact ⟨_, _, rfl, L11⟩
        · rintro σ H10 ⟨oj, oi, rfl, L10⟩
          refine ⟨_, rfl, _, rfl, sp, gr, mn, rfl, L10.s, by omega, fun oa os H11 hperm x11 S11 hoa0 hoa => ?_⟩
          have L11 := L10.drop x11 S11
          dsimp only [gName, List.set]
          refine ⟨_, rfl, ?_⟩
          obtain ⟨kvs, hd, hbd2⟩ := L11.d
          have hfo11 := L11.f
          obtain ⟨hnd, hok⟩ := prK_ok hperm hbd2
          have hkl := hbd2.len hn12
          refine ⟨b, .dT kvs, hd, trivial, fun od => ?_⟩
          have hob : oa ≠ b := fun z => by rw [z, hd] at hoa; cases hoa
          have hof : (upd H11 b (.frz od (.dT kvs))) oa = some (.tup (vsN os)) := by rw [upd_ne hob]; exact hoa
          have hbf : (upd H11 b (.frz od (.dT kvs))) b = some (.frz od (.dT kvs)) := upd_same
          have hx11 : ∀ c o, c ≠ b → (upd H11 b (.frz od (.dT kvs))) c = o → H11 c = o := fun c o n e => by rw [upd_ne n] at e; exact e
          have hf11 : ∀ c, (upd H11 b (.frz od (.dT kvs))) c = none → H11 c = none := fun c e => by
            by_cases z : c = b
            · rw [z, hbf] at e; cases e
            · exact hx11 c none z e
          have hk11 : ∀ c o, c ≠ b → H11 c = some o → (upd H11 b (.frz od (.dT kvs))) c = some o := fun c o n e => by rw [upd_ne n]; exact e
          have ht11 : ∀ Pt, Gx.TabG H11 Pt → Gx.TabG (upd H11 b (.frz od (.dT kvs))) Pt := fun Pt ⟨ps, e, z⟩ => ⟨ps, by rw [upd_ne (fun e2 => by rw [e2, hd] at e; cases e)]; exact e, z⟩
          generalize hHF : upd H11 b (.frz od (.dT kvs)) = HF at hof hbf hx11 hf11 hk11 ht11 ⊢
          refine ⟨_, rfl, b, od, rfl, .inr ⟨kvs, hbf, fun D2 hD2 => ?_⟩⟩
          have hbD : b ≠ D2 := ne_of_none hbf hD2
          refine lc_keysT (fun i H12 => ∃ as : List V, H12 D2 = some (.lst as) ∧ Pa H12 as ((kvs.take i).map fun kv => prK os kv.1) ∧ Ext HF H12) ⟨[], upd_same, .nil, .new hD2⟩ (fun i H12 _ ⟨_, _, _, x⟩ => x.keep _ _ hbf (fun z => z)) (fun i kk vv q H12 hk hq ⟨as, eas, hP, x12⟩ => ?_) fun H12 ⟨as, eas, hP, x12⟩ => ?_
          · obtain ⟨a, c, e1, hac, hcn⟩ := hbd2.ok (kk, vv) (List.mem_of_getElem? hk)
            have e1 : kk = keyP a c := e1
            subst e1
            obtain ⟨hos1, hos2⟩ := os_get hperm
            have hol : os.length = mn := by rw [hperm.length_eq, List.length_range]
            have hga : (vsN os)[a]? = some (.int ((os.getD a 0 : Nat) : Int)) := by
              rw [vsN_at (show a < os.length by omega), List.getD_eq_getElem?_getD, List.getElem?_eq_getElem (show a < os.length by omega)]
              rfl
            have hgc : (vsN os)[c]? = some (.int ((os.getD c 0 : Nat) : Int)) := by
              rw [vsN_at (show c < os.length by omega), List.getD_eq_getElem?_getD, List.getElem?_eq_getElem (show c < os.length by omega)]
              rfl
            refine ⟨q, _, rfl, SqT.of hq, rfl, _, _, rfl, _, _, rfl, rfl, rfl, ?_⟩
            dsimp only [tYes]
            rw [if_pos rfl]
            have hal := hP.len
            rw [List.length_map, List.length_take] at hal
            refine ⟨_, rfl, _, rfl, oa, _, _, _, rfl, rfl, SqT.of (x12.tup hof), atI_nat hga, _, rfl, _, rfl, oa, _, _, _, rfl, rfl, SqT.of (x12.tup hof), atI_nat hgc, by show 2 ≤ sizeLine; decide, fun l2 hl2 => ?_⟩
            refine ⟨l2, [((os.getD a 0 : Nat) : Int), ((os.getD c 0 : Nat) : Int)], rfl, SqL.of upd_same, by show 2 < 64; decide, fun ns' p2 hpm hasc hp2 => ?_⟩
            have e2 := two_sorted hpm hasc
            subst e2
            refine .inl ⟨p2, _, rfl, SqL.of upd_same, fun q2 hq2 => ?_⟩
            have x13 : Ext H12 (upd (upd (upd H12 l2 (.lst [.int ((os.getD a 0 : Nat) : Int), .int ((os.getD c 0 : Nat) : Int)])) p2 (.lst ([min ((os.getD a 0 : Nat) : Int) ((os.getD c 0 : Nat) : Int), max ((os.getD a 0 : Nat) : Int) ((os.getD c 0 : Nat) : Int)].map V.int))) q2 (.tup ([min ((os.getD a 0 : Nat) : Int) ((os.getD c 0 : Nat) : Int), max ((os.getD a 0 : Nat) : Int) ((os.getD c 0 : Nat) : Int)].map V.int))) := ((Ext.new hl2).trans (.new hp2)).trans (.new hq2)
            have eq2 : (upd (upd (upd H12 l2 (.lst [.int ((os.getD a 0 : Nat) : Int), .int ((os.getD c 0 : Nat) : Int)])) p2 (.lst ([min ((os.getD a 0 : Nat) : Int) ((os.getD c 0 : Nat) : Int), max ((os.getD a 0 : Nat) : Int) ((os.getD c 0 : Nat) : Int)].map V.int))) q2 (.tup ([min ((os.getD a 0 : Nat) : Int) ((os.getD c 0 : Nat) : Int), max ((os.getD a 0 : Nat) : Int) ((os.getD c 0 : Nat) : Int)].map V.int))) q2 = some (.tup [.int (((min (os.getD a 0) (os.getD c 0)) : Nat) : Int), .int (((max (os.getD a 0) (os.getD c 0)) : Nat) : Int)]) := by
              rw [upd_same, show min ((os.getD a 0 : Nat) : Int) ((os.getD c 0 : Nat) : Int) = (((min (os.getD a 0) (os.getD c 0)) : Nat) : Int) by omega, show max ((os.getD a 0 : Nat) : Int) ((os.getD c 0 : Nat) : Int) = (((max (os.getD a 0) (os.getD c 0)) : Nat) : Int) by omega]
              rfl
            generalize upd (upd (upd H12 l2 _) p2 _) q2 _ = H13 at x13 eq2 ⊢
            have e13 := x13.lst eas
            refine ⟨as, e13, small1000 (by omega), as ++ [.ref q2], upd_same, ?_, (x12.trans x13).write hD2⟩
            rw [List.take_add_one, hk, List.map_append]
            have hqD : q2 ≠ D2 := fun z => by rw [z, e13] at eq2; cases eq2
            refine Pa.snoc ((hP.mono fun t xs e => x13.tup e).mono fun t xs e => ?_) ?_
            · rw [upd_ne (fun z => by rw [z, e13] at e; cases e)]
              exact e
            · rw [upd_ne hqD]
              exact eq2
          · rw [List.take_length] at hP
            have hb12 : H12 b = some (.frz od (.dT kvs)) := x12.keep _ _ hbf fun z => z
            refine ⟨hb12, ?_⟩
            have hP2 : Pa (upd H12 b (.dT kvs)) as (kvs.map fun kv => prK os kv.1) := hP.mono fun t xs e => by
              rw [upd_ne (fun z => by rw [z, hb12] at e; cases e)]
              exact e
            have eas2 : (upd H12 b (.dT kvs)) D2 = some (.lst as) := by rw [upd_ne hbD.symm]; exact eas
            have xS : ExtS [sp, gr] H11 (upd H12 b (.dT kvs)) := by
              refine ⟨fun c o e n _ => ?_, fun Pt hPt => ?_, fun c o e => ?_⟩
              · by_cases z : c = b
                · rw [z, upd_same]
                  rw [z, hd] at e
                  exact e
                · rw [upd_ne z]
                  exact x12.keep c o (hk11 c o z e) n
              · obtain ⟨ps, e, z⟩ := x12.tabs Pt (ht11 Pt hPt)
                obtain ⟨ps0, e0, _⟩ := hPt
                exact ⟨ps, by rw [upd_ne (fun e2 => by rw [e2, hd] at e0; cases e0)]; exact e, z⟩
              · by_cases z : c = b
                · exact ⟨_, by rw [z, upd_same]⟩
                · rw [upd_ne z]
                  exact x12.live c o (hk11 c o z e)
            have S12 : SpAt (upd H12 b (.dT kvs)) sp gr := by
              obtain ⟨xs, m, t, h3, h4, h5⟩ := L11.s.ex
              have n1 : sp ≠ b := fun z => hbn (by simp [z])
              have n2 : gr ≠ b := fun z => hbn (by simp [z])
              exact ⟨⟨xs, m, t, by rw [upd_ne n1]; exact x12.lst (hk11 _ _ n1 h3), by rw [upd_ne n2]; exact x12.lst (hk11 _ _ n2 h4), h5⟩, L11.s.ne⟩
            have L12 := L11.drop xS S12
            generalize upd H12 b (.dT kvs) = H13 at hP2 eas2 xS S12 L12 ⊢
            have hal := hP2.len
            rw [List.length_map] at hal
            refine ⟨D2, as, kOf H13, rfl, SqL.of eas2, fun x hx => ?_, fun ys p hsrt hstb hp => ?_⟩
            · obtain ⟨t, pp, h1, _, h3⟩ := hP2.mem hx
              refine ⟨t, h1, ?_⟩
              rw [h1, h3]
              show _ = some (HO.tup [.int (match H13 t with
                | some (.tup [.int i, .int j]) => (i, j)
                | _ => (0, 0)).1, .int (match H13 t with
                | some (.tup [.int i, .int j]) => (i, j)
                | _ => (0, 0)).2])
              rw [h3]
            · obtain ⟨bs, hPb, hpb⟩ := hP2.perm hstb.perm.symm
              have hasc2 := hPb.asc hsrt (hpb.nodup_iff.mp hnd)
              have hBs : Mk.Bs mn bs := fun q hq => hok q (hpb.mem_iff.mpr hq)
              have hbl : bs.length ≤ 169 := by rw [← hpb.length_eq, List.length_map]; exact hkl
              refine .inl ⟨p, _, rfl, SqL.of upd_same, fun q hq => ⟨by show 2 ≤ sizeLine; decide, fun r hr0 => ?_⟩⟩
              have x14 : Ext H13 (upd H13 p (.lst ys)) := .new hp
              have x15 := x14.trans (Ext.new (o := .tup ys) hq)
              have dfo : Dp K (upd (upd H13 p (.lst ys)) q (.tup ys)) (.ref fo) (.tuple (fs.map .int)) := .tup (SqT.of (x15.tup L12.f)) (dpAll_of_ints fs)
              have dbo : Dp K (upd (upd H13 p (.lst ys)) q (.tup ys)) (.ref q) (bordD bs) := .tup (SqT.of upd_same) (dpAll_ext x15 hPb.dp)
              refine k r fs bs _ ((L12.x.trans (.of x15)).trans (.new hr0)) ((L12.s.ext x15).ext (.new hr0)) ((L12.x.trans (.of x15)).free hr0) (dp_new hr0 (.cons dfo (.cons dbo .nil))) ⟨by omega, by omega, hfb, by rw [hfl]; exact hBs, hasc2⟩ (by omega)
end
end Wd

set_option Elab.async false
set_option linter.all false
set_option maxRecDepth 100000
set_option maxHeartbeats 4000000
namespace Wd
open PySem PySem.Spec PyProof.Rows L2 Bx Gx














































section
variable {P : Program} {w : World} {K : PySem.W.Frag} {mg : Str → Option Value} {base : Heap}
/-! ### check_head -/
def spCheckHead (K : PySem.W.Frag) : Sp := fun vs H Q _ => ∃ (l : V) (fs : List Int) (bd : PyData) (p : Nat), vs = [l, .int (p : Int)] ∧ Dp K H l (.tuple [.tuple (fs.map .int), bd]) ∧ fs.length ≤ 12 ∧ p < fs.length ∧ Q .non H
/-! ### hangs_together -/
def spHangsTog (K : PySem.W.Frag) (T1 : Addr) : Sp := fun vs H Q _ => ∃ (l : Addr) (lk : List Nat) (n m : Nat) (bs : List (Nat × Nat)), vs = [.ref l, .int (m : Int)] ∧ H l = some (.lst (vsN lk)) ∧ Mk.Lk n bs lk ∧ Mk.Bs n bs ∧ n ≤ 12 ∧ m < 2 ^ n ∧ 0 < m ∧ TabG H T1 ∧
  ∀ (b : Bool) H', Ext H H' → (∀ qs, Mk.Pcs bs m qs → b = decide (qs.length = 1)) → Q (.bl b) H'
theorem sc_hangs_together : FnScope ["links", "mask"] ["links", "mask"] (defScope st_hangs_together) := ⟨rfl, rfl, rfl, by decide +kernel, rfl, by decide +kernel, by decide +kernel⟩
theorem pcs_first {bs : List (Nat × Nat)} {m q r : Nat} (hq : m.testBit q = true) (hlow : ∀ p, p < q → m.testBit p = false) (hR : Mk.Rch bs m (2 ^ q) r) {qs : List Nat} (h : Mk.Pcs bs m qs) : r = m ↔ qs.length = 1 := by
  cases h with
  | nil => simp at hq
  | @cons _ q' p l hq' hlow' hR' hP =>
    have e := Mk.low_uniq hq hlow hq' hlow'
    subst e
    have e2 := hR.uniq hR'
    subst e2
    rw [List.length_cons]
    constructor
    · intro e
      rw [e, Nat.xor_self] at hP
      generalize hz : (0 : Nat) = z at hP
      cases hP with
      | nil => rfl
      | cons h1 _ _ _ =>
        rw [← hz, Nat.zero_testBit] at h1
        cases h1
    · intro e
      have h0 := hP.none (List.length_eq_zero_iff.mp (by omega))
      have h1 : (m ^^^ r) ^^^ r = m := by rw [Nat.xor_assoc, Nat.xor_self, Nat.xor_zero]
      rw [h0, Nat.zero_xor] at h1
      exact h1
theorem ok_hangs_together {f T1 : Addr} {fd : FuncData} (F : Fun K "hangs_together" "hangs_together" st_hangs_together f fd) (c1 : Cal P w K mg base 7 "reached" ["links", "start", "mask"] (spReached K T1)) : FnOk P w K mg base CX0 8 f fd ["links", "mask"] (spHangsTog K T1) := by
  refine F.ok sc_hangs_together (fun vs H Q E h => ?_) (fun cdv A outer s H vs Q E hr h => ?_)
  · obtain ⟨l, lk, n, m, bs, rfl, _⟩ := h
    rfl
  · obtain ⟨l, lk, n, m, bs, rfl, hl, L, hb, hn, hm, hm0, hT, k⟩ := h
    refine ⟨_, pss_one (ps_ret (pe_cmpR op_eq (pe_cal c1 hr rfl (pa_cons (pv 0) (pa_cons (pe_op op_and (pv 1) (pe_un un_neg (pv 1))) (pa_cons (pv 1) pa_nil)))) (pv 1) (nomark _))), ?_⟩
    obtain ⟨q, hq, hlow, hand⟩ := Mk.and_neg m hm0
    refine ⟨_, rfl, _, rfl, _, rfl, _, rfl, _, _, rfl, rfl, _, rfl, l, lk, n, 2 ^ q, m, bs, ?_, hl, L, hb, hn, hm, ?_, hT, fun r H3 x3 hR => ?_⟩
    · dsimp only [List.append_nil]
      rw [hand]
      rfl
    · intro z hz
      rw [Nat.testBit_two_pow, decide_eq_true_eq] at hz
      rw [← hz]
      exact hq
    · refine ⟨_, rfl, rfl, ?_⟩
      refine k _ H3 x3 fun qs hqs => ?_
      have := pcs_first hq hlow hR hqs
      by_cases e : r = m
      · rw [decide_eq_true (this.mp e)]
        exact decide_eq_true (by rw [e])
      · rw [decide_eq_false (fun z => e (this.mpr z))]
        exact decide_eq_false fun z => e (by have := V.int.inj z; omega)
theorem mask_pos {ps : List Nat} (ha : ps.Pairwise (· < ·)) (hne : ps ≠ []) : 0 < Mk.mask ps := by
  cases ps with
  | nil => exact absurd rfl hne
  | cons p r =>
    have h : (Mk.mask (p :: r)).testBit p = true := by rw [Mk.bit_mask ha]; simp
    refine Nat.pos_of_ne_zero fun z => ?_
    rw [z, Nat.zero_testBit] at h
    cases h
end
section
variable {P : Program} {w : World} {K : PySem.W.Frag} {mg : Str → Option Value} {base : Heap}
/-! ### folk_within -/
def folkOf (fs : List Int) (ps : List Nat) : Int := (ps.map fun p => fs.getD p 0).sum
def spFolkIn (K : PySem.W.Frag) (T1 : Addr) : Sp := fun vs H Q _ => ∃ (l v : V) (fs : List Int) (bd : PyData) (ps : List Nat), vs = [l, v] ∧ Dp K H l (.tuple [.tuple (fs.map .int), bd]) ∧ Dp K H v (lotD ps) ∧ (∀ p ∈ ps, p < fs.length) ∧ TabG H T1 ∧ ∀ H', Ext H H' → Q (.int (folkOf fs ps)) H'
/-! ### pair_of -/
def spPairOf (K : PySem.W.Frag) : Sp := fun vs H Q _ => ∃ (a b : Nat), vs = [.int (a : Int), .int (b : Int)] ∧ ∀ p H', Ext H H' → H p = none → H' p = some (.tup [.int ((min a b : Nat) : Int), .int ((max a b : Nat) : Int)]) → Q (.ref p) H'
end
section
variable {P : Program} {w : World} {K : PySem.W.Frag} {mg : Str → Option Value} {base : Heap}
/-! ### ward_row -/
theorem vsN_len0 (l : List Nat) : (vsN l).length = l.length := List.length_map ..
theorem putK_le (kvs : List (L2.Key × V)) (k : L2.Key) (v : V) : (putK kvs k v).length ≤ kvs.length + 1 := by
  unfold putK
  split
  · rw [List.length_map]; omega
  · rw [List.length_append]; exact Nat.le_refl _
def planD (ws : List (List Nat)) : PyData := .tuple (ws.map lotD)
/-- wards: few, short, none with a place of another one -/
structure WardsOk (n : Nat) (ws : List (List Nat)) : Prop where
  few : ws.length ≤ 12
  lots : ∀ w ∈ ws, LotOk n w
  most : n ≤ 12
  apart : ∀ i j a b : Nat, ∀ u v, ws[i]? = some u → ws[j]? = some v → a ∈ u → b ∈ v → a = b → i = j
/-- a row tells for each place of the wards the index of its ward -/
def RowOf (ws : List (List Nat)) (kvs : List (L2.Key × V)) : Prop := ∀ (i : Nat) (u : List Nat) (p : Nat), ws[i]? = some u → p ∈ u → valV kvs (Sum.inl (p : Int) : L2.Key) = some (.int (i : Int))
def spWardRow (K : PySem.W.Frag) : Sp := fun vs H Q _ => ∃ (v : V) (ws : List (List Nat)) (n : Nat), vs = [v] ∧ Dp K H v (planD ws) ∧ WardsOk n ws ∧ ∀ d (kvs : List (L2.Key × V)) H', Ext H H' → H d = none → H' d = some (.dK kvs) → RowOf ws kvs → Q (.ref d) H'
theorem sc_ward_row : FnScope ["plan", "row", "k", "place"] ["plan"] (defScope st_ward_row) := ⟨rfl, rfl, rfl, by decide +kernel, rfl, by decide +kernel, by decide +kernel⟩
theorem ok_ward_row {f : Addr} {fd : FuncData} (F : Fun K "ward_row" "ward_row" st_ward_row f fd) (B : Bl mg) : FnOk P w K mg base CX0 1 f fd ["plan"] (spWardRow K) := by
  refine F.ok sc_ward_row (fun vs H Q E h => ?_) (fun cdv A outer s H vs Q E hr h => ?_)
  · obtain ⟨v, ws, n, rfl, _⟩ := h
    rfl
  · obtain ⟨v, ws, n, rfl, hv, W, k⟩ := h
    refine ⟨_, pss_cons (ps_set (i := 1) sc_ward_row.nd rfl (Or.inl rfl) pe_dnewK)
      (pss_cons (ps_for PassesOwn.never rfl (pi_range1 rfl B.range (pa_cons (pe_callB call_len (by rfl) B.len PySem.boot_len (pa_cons (pv 0) pa_nil)) pa_nil)) (pg_name (i := 2) sc_ward_row.nd rfl (Or.inl rfl))
        (pss_one (ps_for PassesOwn.never rfl (pi_tup (pe_ix ix_tup (pv 0) (pv 2) (fun _ _ => rfl))) (pg_name (i := 3) sc_ward_row.nd rfl (Or.inl rfl))
          (pss_one (ps_dput (hu_of hr) (pv 1) (pv 3) (pv 2) rfl)))))
      (pss_one (ps_ret (pv 1)))), ?_⟩
    obtain ⟨a, xs, rfl, h1, h2⟩ := dp_tup hv
    have hlen := dpAll_len h2
    rw [List.length_map] at hlen
    have hfew := W.few
    intro d hd
    have x1 : Ext H (upd H d (.dK [])) := .new hd
    have e1 : (upd H d (.dK [])) d = some (.dK []) := upd_same
    generalize upd H d (.dK []) = H1 at x1 e1 ⊢
    dsimp only [gName, tSeq, List.set, L2.start, List.map, List.length, List.replicate, List.append]
    refine ⟨_, rfl, _, xs.length, rfl, .inr ⟨_, x1.sqT h1, rfl⟩, _, rfl, by omega, by omega, for_range (lo := 0) (n := (xs.length : Int).toNat) (fun i σ H2 => ∃ (o2 o3 : Option V) (kvs : List (L2.Key × V)), σ = [some (.ref a), some (.ref d), o2, o3] ∧ Ext H H2 ∧ H2 d = some (.dK kvs) ∧ kvs.length ≤ 12 * i ∧ ∀ (j : Nat) (u : List Nat) (p : Nat), j < i → ws[j]? = some u → p ∈ u → valV kvs (Sum.inl (p : Int) : L2.Key) = some (.int (j : Int)))
      ⟨_, _, [], rfl, x1, e1, Nat.le_refl _, fun j u p hj => by omega⟩ ?_ ?_⟩
    · rintro i σ H2 hi ⟨o2, o3, kvs, rfl, x2, e2, hk, hrow⟩
      rw [Int.toNat_natCast] at hi
      rw [Int.zero_add]
      have hw := List.getElem?_eq_getElem (show i < ws.length by omega)
      have hmem := List.getElem_mem (show i < ws.length by omega)
      have lo := W.lots _ hmem
      have hm12 := W.most
      have hlw := lo.len
      obtain ⟨wv, hwv, hdw⟩ := dpAll_get h2 (i := i) (d := lotD ws[i]) (by rw [List.getElem?_map, hw]; rfl)
      obtain ⟨aw, rfl, hsw⟩ := dp_lot hdw
      refine ⟨_, rfl, _, rfl, a, _, _, _, rfl, rfl, x2.sqT h1, atI_nat hwv, aw, rfl, ⟨_, x2.sqT hsw⟩, for_tup (K := K) (a := aw) (xs := vsN ws[i]) (fun t σ H3 => ∃ (o3 : Option V) (kvs : List (L2.Key × V)), σ = [some (.ref a), some (.ref d), some (.int (i : Int)), o3] ∧ Ext H H3 ∧ H3 d = some (.dK kvs) ∧ kvs.length ≤ 12 * i + t ∧
        (∀ (j : Nat) (u : List Nat) (p : Nat), j < i → ws[j]? = some u → p ∈ u → valV kvs (Sum.inl (p : Int) : L2.Key) = some (.int (j : Int))) ∧ ∀ p, p ∈ ws[i].take t → valV kvs (Sum.inl (p : Int) : L2.Key) = some (.int (i : Int)))
        ⟨_, kvs, rfl, x2, e2, hk, hrow, fun p hp => by rw [List.take_zero] at hp; cases hp⟩ (fun t σ H3 _ ⟨_, _, _, x3, _⟩ => x3.sqT hsw) ?_ ?_⟩
      · rintro t x σ H3 hx ⟨o3, kvs, rfl, x3, e3, hk3, hrow3, hown⟩
        rw [List.getElem?_map] at hx
        cases eb : ws[i][t]? with
        | none => rw [eb] at hx; cases hx
        | some q =>
          rw [eb] at hx
          cases hx
          have ht : t < ws[i].length := (List.getElem?_eq_some_iff.mp eb).1
          have hq := List.mem_of_getElem? eb
          refine ⟨_, rfl, _, rfl, _, rfl, d, _, rfl, DPut.k (k := Sum.inl (q : Int)) e3 (small1000 (by omega)), ?_⟩
          refine ⟨_, putK kvs (Sum.inl (q : Int)) (.int (i : Int)), rfl, x3.write hd, upd_same, by have := putK_le kvs (Sum.inl (q : Int) : L2.Key) (V.int (i : Int)); omega, fun j u p hj hu hp => ?_, fun p hp => ?_⟩
          · rw [valV_put]
            by_cases z : (Sum.inl (p : Int) : L2.Key) = Sum.inl (q : Int)
            · injection z with z
              have := W.apart j i p q u _ hu hw hp hq (by omega)
              omega
            · rw [if_neg z]
              exact hrow3 j u p hj hu hp
          · rw [valV_put]
            by_cases z : (Sum.inl (p : Int) : L2.Key) = Sum.inl (q : Int)
            · rw [if_pos z]
            · rw [if_neg z]
              rw [List.take_add_one, eb] at hp
              rcases List.mem_append.mp hp with e | e
              · exact hown p e
              · exact absurd (by rw [List.mem_singleton.mp e]) z
      · rintro σ H3 ⟨o3, kvs, rfl, x3, e3, hk3, hrow3, hown⟩
        rw [vsN_len0] at hk3 hown
        rw [List.take_length] at hown
        refine ⟨_, _, kvs, rfl, x3, e3, by omega, fun j u p hj hu hp => ?_⟩
        by_cases z : j = i
        · subst z
          rw [hw] at hu
          cases hu
          exact hown p hp
        · exact hrow3 j u p (by omega) hu hp
    · rintro σ H2 ⟨o2, o3, kvs, rfl, x2, e2, hk, hrow⟩
      rw [Int.toNat_natCast] at hrow
      exact ⟨_, rfl, k d kvs H2 x2 hd e2 fun i u p hu hp => hrow i u p (by have := (List.getElem?_eq_some_iff.mp hu).1; omega) hu hp⟩
end
section
variable {P : Program} {w : World} {K : PySem.W.Frag} {mg : Str → Option Value} {base : Heap}
/-! ### whole_mask -/
def spWhole (K : PySem.W.Frag) : Sp := fun vs H Q _ => ∃ (l : V) (fs : List Int) (bd : PyData), vs = [l] ∧ Dp K H l (.tuple [.tuple (fs.map .int), bd]) ∧ fs.length ≤ 12 ∧ Q (.int ((2 ^ fs.length - 1 : Nat) : Int)) H
theorem sc_whole_mask : FnScope ["land"] ["land"] (defScope st_whole_mask) := ⟨rfl, rfl, rfl, by decide +kernel, rfl, by decide +kernel, by decide +kernel⟩
theorem ok_whole_mask {f : Addr} {fd : FuncData} (F : Fun K "whole_mask" "whole_mask" st_whole_mask f fd) (B : Bl mg) : FnOk P w K mg base CX0 1 f fd ["land"] (spWhole K) := by
  refine F.ok sc_whole_mask (fun vs H Q E h => ?_) (fun cdv A outer s H vs Q E hr h => ?_)
  · obtain ⟨l, fs, bd, rfl, _⟩ := h
    rfl
  · obtain ⟨l, fs, bd, rfl, hl, hn, k⟩ := h
    refine ⟨_, pss_one (ps_ret (pe_op op_sub (pe_op op_shl pe_int (pe_callB call_len (by rfl) B.len PySem.boot_len (pa_cons (pe_ix ix_tup (pv 0) pe_int (fun _ _ => rfl)) pa_nil))) pe_int)), ?_⟩
    obtain ⟨al, xl, rfl, h2, h3⟩ := dp_tup hl
    cases h3 with
    | cons hf h4 =>
    obtain ⟨af, rfl, h5⟩ := dp_ints hf
    refine ⟨_, rfl, al, _, _, _, rfl, rfl, h2, atI_nat (j := 0) rfl, _, fs.length, rfl, .inr ⟨_, h5, by simp⟩, _, _, rfl, rfl, ⟨by omega, by omega, by decide⟩, _, _, rfl, rfl, ?_⟩
    have e : (1 : Int) * 2 ^ ((fs.length : Nat) : Int).toNat - 1 = ((2 ^ fs.length - 1 : Nat) : Int) := by
      rw [Int.toNat_natCast, Int.one_mul]
      have h := Nat.two_pow_pos fs.length
      have h2 : ((2 : Int) ^ fs.length) = ((2 ^ fs.length : Nat) : Int) := by simp
      rw [h2]
      omega
    show Q (V.int ((1 : Int) * 2 ^ ((fs.length : Nat) : Int).toNat - 1)) H
    rw [e]
    exact k
end
section
variable {P : Program} {w : World} {K : PySem.W.Frag} {mg : Str → Option Value} {base : Heap}
/-! ### fault_of_plan: of a right plan -/
structure PlanOk (n : Nat) (bs : List (Nat × Nat)) (ws : List (List Nat)) : Prop where
  w : WardsOk n ws
  ne : ws ≠ []
  hang : ∀ u, u ∈ ws → ∃ l, Mk.Pcs bs (Mk.mask u) l ∧ l.length = 1
  asc : ws.Pairwise fun u v => u.headD 0 < v.headD 0
  all : ∀ p, p < n → ∃ u, u ∈ ws ∧ p ∈ u
theorem lexN_false {u v : List Nat} (hu : u ≠ []) (hv : v ≠ []) (h : v.headD 0 < u.headD 0) :
    Ob.lexAt (fun j => decide ((u.map fun (p : Nat) => (p : Int)).getD j 0 = (v.map fun (p : Nat) => (p : Int)).getD j 0)) (fun j => decide ((u.map fun (p : Nat) => (p : Int)).getD j 0 ≤ (v.map fun (p : Nat) => (p : Int)).getD j 0)) (decide ((u.map fun (p : Nat) => (p : Int)).length ≤ (v.map fun (p : Nat) => (p : Int)).length)) 0 (min (u.map fun (p : Nat) => (p : Int)).length (v.map fun (p : Nat) => (p : Int)).length) = false := by
  cases u with
  | nil => exact absurd rfl hu
  | cons a r =>
    cases v with
    | nil => exact absurd rfl hv
    | cons b s =>
      have hlt : b < a := h
      have em : min ((a :: r).map fun (p : Nat) => (p : Int)).length ((b :: s).map fun (p : Nat) => (p : Int)).length = min r.length s.length + 1 := by
        rw [List.length_map, List.length_map, List.length_cons, List.length_cons]
        omega
      rw [em]
      show (if decide ((a : Int) = (b : Int)) = true then _ else decide ((a : Int) ≤ (b : Int))) = false
      rw [decide_eq_false (show ¬ (a : Int) = (b : Int) by omega), if_neg Bool.false_ne_true]
      exact decide_eq_false (by omega)
def spFaultPlan (K : PySem.W.Frag) (T1 T2 T3 T4 : Addr) : Sp := fun vs H Q _ => ∃ (l v : V) (fs : List Int) (bs : List (Nat × Nat)) (ws : List (List Nat)), vs = [l, v] ∧ Dp K H l (landD fs bs) ∧ LandOk fs bs ∧ Dp K H v (planD ws) ∧ PlanOk fs.length bs ws ∧ Tabs [T1, T2, T3, T4] H ∧ ∀ H', Ext H H' → Q .non H'
theorem sc_fault_of_plan : FnScope ["land", "value", "links", "taken", "k", "ward"] ["land", "value"] (defScope st_fault_of_plan) := ⟨rfl, rfl, rfl, by decide +kernel, rfl, by decide +kernel, by decide +kernel⟩
theorem ok_fault_of_plan {f T1 T2 T3 T4 : Addr} {fd : FuncData} (F : Fun K "fault_of_plan" "fault_of_plan" st_fault_of_plan f fd) (B : Bl mg) (c1 : Cal P w K mg base 6 "is_lot" ["land", "value"] (spIsLot K T1 T2)) (c2 : Cal P w K mg base 4 "mask_of" ["lot"] (spMaskOf K T3))
    (c3 : Cal P w K mg base 1 "links_of" ["land"] (spLinksOf K)) (c4 : Cal P w K mg base 8 "hangs_together" ["links", "mask"] (spHangsTog K T4)) (c5 : Cal P w K mg base 1 "whole_mask" ["land"] (spWhole K)) : FnOk P w K mg base CX0 9 f fd ["land", "value"] (spFaultPlan K T1 T2 T3 T4) := by
  refine F.ok sc_fault_of_plan (fun vs H Q E h => ?_) (fun cdv A outer s H vs Q E hr h => ?_)
  · obtain ⟨l, v, fs, bs, ws, rfl, _⟩ := h
    rfl
  · obtain ⟨l, v, fs, bs, ws, rfl, hl, ok, hv, PO, hT, k⟩ := h
    have hT1 := hT T1 (by simp)
    have hT2 := hT T2 (by simp)
    have hT3 := hT T3 (by simp)
    have hT4 := hT T4 (by simp)
    have hr6 := hr.mono (j := 6) (by decide)
    have hr4 := hr.mono (j := 4) (by decide)
    have hr1 := hr.mono (j := 1) (by decide)
    refine ⟨_, pss_cons (ps_if (PW.pt (pw_or (pt_cmpR op_neTy (pe_callTy call_type1 rfl B.type (by decide +kernel) (pa_cons (pv 1) pa_nil)) (pe_bltn rfl B.tuple (by decide +kernel) (v := .ty "tuple") rfl) (nomark _))
        (pw_or1 (pt_cmpR op_eq (pe_callB call_len (by rfl) B.len PySem.boot_len (pa_cons (pv 1) pa_nil)) pe_int (nomark _))))) pss_never pss_nil)
      (pss_cons (ps_set (i := 2) sc_fault_of_plan.nd rfl (Or.inl rfl) (pe_cal c3 hr1 rfl (pa_cons (pv 0) pa_nil)))
      (pss_cons (ps_set (i := 3) sc_fault_of_plan.nd rfl (Or.inl rfl) pe_int)
      (pss_cons (ps_for PassesOwn.never rfl (pi_range1 rfl B.range (pa_cons (pe_callB call_len (by rfl) B.len PySem.boot_len (pa_cons (pv 1) pa_nil)) pa_nil)) (pg_name (i := 4) sc_fault_of_plan.nd rfl (Or.inl rfl))
        (pss_cons (ps_if (pt_not (pt_val (pe_cal c1 hr6 rfl (pa_cons (pv 0) (pa_cons (pe_ix ix_tup (pv 1) (pv 4) (fun _ _ => rfl)) pa_nil))) (by intro _; rfl))) pss_never pss_nil)
        (pss_cons (ps_set (i := 5) sc_fault_of_plan.nd rfl (Or.inl rfl) (pe_cal c2 hr4 rfl (pa_cons (pe_ix ix_tup (pv 1) (pv 4) (fun _ _ => rfl)) pa_nil)))
        (pss_cons (ps_if (PW.pt (pw_or (pt_truth (pe_op op_and (pv 5) (pv 3)) (by intro _; rfl)) (pw_or1 (pt_not (pt_val (pe_cal c4 hr rfl (pa_cons (pv 2) (pa_cons (pv 5) pa_nil))) (by intro _; rfl)))))) pss_never pss_nil)
        (pss_cons (ps_if (PW.pt (pw_and (pt_cmpR op_gt (pv 4) pe_int (nomark _)) (pw_and1 (pt_cmpR (op_leT hr.units0) (pe_ix ix_tup (pv 1) (pv 4) (fun _ _ => rfl)) (pe_ix ix_tup (pv 1) (pe_op op_sub (pv 4) pe_int) (fun _ _ => rfl)) (nomark _))))) pss_never pss_nil)
        (pss_one (ps_aug (i := 3) sc_fault_of_plan.nd rfl (Or.inl rfl) (pv 5) iop_or)))))))
      (pss_cons (ps_if (pt_cmpR op_ne (pv 3) (pe_cal c5 hr1 rfl (pa_cons (pv 0) pa_nil)) (nomark _)) pss_never pss_nil)
      (pss_one (ps_ret pe_non)))))), ?_⟩
    obtain ⟨a, xs, rfl, h1, h2⟩ := dp_tup hv
    have hlen := dpAll_len h2
    rw [List.length_map] at hlen
    have hfew := PO.w.few
    have h12 := ok.most
    have hpos : 0 < ws.length := List.length_pos_iff.mpr PO.ne
    refine ⟨_, rfl, _, "tuple", rfl, .tup h1, "tuple", "tuple", rfl, rfl, by decide, by decide, false, rfl, ?_⟩
    refine iteF ⟨_, rfl, _, xs.length, rfl, .inr ⟨_, h1, rfl⟩, rfl, _, rfl, ?_⟩
    rw [decide_eq_false (fun z => by have := V.int.inj z; omega)]
    refine iteF ?_
    refine ⟨_, rfl, l, fs, bs, rfl, hl, h12, ok.bord, fun q H2 lk x2 hq0 hq L => ?_⟩
    refine ⟨_, rfl, _, xs.length, rfl, .inr ⟨_, x2.sqT h1, rfl⟩, _, rfl, by omega, by omega, for_range (lo := 0) (n := (xs.length : Int).toNat) (fun i σ H3 => ∃ (T : Nat) (o4 o5 : Option V), σ = [some l, some (.ref a), some (.ref q), some (.int (T : Int)), o4, o5] ∧ Ext H2 H3 ∧ ∀ x, T.testBit x = true ↔ ∃ j u, j < i ∧ ws[j]? = some u ∧ x ∈ u)
      ⟨0, _, _, rfl, .refl _, fun x => ⟨fun h => by simp at h, fun ⟨j, u, hj, _⟩ => by omega⟩⟩ ?_ ?_⟩
    · rintro i σ H3 hi ⟨T, o4, o5, rfl, x3, hTb⟩
      rw [Int.toNat_natCast] at hi
      rw [Int.zero_add]
      have hiw : i < ws.length := by omega
      have hw := List.getElem?_eq_getElem hiw
      have hmem := List.getElem_mem hiw
      have lo := PO.w.lots _ hmem
      have hlw := lo.len
      obtain ⟨wv, hwv, hdw⟩ := dpAll_get h2 (i := i) (d := lotD ws[i]) (by rw [List.getElem?_map, hw]; rfl)
      have x23 := x2.trans x3
      refine ⟨_, rfl, _, rfl, _, rfl, a, _, _, _, rfl, rfl, x23.sqT h1, atI_nat hwv, l, wv, fs, _, ws[i], rfl, dp_ext x23 hl, by omega, dp_ext x23 hdw, by omega, x23.tabs _ hT1, x23.tabs _ hT2, fun H4 x4 => ⟨true, by rw [lo.is], iteF ?_⟩⟩
      have x24 := x23.trans x4
      refine ⟨_, rfl, _, rfl, a, _, _, _, rfl, rfl, x24.sqT h1, atI_nat hwv, wv, ws[i], rfl, dp_ext x24 hdw, fun p hp => by have := lo.lt p hp; omega, x24.tabs _ hT3, fun H5 x5 => ?_⟩
      have x25 := x24.trans x5
      have hbit := Mk.bit_mask lo.asc
      have hdis : Mk.mask ws[i] &&& T = 0 := Mk.eq_of_bits fun x => by
        rw [Nat.testBit_and, Bool.and_eq_true, hbit, decide_eq_true_eq, hTb, Nat.zero_testBit]
        constructor
        · rintro ⟨hx, j, u, hj, hu, hxu⟩
          have := PO.w.apart i j x x _ u hw hu hx hxu rfl
          omega
        · intro z; cases z
      have hand : Builtin.bitAnd ((Mk.mask ws[i] : Nat) : Int) (T : Int) = 0 := by rw [and_pp, hdis]; rfl
      dsimp only [gName, List.set, tSeq]
      -- ward & taken, hangs_together
      obtain ⟨lh, hlh, hlh1⟩ := PO.hang _ hmem
      have hq5 := ((x3.trans x4).trans x5).lst hq
      refine ⟨_, rfl, _, rfl, _, _, rfl, rfl, false, (by show TruV K (V.int (Builtin.bitAnd ((Mk.mask ws[i] : Nat) : Int) (T : Int))) H5 false; rw [hand]; rfl), ?_⟩
      refine iteF ?_
      refine ⟨_, rfl, _, rfl, q, lk, fs.length, Mk.mask ws[i], bs, rfl, hq5, L, ok.bord, h12, Mk.mask_lt lo.asc lo.lt, mask_pos lo.asc lo.ne, x25.tabs _ hT4, fun b H6 x6 hb => ?_⟩
      have eb := hb lh hlh
      rw [decide_eq_true hlh1] at eb
      subst eb
      have x26 := x25.trans x6
      refine ⟨true, rfl, iteF ?_⟩
      -- the sequence of the wards
      have fin : ∀ H7, Ext H6 H7 → ∃ (T2 : Nat) (u4 u5 : Option V), ([some l, some (.ref a), some (.ref q), some (.int ((T ||| Mk.mask ws[i] : Nat) : Int)), some (.int (i : Int)), some (.int ((Mk.mask ws[i] : Nat) : Int))] : L2.St) = [some l, some (.ref a), some (.ref q), some (.int (T2 : Int)), u4, u5] ∧ Ext H2 H7 ∧ ∀ x, T2.testBit x = true ↔ ∃ j u, j < i + 1 ∧ ws[j]? = some u ∧ x ∈ u := fun H7 x7 => by
        refine ⟨T ||| Mk.mask ws[i], _, _, rfl, ((x3.trans x4).trans (x5.trans x6)).trans x7, fun x => ?_⟩
        rw [Nat.testBit_or, Bool.or_eq_true, hTb, hbit, decide_eq_true_eq]
        constructor
        · rintro (⟨j, u, hj, hu, hx⟩ | hx)
          · exact ⟨j, u, by omega, hu, hx⟩
          · exact ⟨i, _, by omega, hw, hx⟩
        · rintro ⟨j, u, hj, hu, hx⟩
          by_cases z : j = i
          · subst z
            rw [hw] at hu
            cases hu
            exact .inr hx
          · exact .inl ⟨j, u, by omega, hu, hx⟩
      refine ⟨_, rfl, _, _, rfl, rfl, decide (0 < i), ?_, ?_⟩
      · show V.bl (decide ((0 : Int) < (i : Int))) = _
        congr 1
        apply decide_eq_decide.mpr
        omega
      by_cases hi0 : 0 < i
      · rw [decide_eq_true hi0]
        refine iteT ?_
        have hiw2 : i - 1 < ws.length := by omega
        have hw2 := List.getElem?_eq_getElem hiw2
        have lo2 := PO.w.lots _ (List.getElem_mem hiw2)
        obtain ⟨wv2, hwv2, hdw2⟩ := dpAll_get h2 (i := i - 1) (d := lotD ws[i - 1]) (by rw [List.getElem?_map, hw2]; rfl)
        obtain ⟨aw, rfl, hsw⟩ := dp_lot hdw
        obtain ⟨aw2, rfl, hsw2⟩ := dp_lot hdw2
        have hlt := List.pairwise_iff_getElem.mp PO.asc (i - 1) i hiw2 hiw (by omega)
        have ecast : ∀ u : List Nat, (u.map fun (p : Nat) => V.int (p : Int)) = (u.map fun (p : Nat) => (p : Int)).map V.int := fun u => by rw [List.map_map]; rfl
        have e1 : (i : Int) - 1 = ((i - 1 : Nat) : Int) := by omega
        refine ⟨_, rfl, _, rfl, a, _, _, _, rfl, rfl, x26.sqT h1, atI_nat hwv, _, rfl, _, rfl, _, _, rfl, rfl, a, _, _, _, rfl, rfl, x26.sqT h1, by rw [e1]; exact atI_nat hwv2, aw, aw2, ws[i].map fun (p : Nat) => (p : Int), ws[i - 1].map fun (p : Nat) => (p : Int), rfl, rfl, by rw [← ecast]; exact x26.sqT hsw, by rw [← ecast]; exact x26.sqT hsw2, false, ?_, iteF ?_⟩
        · congr 1
          exact lexN_false lo.ne lo2.ne hlt
        · refine ⟨_, rfl, _, rfl, _, _, rfl, rfl, ?_⟩
          dsimp only [List.set]
          rw [or_pp]
          exact fin H6 (.refl _)
      · rw [decide_eq_false hi0]
        refine iteF (iteF ?_)
        refine ⟨_, rfl, _, rfl, _, _, rfl, rfl, ?_⟩
        dsimp only [List.set]
        rw [or_pp]
        exact fin H6 (.refl _)
    · rintro σ H3 ⟨T, o4, o5, rfl, x3, hTb⟩
      rw [Int.toNat_natCast] at hTb
      have x23 := x2.trans x3
      refine ⟨_, rfl, _, rfl, l, fs, _, rfl, dp_ext x23 hl, h12, rfl, _, rfl, ?_⟩
      have hT9 : T = 2 ^ fs.length - 1 := Mk.eq_of_bits fun x => by
        rw [hTb, Nat.testBit_two_pow_sub_one, decide_eq_true_eq]
        constructor
        · rintro ⟨j, u, _, hu, hx⟩
          exact (PO.w.lots u (List.mem_of_getElem? hu)).lt x hx
        · intro hx
          obtain ⟨u, hu, hxu⟩ := PO.all x hx
          obtain ⟨j, hj, e⟩ := List.getElem_of_mem hu
          exact ⟨j, u, by omega, by rw [List.getElem?_eq_getElem hj, e], hxu⟩
      have e2 : (!decide (V.int (T : Int) = V.int ((2 ^ fs.length - 1 : Nat) : Int))) = false := by rw [hT9]; simp
      rw [e2]
      exact iteF (k H3 x23)
/-! ### check_plan -/
theorem sc_check_plan : FnScope ["land", "plan", "index"] ["land", "plan"] (defScope st_check_plan) := ⟨rfl, rfl, rfl, by decide +kernel, rfl, by decide +kernel, by decide +kernel⟩
theorem ok_check_plan {f T1 T2 T3 T4 : Addr} {fd : FuncData} (F : Fun K "check_plan" "check_plan" st_check_plan f fd) (c1 : Cal P w K mg base 9 "fault_of_plan" ["land", "value"] (spFaultPlan K T1 T2 T3 T4)) : FnOk P w K mg base CX0 10 f fd ["land", "plan"] (spFaultPlan K T1 T2 T3 T4) := by
  refine F.ok sc_check_plan (fun vs H Q E h => ?_) (fun cdv A outer s H vs Q E hr h => ?_)
  · obtain ⟨l, v, fs, bs, ws, rfl, _⟩ := h
    rfl
  · obtain ⟨l, v, fs, bs, ws, rfl, hl, ok, hv, PO, hT, k⟩ := h
    refine ⟨_, pss_cons (ps_set (i := 2) sc_check_plan.nd rfl (Or.inl rfl) (pe_cal c1 hr rfl (pa_cons (pv 0) (pa_cons (pv 1) pa_nil))))
      (pss_one (ps_if (pt_cmpR op_notN (pv 2) pe_non (nomark _)) pss_never pss_nil)), ?_⟩
    exact ⟨_, rfl, _, rfl, l, v, fs, bs, ws, rfl, hl, ok, hv, PO, hT, fun H2 x2 => ⟨_, rfl, rfl, false, rfl, iteF (k H2 x2)⟩⟩
end
section
variable {P : Program} {w : World} {K : PySem.W.Frag} {mg : Str → Option Value} {base : Heap}
/-! ### a drawn plan -/
theorem bit_r {r : List Nat} (h : r.Pairwise (· < ·)) (x : Nat) : (Mk.mask r).testBit x = true ↔ x ∈ r := by
  rw [Mk.bit_mask h, decide_eq_true_eq]
theorem planOk_of {n : Nat} {bs ks : List (Nat × Nat)} {rs : List (List Nat)} (hn : n ≤ 12) (hn0 : 0 < n) (hk : ∀ b ∈ ks, b ∈ bs) (hg : ∀ r ∈ rs, r.Pairwise (· < ·) ∧ ∀ x ∈ r, x ∈ List.range n) (hl : rs.length ≤ n) (hp : Mk.Pcs ks (Mk.mask (List.range n)) (rs.map Mk.mask)) : PlanOk n bs rs := by
  have D := hp.parted
  have hne : ∀ r ∈ rs, r ≠ [] := fun r hr e => by
    obtain ⟨x, hx, _⟩ := D.one _ (List.mem_map.mpr ⟨r, hr, rfl⟩)
    rw [bit_r (hg r hr).1, e] at hx
    cases hx
  have hlots : ∀ r ∈ rs, LotOk n r := fun r hr => ⟨hne r hr, fun p hp => List.mem_range.mp ((hg r hr).2 p hp), (hg r hr).1⟩
  have hap : ∀ i j (hi : i < rs.length) (hj : j < rs.length), i < j → ∀ x, x ∈ rs[i] → x ∈ rs[j] → False := fun i j hi hj hij x h1 h2 => by
    have hpw := List.pairwise_iff_getElem.mp D.apart i j (by rw [List.length_map]; exact hi) (by rw [List.length_map]; exact hj) hij
    rw [List.getElem_map, List.getElem_map] at hpw
    exact hpw x ((bit_r (hg _ (List.getElem_mem hi)).1 x).mpr h1) ((bit_r (hg _ (List.getElem_mem hj)).1 x).mpr h2)
  refine ⟨⟨by omega, hlots, hn, fun i j a b u v hu hv ha hb e => ?_⟩, fun e => ?_, fun u hu => ?_, ?_, fun p hp => ?_⟩
  · subst e
    obtain ⟨hi, rfl⟩ := List.getElem?_eq_some_iff.mp hu
    obtain ⟨hj, rfl⟩ := List.getElem?_eq_some_iff.mp hv
    rcases Nat.lt_trichotomy i j with z | z | z
    · exact (hap i j hi hj z a ha hb).elim
    · exact z
    · exact (hap j i hj hi z a hb ha).elim
  · obtain ⟨q, hq, _⟩ := (D.all 0).mp ((bit_r List.pairwise_lt_range 0).mpr (List.mem_range.mpr hn0))
    rw [e] at hq
    cases hq
  · obtain ⟨x, hx, hc⟩ := D.one _ (List.mem_map.mpr ⟨u, hu, rfl⟩)
    have ha := (hg u hu).1
    rw [bit_r ha] at hx
    refine ⟨_, Mk.pcs_one ha hx fun y hy => ?_, rfl⟩
    exact ((hc y ((bit_r ha y).mpr hy)).more hk).mono fun z hz => (bit_r ha z).mp hz
  · rw [List.pairwise_iff_getElem]
    intro i j hi hj hij
    have hpw := List.pairwise_iff_getElem.mp D.asc i j (by rw [List.length_map]; exact hi) (by rw [List.length_map]; exact hj) hij
    rw [List.getElem_map, List.getElem_map] at hpw
    obtain ⟨x, hx, hlt⟩ := hpw
    have a1 := (hg _ (List.getElem_mem hi)).1
    have a2 := (hg _ (List.getElem_mem hj)).1
    have n2 := hne _ (List.getElem_mem hj)
    rw [bit_r a1] at hx
    generalize rs[i] = u at *
    generalize rs[j] = v at *
    cases u with
    | nil => cases hx
    | cons p r =>
      cases v with
      | nil => exact absurd rfl n2
      | cons q s =>
        show p < q
        have h1 := hlt q ((bit_r a2 q).mpr List.mem_cons_self)
        rcases List.mem_cons.mp hx with e | e
        · omega
        · have := List.rel_of_pairwise_cons a1 e
          omega
  · obtain ⟨q, hq, hx⟩ := (D.all p).mp ((bit_r List.pairwise_lt_range p).mpr (List.mem_range.mpr hp))
    obtain ⟨r, hr, rfl⟩ := List.mem_map.mp hq
    exact ⟨r, hr, (bit_r (hg r hr).1 p).mp hx⟩
def spLPlan (K : PySem.W.Frag) : Sp := fun vs H Q _ => ∃ (sp gr : Addr) (l : V) (fs : List Int) (bs : List (Nat × Nat)), vs = [.ref sp, l] ∧ SpAt H sp gr ∧ Dp K H l (landD fs bs) ∧ LandOk fs bs ∧
  ∀ q (ws : List (List Nat)) H', ExtS [sp, gr] H H' → SpAt H' sp gr → H q = none → Dp K H' (.ref q) (planD ws) → PlanOk fs.length bs ws → Q (.ref q) H'
theorem sc_law_plan : FnScope ["spring", "land", "rarely", "kept", "border"] ["spring", "land"] (defScope st__law_plan) := ⟨rfl, rfl, rfl, by decide +kernel, rfl, by decide +kernel, by decide +kernel⟩
theorem ok_law_plan {f : Addr} {fd : FuncData} (F : Fun K "_law_plan" "_law_plan" st__law_plan f fd) (B : Bl mg) (c1 : Cal P w K mg base 1 "_law_drop" ["spring", "many"] (spDrop K)) (c2 : Cal P w K mg base 3 "_law_pieces" ["land", "lot"] (spLPieces K)) : FnOk P w K mg base CX0 4 f fd ["spring", "land"] (spLPlan K) := by
  refine F.ok sc_law_plan (fun vs H Q E h => ?_) (fun cdv A outer s H vs Q E hr h => ?_)
  · obtain ⟨sp, gr, l, fs, bs, rfl, _⟩ := h
    rfl
  · obtain ⟨sp, gr, l, fs, bs, rfl, S, hl, ok, k⟩ := h
    have hr1 := hr.mono (j := 1) (by decide)
    refine ⟨_, pss_cons (ps_set (i := 2) sc_law_plan.nd rfl (Or.inr rfl) (pe_op op_add pe_int (pe_cal c1 hr1 rfl (pa_cons (pv 0) (pa_cons pe_int pa_nil)))))
      (pss_cons (ps_set (i := 3) sc_law_plan.nd rfl (Or.inl rfl) (pe_tupleOf rfl B.tuple (pe_lc (own := [("border", 4)]) (g := gName 4) (by rfl) sc_law_plan.nd (pi_tup (pe_ix ix_tup (pv 1) pe_int (fun _ _ => rfl)))
          (blkOk_by (own := [("border", 4)]) (N := ["spring", "land", "rarely", "kept", "border"]) (sc := defScope st__law_plan) (by decide +kernel)) (fun _ _ _ _ _ => pg_name (i := 4) sc_law_plan.nd rfl (Or.inl rfl))
          (fun _ _ _ _ _ => pts_one (pt_cmpR op_gt (pe_cal c1 hr1 rfl (pa_cons (pv 0) (pa_cons (pe_op op_add (pv 2) pe_int) pa_nil))) pe_int (nomark _))) (fun _ _ _ _ _ => pv 4))))
      (pss_one (ps_ret (pe_cal c2 hr rfl (pa_cons (pe_tup (pa_cons (pe_ix ix_tup (pv 1) pe_int (fun _ _ => rfl)) (pa_cons (pv 3) pa_nil))) (pa_cons (pe_tupRg rfl rfl B.tuple (prg_1 rfl B.range (pe_callB call_len (by rfl) B.len PySem.boot_len (pa_cons (pe_ix ix_tup (pv 1) pe_int (fun _ _ => rfl)) pa_nil)))) pa_nil)))))), ?_⟩
    obtain ⟨a, af, vb, rfl, h1, h2, h3⟩ := dp_land hl
    obtain ⟨ab, xs, rfl, h4, h5⟩ := dp_tup h3
    have hxl := dpAll_len h5
    rw [List.length_map] at hxl
    have hbl := bs_len ok.most ok.bord ok.asc
    refine ⟨_, rfl, sp, gr, 4, rfl, S, by decide, by decide, fun ra H1 hra x1 S1 => ⟨_, _, rfl, rfl, ?_⟩⟩
    dsimp only [gName, tSeq, List.set, L2.start, List.map, List.length, List.replicate, List.append]
    rw [show (1 : Int) + (ra : Int) = ((1 + ra : Nat) : Int) from by omega]
    have hrr : 1 + ra ≤ 10 := by omega
    generalize 1 + ra = rr at hrr ⊢
    refine ⟨_, rfl, a, _, _, _, rfl, rfl, x1.sqT h1, atI_nat (j := 1) rfl, ab, rfl, ⟨_, x1.sqT h4⟩, fun D hD => ?_⟩
    have hDn := S1.notin hD
    refine lc_tup (K := K) (a := ab) (xs := xs) (fun i H2 => ∃ (as : List V) (ks : List (Nat × Nat)), H2 D = some (.lst as) ∧ as.length ≤ i ∧ DpAll K H2 as (ks.map fun (b : Nat × Nat) => .tuple [.int (b.1 : Int), .int (b.2 : Int)]) ∧ (∀ b ∈ ks, b ∈ bs) ∧ SpAt H2 sp gr ∧ ExtS [sp, gr] H H2)
      ⟨[], [], upd_same, Nat.le_refl _, .nil, (fun b hb => by cases hb), S1.ext (.new hD), x1.trans (.new hD)⟩ (fun i H2 _ ⟨_, _, _, _, _, _, _, x2⟩ => x2.sqT h4) (fun i y H2 hy ⟨as, ks, e2, hal, hda, hks, S2, x2⟩ => ?_) (fun H2 ⟨as, ks, e2, hal, hda, hks, S2, x2⟩ => ?_)
    · have hi : i < bs.length := by
        have := (List.getElem?_eq_some_iff.mp hy).1
        omega
      obtain ⟨dy, hdy, hpy⟩ := dpAll_get' h5 hy
      rw [List.getElem?_map, List.getElem?_eq_getElem hi] at hdy
      have hdy := (Option.some.inj hdy).symm
      subst hdy
      have e3 : (rr : Int) + 1 = ((rr + 1 : Nat) : Int) := by omega
      refine ⟨rfl, _, rfl, _, rfl, _, _, rfl, rfl, sp, gr, rr + 1, by show [V.ref sp, V.int ((rr : Int) + 1)] = _; rw [e3], S2, by omega, by omega, fun z H3 hz x3 S3 => ⟨_, _, rfl, rfl, _, rfl, ?_⟩⟩
      have nl : noLs (ks.map fun (b : Nat × Nat) => PyData.tuple [.int (b.1 : Int), .int (b.2 : Int)]) = true := noLs_map _ (fun _ => rfl) ks
      have hda3 := dpAll_extS x3 nl hda
      have e23 := x3.lst hDn e2
      refine ite2 (fun _ => ?_) (fun _ => ⟨as, ks, e23, by omega, hda3, hks, S3, x2.trans x3⟩)
      have x4 : ExtS [D] H3 (upd H3 D (.lst (as ++ [y]))) := (ExtS.refl [D] H3).write (.inr ⟨by simp, _, e23⟩)
      refine ⟨_, rfl, as, e23, small1000 (by omega), as ++ [y], ks ++ [bs[i]], upd_same, by rw [List.length_append]; exact Nat.add_le_add_right hal 1, ?_, fun b hb => ?_, S3.upd (fun z => hDn (by simp [z])) (fun z => hDn (by simp [z])), (x2.trans x3).write (.inl (x1.free hD))⟩
      · rw [List.map_append]
        refine dpAll_app (dpAll_extS x4 nl hda3) (.cons (dp_extS x4 rfl (dp_extS (x2.trans x3) rfl hpy)) .nil)
      · rcases List.mem_append.mp hb with e | e
        · exact hks b e
        · rw [List.mem_singleton.mp e]
          exact List.getElem_mem hi
    · refine .inl ⟨D, _, rfl, SqL.of e2, fun q hq => ?_⟩
      have x3 : ExtS [sp, gr] H (upd H2 q (.tup as)) := x2.trans (.new hq)
      have S3 : SpAt (upd H2 q (.tup as)) sp gr := S2.ext (.new hq)
      have hkd : Dp K (upd H2 q (.tup as)) (.ref q) (bordD ks) := dp_new hq hda
      have hqf := x2.free hq
      generalize upd H2 q (.tup as) = H3 at x3 S3 hkd ⊢
      refine ⟨_, rfl, a, _, _, _, rfl, rfl, x3.sqT h1, atI_nat (j := 0) rfl, _, rfl, by show 2 ≤ sizeLine; decide, fun t ht => ?_⟩
      have x4 : ExtS [sp, gr] H (upd H3 t (.tup [.ref af, .ref q])) := x3.trans (.new ht)
      have hland : Dp K (upd H3 t (.tup [.ref af, .ref q])) (.ref t) (landD fs ks) := dp_new ht (.cons (.tup (x3.sqT h2) (dpAll_of_ints fs)) (.cons hkd .nil))
      have S4 : SpAt (upd H3 t (.tup [.ref af, .ref q])) sp gr := S3.ext (.new ht)
      generalize upd H3 t (.tup [.ref af, .ref q]) = H4 at x4 hland S4 ⊢
      refine ⟨_, rfl, a, _, _, _, rfl, rfl, x4.sqT h1, atI_nat (j := 0) rfl, _, fs.length, rfl, .inr ⟨_, x4.sqT h2, by simp⟩, _, rfl, ⟨by decide, by decide, by have := ok.most; omega, by have := ok.most; omega, by have := ok.most; omega⟩, fun r hr0 => ?_⟩
      rw [rgV_nat]
      have x5 : Ext H4 (upd H4 r (.tup (vsN (List.range fs.length)))) := .new hr0
      refine ⟨.ref t, r, fs, ks, List.range fs.length, rfl, dp_ext x5 hland, ok.most, fun b hb => ok.bord b (hks b hb), SqT.of upd_same, fun x hx => List.mem_range.mp hx, List.pairwise_lt_range, fun q2 H6 rs x6 hq20 hrs hgood hrl hpcs => ?_⟩
      have x7 := (x4.trans (.of x5)).trans (ExtS.of x6)
      rw [List.length_range] at hrl
      exact k q2 rs H6 x7 ((S4.ext x5).ext x6) ((x4.trans (.of x5)).free hq20) hrs (planOk_of ok.most (by have := ok.few; omega) hks hgood hrl hpcs)
end
end Wd

set_option Elab.async false
set_option linter.all false
set_option maxRecDepth 100000
set_option maxHeartbeats 4000000
namespace Wd
open PySem PySem.Spec PyProof.Rows L2 Bx Gx














































section
/-! ### sorted lots -/
theorem perm_unmap {α β : Type} (f : α → β) {es fs : List β} (h : es.Perm fs) : ∀ {ws : List α}, fs = ws.map f → ∃ vs : List α, vs.Perm ws ∧ es = vs.map f := by
  induction h with
  | nil => intro ws e; cases ws with
    | nil => exact ⟨[], .refl _, rfl⟩
    | cons _ _ => cases e
  | cons x _ ih => intro ws e; cases ws with
    | nil => cases e
    | cons w ws =>
      injection e with e1 e2
      obtain ⟨vs, h1, h2⟩ := ih e2
      exact ⟨w :: vs, h1.cons w, by rw [List.map_cons, ← e1, h2]⟩
  | swap x y l => intro ws e; match ws, e with
    | a :: b :: ws, e =>
      injection e with e1 e
      injection e with e2 e3
      exact ⟨b :: a :: ws, .swap _ _ _, by rw [List.map_cons, List.map_cons, ← e1, ← e2, ← e3]⟩
  | trans _ _ ih1 ih2 => intro ws e; obtain ⟨vs, h1, h2⟩ := ih2 e; obtain ⟨us, h3, h4⟩ := ih1 h2; exact ⟨us, h3.trans h1, h4⟩
theorem perm_uniq {α : Type} {R : α → α → Prop} (as_ : ∀ a b, R a b → R b a → False) : ∀ {l m : List α}, l.Perm m → l.Pairwise R → m.Pairwise R → l = m
  | [], m, h, _, _ => (List.Perm.nil_eq h)
  | a :: l, [], h, _, _ => absurd h.length_eq (by simp)
  | a :: l, b :: m, h, hl, hm => by
    have hl' := List.pairwise_cons.mp hl
    have hm' := List.pairwise_cons.mp hm
    have e : a = b := by
      rcases List.mem_cons.mp (h.mem_iff.mp List.mem_cons_self) with e | e
      · exact e
      · rcases List.mem_cons.mp (h.mem_iff.mpr List.mem_cons_self) with f | f
        · exact f.symm
        · exact (as_ _ _ (hl'.1 b f) (hm'.1 a e)).elim
    subst e
    rw [perm_uniq as_ h.cons_inv hl'.2 hm'.2]
theorem lt_lots {u v : List Nat} (hu : u ≠ []) (hv : v ≠ []) (h : u.headD 0 ≠ v.headD 0) : PySem.W.dataLt (lotD u) (lotD v) = decide (u.headD 0 < v.headD 0) := by
  match u, hu with
  | a :: r, _ =>
    match v, hv with
    | b :: s, _ =>
      have hne : a ≠ b := h
      have e : PyData.eqv (.int (a : Int)) (.int (b : Int)) = false := by simp [PyData.eqv]; omega
      show PySem.W.dataLt (.tuple (.int (a : Int) :: _)) (.tuple (.int (b : Int) :: _)) = decide (a < b)
      rw [PySem.W.dataLt_tuple, PySem.W.dataLt_cons (by simp [PySem.W.alike]), e, if_neg Bool.false_ne_true, PySem.W.dataLt_int]
      exact decide_eq_decide.mpr (by omega)
abbrev hdLt (u v : List Nat) : Prop := u.headD 0 < v.headD 0
theorem sorted_lots {ws : List (List Nat)} (ne : ∀ u ∈ ws, u ≠ []) (asc : ws.Pairwise hdLt) {us : List (List Nat)} (hus : us.Perm ws) {es : List PyData} (pm : es.Perm (us.map lotD)) (pw : es.Pairwise fun d e => PySem.W.dataLt e d = false) : es = ws.map lotD := by
  obtain ⟨vs, h1, rfl⟩ := perm_unmap lotD pm rfl
  have h2 := h1.trans hus
  have nd : vs.Pairwise fun u v => u.headD 0 ≠ v.headD 0 := by
    have : ws.Pairwise fun u v => u.headD 0 ≠ v.headD 0 := asc.imp fun h => Nat.ne_of_lt h
    exact (h2.pairwise_iff (fun {a b} h => h.symm)).mpr this
  have hv : vs.Pairwise hdLt := by
    rw [List.pairwise_map] at pw
    refine List.Pairwise.imp_of_mem (fun {u v} hu hv h => ?_) (pw.and nd)
    have z := h.1
    rw [lt_lots (ne v (h2.mem_iff.mp hv)) (ne u (h2.mem_iff.mp hu)) h.2.symm, decide_eq_false_iff_not] at z
    have := h.2
    show u.headD 0 < v.headD 0
    omega
  rw [perm_uniq (R := hdLt) (fun a b h1 h2 => by unfold hdLt at h1 h2; omega) h2 hv asc]
theorem alike_lots (u v : List Nat) : PySem.W.alike (lotD u) (lotD v) = true := by
  have := PySem.W.alike_ints (u.map fun (p : Nat) => (p : Int)) (v.map fun (p : Nat) => (p : Int))
  rw [List.map_map, List.map_map] at this
  exact this
theorem allAlike_lots (us : List (List Nat)) : PySem.W.AllAlike (us.map lotD) := PySem.W.AllAlike.of alike_lots
theorem sortable_lots {us : List (List Nat)} (ne : ∀ u ∈ us, u ≠ []) : PySem.W.Sortable (us.map lotD) := .inl fun d hd => by
  obtain ⟨u, hu, rfl⟩ := List.mem_map.mp hd
  match u, ne u hu with
  | a :: r, _ => exact ⟨_, _, rfl⟩
theorem depth_lots {us : List (List Nat)} : ∀ d ∈ us.map lotD, d.depth ≤ 40 := fun d hd => by
  obtain ⟨u, _, rfl⟩ := List.mem_map.mp hd
  have : PyData.depthAll (u.map fun (p : Nat) => PyData.int (p : Int)) ≤ 0 := depthAll_le fun d hd => by
    obtain ⟨p, _, rfl⟩ := List.mem_map.mp hd
    simp [PyData.depth]
  show PyData.depth (.tuple _) ≤ 40
  simp only [PyData.depth]
  omega
end
end Wd

set_option Elab.async false
set_option linter.all false
set_option maxRecDepth 100000
set_option maxHeartbeats 4000000
namespace Wd
open PySem PySem.Spec PyProof.Rows L2 Bx Gx














































section
/-! ### the places of a row, put together by their numbers -/
def rowKeys (ns : List Int) : Nat → List Int
  | 0 => []
  | t + 1 => if ns.getD t 0 ∈ rowKeys ns t then rowKeys ns t else rowKeys ns t ++ [ns.getD t 0]
def rowLot (ns : List Int) (t : Nat) (k : Int) : List Nat := (List.range t).filter fun i => decide (ns.getD i 0 = k)
def rowLots (ns : List Int) (t : Nat) : List (List Nat) := (rowKeys ns t).map (rowLot ns t)
theorem rowLot_succ (ns : List Int) (t : Nat) (k : Int) : rowLot ns (t + 1) k = rowLot ns t k ++ if ns.getD t 0 = k then [t] else [] := by
  rw [rowLot, List.range_succ, List.filter_append]
  congr 1
  by_cases h : ns.getD t 0 = k
  · rw [if_pos h]
    simp only [List.filter, decide_eq_true h]
  · rw [if_neg h]
    simp only [List.filter, decide_eq_false h]
theorem rowLot_mem {ns : List Int} {t i : Nat} {k : Int} : i ∈ rowLot ns t k ↔ i < t ∧ ns.getD i 0 = k := by
  unfold rowLot
  rw [List.mem_filter, List.mem_range, decide_eq_true_eq]
theorem rowKeys_mem {ns : List Int} {k : Int} : ∀ {t : Nat}, k ∈ rowKeys ns t ↔ ∃ i, i < t ∧ ns.getD i 0 = k
  | 0 => ⟨(fun h => nomatch h), fun ⟨i, h, _⟩ => absurd h (Nat.not_lt_zero i)⟩
  | t + 1 => by
    have ih := rowKeys_mem (ns := ns) (k := k) (t := t)
    have up : (∃ i, i < t + 1 ∧ ns.getD i 0 = k) ↔ (∃ i, i < t ∧ ns.getD i 0 = k) ∨ ns.getD t 0 = k := by
      constructor
      · rintro ⟨i, hi, e⟩
        by_cases z : i = t
        · exact .inr (z ▸ e)
        · exact .inl ⟨i, by omega, e⟩
      · rintro (⟨i, hi, e⟩ | e)
        · exact ⟨i, by omega, e⟩
        · exact ⟨t, by omega, e⟩
    rw [up, ← ih]
    show k ∈ (if ns.getD t 0 ∈ rowKeys ns t then rowKeys ns t else rowKeys ns t ++ [ns.getD t 0]) ↔ _
    by_cases h : ns.getD t 0 ∈ rowKeys ns t
    · rw [if_pos h]
      exact ⟨.inl, fun z => z.elim id fun e => e ▸ h⟩
    · rw [if_neg h, List.mem_append, List.mem_singleton]
      exact ⟨fun z => z.imp id Eq.symm, fun z => z.imp id Eq.symm⟩
theorem rowKeys_nodup (ns : List Int) : ∀ t, (rowKeys ns t).Nodup
  | 0 => .nil
  | t + 1 => by
    show (if ns.getD t 0 ∈ rowKeys ns t then rowKeys ns t else rowKeys ns t ++ [ns.getD t 0]).Nodup
    by_cases h : ns.getD t 0 ∈ rowKeys ns t
    · rw [if_pos h]; exact rowKeys_nodup ns t
    · rw [if_neg h]
      refine List.nodup_append.mpr ⟨rowKeys_nodup ns t, by simp, fun x hx y hy e => h ?_⟩
      rw [List.mem_singleton.mp hy] at e
      exact e ▸ hx
theorem rowKeys_len (ns : List Int) : ∀ t, (rowKeys ns t).length ≤ t
  | 0 => Nat.zero_le _
  | t + 1 => by
    have ih := rowKeys_len ns t
    show (if ns.getD t 0 ∈ rowKeys ns t then rowKeys ns t else rowKeys ns t ++ [ns.getD t 0]).length ≤ t + 1
    split
    · omega
    · rw [List.length_append]; exact Nat.succ_le_succ ih
theorem rowLot_ne {ns : List Int} {t : Nat} {k : Int} (h : k ∈ rowKeys ns t) : rowLot ns t k ≠ [] := fun e => by
  obtain ⟨i, hi, e2⟩ := rowKeys_mem.mp h
  have := rowLot_mem.mpr ⟨hi, e2⟩
  rw [e] at this
  cases this
theorem rowLot_head {ns : List Int} {t : Nat} {k : Int} (h : k ∈ rowKeys ns t) : (rowLot ns t k).headD 0 < t ∧ ns.getD ((rowLot ns t k).headD 0) 0 = k := by
  have hne := rowLot_ne h
  cases e : rowLot ns t k with
  | nil => exact absurd e hne
  | cons a r => exact rowLot_mem.mp (by rw [e]; exact List.mem_cons_self)
theorem rowLot_head_succ {ns : List Int} {t : Nat} {k : Int} (h : k ∈ rowKeys ns t) : (rowLot ns (t + 1) k).headD 0 = (rowLot ns t k).headD 0 := by
  have hne := rowLot_ne h
  rw [rowLot_succ]
  cases e : rowLot ns t k with
  | nil => exact absurd e hne
  | cons a r => rfl
theorem rowKeys_asc (ns : List Int) : ∀ t, (rowKeys ns t).Pairwise fun k m => (rowLot ns t k).headD 0 < (rowLot ns t m).headD 0
  | 0 => .nil
  | t + 1 => by
    have ih := rowKeys_asc ns t
    have old : (rowKeys ns t).Pairwise fun k m => (rowLot ns (t + 1) k).headD 0 < (rowLot ns (t + 1) m).headD 0 :=
      ih.imp_of_mem fun {k m} hk hm h => by rw [rowLot_head_succ hk, rowLot_head_succ hm]; exact h
    show (if ns.getD t 0 ∈ rowKeys ns t then rowKeys ns t else rowKeys ns t ++ [ns.getD t 0]).Pairwise _
    by_cases h : ns.getD t 0 ∈ rowKeys ns t
    · rw [if_pos h]; exact old
    · rw [if_neg h, List.pairwise_append]
      refine ⟨old, List.pairwise_singleton _ _, fun k hk m hm => ?_⟩
      rw [List.mem_singleton.mp hm, rowLot_head_succ hk, rowLot_succ]
      have e : rowLot ns t (ns.getD t 0) = [] := by
        rw [rowLot, List.filter_eq_nil_iff]
        intro i hi z
        exact h (rowKeys_mem.mpr ⟨i, List.mem_range.mp hi, of_decide_eq_true z⟩)
      rw [e, if_pos rfl]
      exact (rowLot_head hk).1
theorem rowLots_asc (ns : List Int) (t : Nat) : (rowLots ns t).Pairwise hdLt := by
  rw [rowLots, List.pairwise_map]
  exact rowKeys_asc ns t
theorem rowLots_mem {ns : List Int} {t : Nat} {u : List Nat} (h : u ∈ rowLots ns t) : ∃ k, k ∈ rowKeys ns t ∧ u = rowLot ns t k := by
  obtain ⟨k, hk, rfl⟩ := List.mem_map.mp h
  exact ⟨k, hk, rfl⟩
theorem rowLots_ok {ns : List Int} {t : Nat} : ∀ u ∈ rowLots ns t, LotOk t u := fun u hu => by
  obtain ⟨k, hk, rfl⟩ := rowLots_mem hu
  exact ⟨rowLot_ne hk, fun p hp => (rowLot_mem.mp hp).1, List.pairwise_lt_range.filter _⟩
/-! ### what hangs together -/
def Hangs (bs : List (Nat × Nat)) (u : List Nat) : Prop := ∀ x ∈ u, ∀ y ∈ u, Mk.Conn bs (· ∈ u) x y
theorem rch_ex (bs : List (Nat × Nat)) (n m start : Nat) (h : m < 2 ^ n) : ∃ r, Mk.Rch bs m start r := by
  classical
  refine ⟨Mk.mask ((List.range n).filter fun q => decide (∃ p, start.testBit p = true ∧ Mk.Conn bs (Mk.In m) p q)), fun q => ?_⟩
  rw [Mk.bit_mask (List.pairwise_lt_range.filter _), decide_eq_true_eq, List.mem_filter, List.mem_range, decide_eq_true_eq]
  refine ⟨fun z => z.2, fun z => ⟨?_, z⟩⟩
  obtain ⟨p, _, hc⟩ := z
  exact Mk.lt_of_bit h hc.snd
theorem pcs_ex (bs : List (Nat × Nat)) (n : Nat) : ∀ m, m < 2 ^ n → ∃ l, Mk.Pcs bs m l := by
  intro m
  induction m using Nat.strongRecOn with
  | ind m ih =>
    intro hm
    by_cases h0 : m = 0
    · exact ⟨[], h0 ▸ .nil⟩
    · obtain ⟨q, hq, hlow, _⟩ := Mk.and_neg m (by omega)
      obtain ⟨r, hr⟩ := rch_ex bs n m (2 ^ q) hm
      have hrq : r.testBit q = true := (hr q).mpr ⟨q, by simp, .refl hq⟩
      have hlt := Mk.xor_lt hr.sub hrq
      obtain ⟨l, hl⟩ := ih (m ^^^ r) hlt (Nat.lt_trans hlt hm)
      exact ⟨r :: l, .cons hq hlow hr hl⟩
theorem hangs_len {bs : List (Nat × Nat)} {u : List Nat} (ha : u.Pairwise (· < ·)) (hne : u ≠ []) {l : List Nat} (h : Mk.Pcs bs (Mk.mask u) l) : l.length = 1 ↔ Hangs bs u := by
  refine ⟨fun e x hx y hy => Mk.one_pcs ha h e hx hy, fun hh => ?_⟩
  cases u with
  | nil => exact absurd rfl hne
  | cons p r => rw [(Mk.pcs_one ha List.mem_cons_self fun x hx => hh p List.mem_cons_self x hx).uniq h |>.symm]; rfl
theorem part_hangs {bs : List (Nat × Nat)} {u r : List Nat} {p : Nat} (ha : u.Pairwise (· < ·)) (hp : p ∈ u) (h : Part bs u p r) : r = u ↔ Hangs bs u := by
  refine ⟨fun e x hx y hy => ?_, fun hh => Mk.asc_ext h.asc ha fun q => ⟨fun hq => ((h.mem q).mp hq).snd, fun hq => (h.mem q).mpr (hh p hp q hq)⟩⟩
  rw [← e] at hx hy
  exact ((h.mem x).mp hx).symm.trans ((h.mem y).mp hy)
theorem part_head {u : List Nat} (h : u ≠ []) : u.headD 0 ∈ u := by
  cases u with
  | nil => exact absurd rfl h
  | cons a r => exact List.mem_cons_self
noncomputable def hangB (bs : List (Nat × Nat)) (u : List Nat) : Bool := @decide (Hangs bs u) (Classical.propDecidable _)
theorem hangB_iff {bs : List (Nat × Nat)} {u : List Nat} : hangB bs u = true ↔ Hangs bs u := by
  unfold hangB
  exact @decide_eq_true_iff _ (Classical.propDecidable _)
theorem hangB_of {bs : List (Nat × Nat)} {u : List Nat} {n : Nat} {b : Bool} (lo : LotOk n u) (h : ∀ qs, Mk.Pcs bs (Mk.mask u) qs → b = decide (qs.length = 1)) : b = hangB bs u := by
  obtain ⟨l, hl⟩ := pcs_ex bs n (Mk.mask u) (Mk.mask_lt lo.asc lo.lt)
  have e := hangs_len lo.asc lo.ne hl
  rw [h l hl]
  by_cases z : l.length = 1
  · rw [decide_eq_true z, hangB_iff.mpr (e.mp z)]
  · rw [decide_eq_false z]
    cases q : hangB bs u with
    | false => rfl
    | true => exact absurd (e.mpr (hangB_iff.mp q)) z
end
section
variable {K : PySem.W.Frag}
theorem sh_lot (n : Nat) (u : List Nat) : Sh (n + 2) (lotD u) := .tup fun d hd => by
  obtain ⟨p, _, rfl⟩ := List.mem_map.mp hd
  exact .int _ _
theorem eqvAll_nats : ∀ r u : List Nat, PyData.eqvAll (r.map fun (p : Nat) => PyData.int (p : Int)) (u.map fun (p : Nat) => PyData.int (p : Int)) = decide (r = u)
  | [], [] => by simp [PyData.eqvAll]
  | a :: r, [] => by simp [PyData.eqvAll]
  | [], b :: u => by simp [PyData.eqvAll]
  | a :: r, b :: u => by
    rw [List.map_cons, List.map_cons, PySem.W.eqv_all_cons, eqvAll_nats r u]
    have : PyData.eqv (.int (a : Int)) (.int (b : Int)) = decide (a = b) := by
      simp only [PyData.eqv]
      by_cases h : a = b
      · subst h; simp
      · rw [decide_eq_false h]
        simp
        omega
    rw [this]
    by_cases h : a = b
    · subst h; simp
    · simp [h]
theorem eqv_lots (r u : List Nat) : PyData.eqv (lotD r) (lotD u) = decide (r = u) := by
  rw [← eqvAll_nats r u]
  show PyData.eqv (.tuple _) (.tuple _) = _
  rw [PyData.eqv]
end
end Wd

set_option Elab.async false
set_option linter.all false
set_option maxRecDepth 100000
set_option maxHeartbeats 4000000
namespace Wd
open PySem PySem.Spec PyProof.Rows L2 Bx Gx














































section
variable {P : Program} {w : World} {K : PySem.W.Frag} {mg : Str → Option Value} {base : Heap}
/-! ### fault_of_plan, plan_fault, is_plan of any value -/
def lexI (ns ms : List Int) : Bool := Ob.lexAt (fun j => decide (ns.getD j 0 = ms.getD j 0)) (fun j => decide (ns.getD j 0 ≤ ms.getD j 0)) (decide (ns.length ≤ ms.length)) 0 (min ns.length ms.length)
/-- u comes no later than v -/
def lexLe (u v : List Nat) : Bool := lexI (u.map fun (p : Nat) => (p : Int)) (v.map fun (p : Nat) => (p : Int))
/-- the k-th ward's places -/
def wardAt (ds : List PyData) (k : Nat) : List Nat := natsD (ds.getD k .none)
/-- whether an earlier ward has a place of the k-th -/
def meetsW (ds : List PyData) (k : Nat) : Bool := (wardAt ds k).any fun p => (List.range k).any fun j => decide (p ∈ wardAt ds j)
noncomputable def badW (n : Nat) (bs : List (Nat × Nat)) (ds : List PyData) (k : Nat) : Bool :=
  !lotB n (ds.getD k .none) || (meetsW ds k || !hangB bs (wardAt ds k)) || (decide (0 < k) && lexLe (wardAt ds k) (wardAt ds (k - 1)))
def allW (n : Nat) (ds : List PyData) : Bool := (List.range n).all fun p => (List.range ds.length).any fun j => decide (p ∈ wardAt ds j)
noncomputable def planF (n : Nat) (bs : List (Nat × Nat)) : PyData → Option Int
  | .tuple ds => if ds.isEmpty = true then some 0 else match (List.range ds.length).find? (badW n bs ds) with
    | some k => some (k : Int)
    | none => if allW n ds = true then none else some (ds.length : Int)
  | _ => some 0
theorem planF_not {n : Nat} {bs : List (Nat × Nat)} {d : PyData} (h : ∀ ds, d ≠ .tuple ds) : planF n bs d = some 0 := by
  cases d with
  | tuple ds => exact absurd rfl (h ds)
  | _ => rfl
theorem planF_bad {n : Nat} {bs : List (Nat × Nat)} {ds : List PyData} {i : Nat} (hi : i < ds.length) (hok : ∀ j, j < i → badW n bs ds j = false) (hb : badW n bs ds i = true) : planF n bs (.tuple ds) = some (i : Int) := by
  have ef : (List.range ds.length).find? (badW n bs ds) = some i := List.find?_range_eq_some.mpr ⟨hb, List.mem_range.mpr hi, fun j hj => by rw [hok j hj]; rfl⟩
  have e0 : ds.isEmpty = false := by cases ds with
    | nil => exact absurd hi (Nat.not_lt_zero _)
    | cons _ _ => rfl
  show (if ds.isEmpty = true then some 0 else match (List.range ds.length).find? (badW n bs ds) with
    | some k => some (k : Int)
    | none => if allW n ds = true then none else some (ds.length : Int)) = _
  rw [e0, if_neg Bool.false_ne_true, ef]
theorem planF_fin {n : Nat} {bs : List (Nat × Nat)} {ds : List PyData} (h0 : 0 < ds.length) (hok : ∀ j, j < ds.length → badW n bs ds j = false) : planF n bs (.tuple ds) = if allW n ds = true then none else some (ds.length : Int) := by
  have ef : (List.range ds.length).find? (badW n bs ds) = none := List.find?_range_eq_none.mpr fun j hj => by rw [hok j hj]; rfl
  have e0 : ds.isEmpty = false := by cases ds with
    | nil => exact absurd h0 (Nat.not_lt_zero _)
    | cons _ _ => rfl
  show (if ds.isEmpty = true then some 0 else match (List.range ds.length).find? (badW n bs ds) with
    | some k => some (k : Int)
    | none => if allW n ds = true then none else some (ds.length : Int)) = _
  rw [e0, if_neg Bool.false_ne_true, ef]
/-- None or an int -/
def optV : Option Int → V
  | none => .non
  | some i => .int i
theorem badW_lot {n : Nat} {bs : List (Nat × Nat)} {ds : List PyData} {j : Nat} (h : badW n bs ds j = false) : lotB n (ds.getD j .none) = true := by
  unfold badW at h
  cases e : lotB n (ds.getD j .none) with
  | true => rfl
  | false => rw [e] at h; cases h
theorem natsD_lotD (ps : List Nat) : natsD (lotD ps) = ps := by
  show (ps.map fun (p : Nat) => PyData.int (p : Int)).map (fun x => (intD x).toNat) = ps
  rw [List.map_map]
  exact (List.map_congr_left fun p _ => by show (((p : Nat) : Int)).toNat = p; simp).trans (List.map_id ps)
def spFaultPlanA (K : PySem.W.Frag) (T1 T2 T3 T4 : Addr) : Sp := fun vs H Q _ => ∃ (l v : V) (fs : List Int) (bs : List (Nat × Nat)) (d : PyData), vs = [l, v] ∧ Dp K H l (landD fs bs) ∧ LandOk fs bs ∧ Dp K H v d ∧ smD d = true ∧ Tabs [T1, T2, T3, T4] H ∧ ∀ H', Ext H H' → Q (optV (planF fs.length bs d)) H'
theorem ok_fault_of_planA {f T1 T2 T3 T4 : Addr} {fd : FuncData} (F : Fun K "fault_of_plan" "fault_of_plan" st_fault_of_plan f fd) (B : Bl mg) (c1 : Cal P w K mg base 6 "is_lot" ["land", "value"] (spIsLotA K T1 T2)) (c2 : Cal P w K mg base 4 "mask_of" ["lot"] (spMaskOf K T3))
    (c3 : Cal P w K mg base 1 "links_of" ["land"] (spLinksOf K)) (c4 : Cal P w K mg base 8 "hangs_together" ["links", "mask"] (spHangsTog K T4)) (c5 : Cal P w K mg base 1 "whole_mask" ["land"] (spWhole K)) : FnOk P w K mg base CX0 9 f fd ["land", "value"] (spFaultPlanA K T1 T2 T3 T4) := by
  refine F.ok sc_fault_of_plan (fun vs H Q E h => ?_) (fun cdv A outer s H vs Q E hr h => ?_)
  · obtain ⟨l, v, fs, bs, d, rfl, _⟩ := h
    rfl
  · obtain ⟨l, v, fs, bs, d, rfl, hl, ok, hv, hsm, hT, k⟩ := h
    have hT1 := hT T1 (by simp)
    have hT2 := hT T2 (by simp)
    have hT3 := hT T3 (by simp)
    have hT4 := hT T4 (by simp)
    have hr6 := hr.mono (j := 6) (by decide)
    have hr4 := hr.mono (j := 4) (by decide)
    have hr1 := hr.mono (j := 1) (by decide)
    refine ⟨_, pss_cons (ps_if (PW.pt (pw_or (pt_cmpR op_neTy (pe_callTy call_type1 rfl B.type (by decide +kernel) (pa_cons (pv 1) pa_nil)) (pe_bltn rfl B.tuple (by decide +kernel) (v := .ty "tuple") rfl) (nomark _))
        (pw_or1 (pt_cmpR op_eq (pe_callB call_len (by rfl) B.len PySem.boot_len (pa_cons (pv 1) pa_nil)) pe_int (nomark _))))) (pss_one (ps_ret pe_int)) pss_nil)
      (pss_cons (ps_set (i := 2) sc_fault_of_plan.nd rfl (Or.inl rfl) (pe_cal c3 hr1 rfl (pa_cons (pv 0) pa_nil)))
      (pss_cons (ps_set (i := 3) sc_fault_of_plan.nd rfl (Or.inl rfl) pe_int)
      (pss_cons (ps_for PassesOwn.never rfl (pi_range1 rfl B.range (pa_cons (pe_callB call_len (by rfl) B.len PySem.boot_len (pa_cons (pv 1) pa_nil)) pa_nil)) (pg_name (i := 4) sc_fault_of_plan.nd rfl (Or.inl rfl))
        (pss_cons (ps_if (pt_not (pt_val (pe_cal c1 hr6 rfl (pa_cons (pv 0) (pa_cons (pe_ix ix_tup (pv 1) (pv 4) (fun _ _ => rfl)) pa_nil))) (by intro _; rfl))) (pss_one (ps_ret (pv 4))) pss_nil)
        (pss_cons (ps_set (i := 5) sc_fault_of_plan.nd rfl (Or.inl rfl) (pe_cal c2 hr4 rfl (pa_cons (pe_ix ix_tup (pv 1) (pv 4) (fun _ _ => rfl)) pa_nil)))
        (pss_cons (ps_if (PW.pt (pw_or (pt_truth (pe_op op_and (pv 5) (pv 3)) (by intro _; rfl)) (pw_or1 (pt_not (pt_val (pe_cal c4 hr rfl (pa_cons (pv 2) (pa_cons (pv 5) pa_nil))) (by intro _; rfl)))))) (pss_one (ps_ret (pv 4))) pss_nil)
        (pss_cons (ps_if (PW.pt (pw_and (pt_cmpR op_gt (pv 4) pe_int (nomark _)) (pw_and1 (pt_cmpR (op_leT hr.units0) (pe_ix ix_tup (pv 1) (pv 4) (fun _ _ => rfl)) (pe_ix ix_tup (pv 1) (pe_op op_sub (pv 4) pe_int) (fun _ _ => rfl)) (nomark _))))) (pss_one (ps_ret (pv 4))) pss_nil)
        (pss_one (ps_aug (i := 3) sc_fault_of_plan.nd rfl (Or.inl rfl) (pv 5) iop_or)))))))
      (pss_cons (ps_if (pt_cmpR op_ne (pv 3) (pe_cal c5 hr1 rfl (pa_cons (pv 0) pa_nil)) (nomark _)) (pss_one (ps_ret (pe_callB call_len (by rfl) B.len PySem.boot_len (pa_cons (pv 1) pa_nil)))) pss_nil)
      (pss_one (ps_ret pe_non)))))), ?_⟩
    have h12 := ok.most
    rcases tup_dp hv with ⟨ds, a, xs, rfl, rfl, h1, h2⟩ | ⟨T, hT, ht, hne, hno⟩
    · have hlen := dpAll_len h2
      obtain ⟨hds, hsms⟩ := smD_seq (ds := ds) (.inr rfl) hsm
      refine ⟨_, rfl, _, "tuple", rfl, .tup h1, "tuple", "tuple", rfl, rfl, by decide, by decide, false, rfl, ?_⟩
      refine iteF ⟨_, rfl, _, ds.length, rfl, .inr ⟨_, h1, hlen.symm⟩, rfl, _, rfl, ?_⟩
      by_cases he : ds = []
      · subst he
        exact iteT (k H (.refl H))
      have hpos : 0 < ds.length := List.length_pos_iff.mpr he
      rw [decide_eq_false (fun z => by have := V.int.inj z; omega)]
      refine iteF ?_
      refine ⟨_, rfl, l, fs, bs, rfl, hl, h12, ok.bord, fun q H2 lk x2 hq0 hq L => ?_⟩
      refine ⟨_, rfl, _, ds.length, rfl, .inr ⟨_, x2.sqT h1, hlen.symm⟩, _, rfl, by omega, by omega, for_range (lo := 0) (n := (ds.length : Int).toNat) (fun i σ H3 => ∃ (T : Nat) (o4 o5 : Option V), σ = [some l, some (.ref a), some (.ref q), some (.int (T : Int)), o4, o5] ∧ Ext H2 H3 ∧ (∀ j, j < i → badW fs.length bs ds j = false) ∧ ∀ x, T.testBit x = true ↔ ∃ j, j < i ∧ x ∈ wardAt ds j)
        ⟨0, _, _, rfl, .refl _, (fun j hj => absurd hj (Nat.not_lt_zero j)), fun x => ⟨fun h => by simp at h, fun ⟨j, hj, _⟩ => absurd hj (Nat.not_lt_zero j)⟩⟩ ?_ ?_⟩
      · rintro i σ H3 hi ⟨T, o4, o5, rfl, x3, hok, hTb⟩
        rw [Int.toNat_natCast] at hi
        rw [Int.zero_add]
        obtain ⟨wv, hwv, hdw⟩ := dpAll_get h2 (List.getElem?_eq_getElem hi)
        have egi : ds.getD i .none = ds[i] := by rw [List.getD_eq_getElem?_getD, List.getElem?_eq_getElem hi]; rfl
        have hsmi := smDs_get hsms _ (List.getElem_mem hi)
        have x23 := x2.trans x3
        have out : badW fs.length bs ds i = true → ∀ H', Ext H H' → Q (.int (i : Int)) H' := fun hb H' x => by
          have q := k H' x
          rw [planF_bad hi hok hb] at q
          exact q
        refine ⟨_, rfl, _, rfl, _, rfl, a, _, _, _, rfl, rfl, x23.sqT h1, atI_nat hwv, l, wv, fs, _, ds[i], rfl, dp_ext x23 hl, by omega, dp_ext x23 hdw, (fun es e => by have := (smD_seq (ds := es) (.inr e) hsmi).1; omega), x23.tabs _ hT1, x23.tabs _ hT2, fun H4 x4 => ?_⟩
        have x24 := x23.trans x4
        cases elot : lotB fs.length ds[i] with
        | false =>
          refine ⟨false, rfl, iteT ⟨_, rfl, out ?_ H4 x24⟩⟩
          unfold badW
          rw [egi, elot]
          rfl
        | true =>
          refine ⟨true, rfl, iteF ?_⟩
          obtain ⟨ed, lo⟩ := lotB_ok elot
          have ew : wardAt ds i = natsD ds[i] := by unfold wardAt; rw [egi]
          rw [← ew] at ed lo
          have hdw : Dp K H wv (lotD (wardAt ds i)) := ed ▸ hdw
          generalize hU : wardAt ds i = U at ed lo hdw ew
          refine ⟨_, rfl, _, rfl, a, _, _, _, rfl, rfl, x24.sqT h1, atI_nat hwv, wv, U, rfl, dp_ext x24 hdw, fun p hp => by have := lo.lt p hp; omega, x24.tabs _ hT3, fun H5 x5 => ?_⟩
          have x25 := x24.trans x5
          have hbit := Mk.bit_mask lo.asc
          have hme : meetsW ds i = (((Mk.mask U &&& T : Nat) : Int) != 0) := by
            unfold meetsW
            rw [hU]
            by_cases z : Mk.mask U &&& T = 0
            · rw [z]
              show _ = false
              rw [List.any_eq_false]
              intro p hp y
              rw [List.any_eq_true] at y
              obtain ⟨j, hj, y⟩ := y
              have hb : (Mk.mask U &&& T).testBit p = true := by
                rw [Nat.testBit_and, hbit, decide_eq_true hp, (hTb p).mpr ⟨j, List.mem_range.mp hj, of_decide_eq_true y⟩]
                rfl
              rw [z, Nat.zero_testBit] at hb
              cases hb
            · have e : (((Mk.mask U &&& T : Nat) : Int) != 0) = true := by
                rw [bne_iff_ne]
                omega
              rw [e, List.any_eq_true]
              obtain ⟨p, hp⟩ := Nat.exists_testBit_of_ne_zero z
              rw [Nat.testBit_and, Bool.and_eq_true, hbit, decide_eq_true_eq] at hp
              obtain ⟨j, hj, hpj⟩ := (hTb p).mp hp.2
              exact ⟨p, hp.1, List.any_eq_true.mpr ⟨j, List.mem_range.mpr hj, decide_eq_true hpj⟩⟩
          dsimp only [gName, List.set, tSeq]
          have hq5 := ((x3.trans x4).trans x5).lst hq
          refine ⟨_, rfl, _, rfl, _, _, rfl, rfl, meetsW ds i, (by show meetsW ds i = (Builtin.bitAnd ((Mk.mask U : Nat) : Int) (T : Int) != 0); rw [and_pp]; exact hme), ?_⟩
          cases em : meetsW ds i with
          | true =>
            refine iteT (iteT ⟨_, rfl, out ?_ H5 x25⟩)
            unfold badW
            rw [egi, elot, em]
            rfl
          | false =>
            refine iteF ?_
            refine ⟨_, rfl, _, rfl, q, lk, fs.length, Mk.mask U, bs, rfl, hq5, L, ok.bord, h12, Mk.mask_lt lo.asc lo.lt, mask_pos lo.asc lo.ne, x25.tabs _ hT4, fun b H6 x6 hb => ?_⟩
            have eb := hangB_of lo hb
            subst eb
            have x26 := x25.trans x6
            refine ⟨_, rfl, ?_⟩
            cases eh : hangB bs U with
            | false =>
              refine iteT ⟨_, rfl, out ?_ H6 x26⟩
              unfold badW
              rw [egi, elot, em, hU, eh]
              rfl
            | true =>
              refine iteF ?_
              have fin : badW fs.length bs ds i = false → ∃ (T2 : Nat) (u4 u5 : Option V), ([some l, some (.ref a), some (.ref q), some (.int ((T ||| Mk.mask U : Nat) : Int)), some (.int (i : Int)), some (.int ((Mk.mask U : Nat) : Int))] : L2.St) = [some l, some (.ref a), some (.ref q), some (.int (T2 : Int)), u4, u5] ∧ Ext H2 H6 ∧ (∀ j, j < i + 1 → badW fs.length bs ds j = false) ∧ ∀ x, T2.testBit x = true ↔ ∃ j, j < i + 1 ∧ x ∈ wardAt ds j := by
                intro hbi
                refine ⟨T ||| Mk.mask U, _, _, rfl, (x3.trans x4).trans (x5.trans x6), fun j hj => ?_, fun x => ?_⟩
                · by_cases z : j = i
                  · rw [z]; exact hbi
                  · exact hok j (by omega)
                · rw [Nat.testBit_or, Bool.or_eq_true, hTb, hbit, decide_eq_true_eq]
                  constructor
                  · rintro (⟨j, hj, hx⟩ | hx)
                    · exact ⟨j, by omega, hx⟩
                    · exact ⟨i, by omega, hU ▸ hx⟩
                  · rintro ⟨j, hj, hx⟩
                    by_cases z : j = i
                    · subst z
                      exact .inr (hU ▸ hx)
                    · exact .inl ⟨j, by omega, hx⟩
              refine ⟨_, rfl, _, _, rfl, rfl, decide (0 < i), ?_, ?_⟩
              · show V.bl (decide ((0 : Int) < (i : Int))) = _
                congr 1
                apply decide_eq_decide.mpr
                omega
              by_cases hi0 : 0 < i
              · rw [decide_eq_true hi0]
                refine iteT ?_
                have hi2 : i - 1 < ds.length := by omega
                obtain ⟨wv2, hwv2, hdw2⟩ := dpAll_get h2 (List.getElem?_eq_getElem hi2)
                have egj : ds.getD (i - 1) .none = ds[i - 1] := by rw [List.getD_eq_getElem?_getD, List.getElem?_eq_getElem hi2]; rfl
                have elot2 := badW_lot (hok (i - 1) (by omega))
                obtain ⟨ed2, lo2⟩ := lotB_ok elot2
                have hdw2 : Dp K H wv2 (lotD (wardAt ds (i - 1))) := by
                  rw [← egj, ed2] at hdw2
                  exact hdw2
                obtain ⟨aw, rfl, hsw⟩ := dp_lot hdw
                obtain ⟨aw2, rfl, hsw2⟩ := dp_lot hdw2
                have ecast : ∀ u : List Nat, (u.map fun (p : Nat) => V.int (p : Int)) = (u.map fun (p : Nat) => (p : Int)).map V.int := fun u => by rw [List.map_map]; rfl
                have e1 : (i : Int) - 1 = ((i - 1 : Nat) : Int) := by omega
                refine ⟨_, rfl, _, rfl, a, _, _, _, rfl, rfl, x26.sqT h1, atI_nat hwv, _, rfl, _, rfl, _, _, rfl, rfl, a, _, _, _, rfl, rfl, x26.sqT h1, by rw [e1]; exact atI_nat hwv2, aw, aw2, U.map fun (p : Nat) => (p : Int), (wardAt ds (i - 1)).map fun (p : Nat) => (p : Int), rfl, rfl, by rw [← ecast]; exact x26.sqT hsw, by rw [← ecast]; exact x26.sqT hsw2, lexLe U (wardAt ds (i - 1)), rfl, ?_⟩
                cases elx : lexLe U (wardAt ds (i - 1)) with
                | true =>
                  refine iteT ⟨_, rfl, out ?_ H6 x26⟩
                  unfold badW
                  rw [egi, elot, em, hU, eh, elx, decide_eq_true hi0]
                  rfl
                | false =>
                  refine iteF ?_
                  refine ⟨_, rfl, _, rfl, _, _, rfl, rfl, ?_⟩
                  dsimp only [List.set]
                  rw [or_pp]
                  refine fin ?_
                  unfold badW
                  rw [egi, elot, em, hU, eh, elx]
                  simp
              · rw [decide_eq_false hi0]
                refine iteF (iteF ?_)
                refine ⟨_, rfl, _, rfl, _, _, rfl, rfl, ?_⟩
                dsimp only [List.set]
                rw [or_pp]
                refine fin ?_
                unfold badW
                rw [egi, elot, em, hU, eh, decide_eq_false hi0]
                rfl
      · rintro σ H3 ⟨T, o4, o5, rfl, x3, hok, hTb⟩
        rw [Int.toNat_natCast] at hTb hok
        have x23 := x2.trans x3
        have ek := planF_fin hpos hok
        refine ⟨_, rfl, _, rfl, l, fs, _, rfl, dp_ext x23 hl, h12, rfl, _, rfl, ?_⟩
        have hT9 : allW fs.length ds = decide (T = 2 ^ fs.length - 1) := by
          apply Bool.eq_iff_iff.mpr
          rw [decide_eq_true_eq]
          unfold allW
          rw [List.all_eq_true]
          constructor
          · intro hall
            refine Mk.eq_of_bits fun x => ?_
            rw [hTb, Nat.testBit_two_pow_sub_one, decide_eq_true_eq]
            constructor
            · rintro ⟨j, hj, hx⟩
              exact (lotB_ok (badW_lot (hok j hj))).2.lt x hx
            · intro hx
              have := hall x (List.mem_range.mpr hx)
              rw [List.any_eq_true] at this
              obtain ⟨j, hj, hxj⟩ := this
              exact ⟨j, List.mem_range.mp hj, of_decide_eq_true hxj⟩
          · intro e x hx
            have hb : T.testBit x = true := by
              rw [e, Nat.testBit_two_pow_sub_one]
              exact decide_eq_true (List.mem_range.mp hx)
            obtain ⟨j, hj, hxj⟩ := (hTb x).mp hb
            exact List.any_eq_true.mpr ⟨j, List.mem_range.mpr hj, decide_eq_true hxj⟩
        have e2 : (!decide (V.int (T : Int) = V.int ((2 ^ fs.length - 1 : Nat) : Int))) = !allW fs.length ds := by
          rw [hT9]
          congr 1
          apply decide_eq_decide.mpr
          constructor
          · intro z
            have := V.int.inj z
            omega
          · intro z
            rw [z]
        rw [e2]
        cases ea : allW fs.length ds with
        | true =>
          refine iteF ?_
          have q := k H3 x23
          rw [ek, if_pos ea] at q
          exact q
        | false =>
          refine iteT ?_
          refine ⟨_, rfl, _, ds.length, rfl, .inr ⟨_, x23.sqT h1, hlen.symm⟩, ?_⟩
          have q := k H3 x23
          rw [ek, if_neg (by rw [ea]; exact Bool.false_ne_true)] at q
          exact q
    · have q := k H (.refl H)
      rw [planF_not hno] at q
      refine ⟨_, rfl, _, T, rfl, ht, T, "tuple", rfl, rfl, hT, by decide, true, ?_, ?_⟩
      · rw [decide_eq_false hne]
        rfl
      · exact iteT (iteT q)
def spIsPlanA (K : PySem.W.Frag) (T1 T2 T3 T4 : Addr) : Sp := fun vs H Q _ => ∃ (l v : V) (fs : List Int) (bs : List (Nat × Nat)) (d : PyData), vs = [l, v] ∧ Dp K H l (landD fs bs) ∧ LandOk fs bs ∧ Dp K H v d ∧ smD d = true ∧ Tabs [T1, T2, T3, T4] H ∧ ∀ H', Ext H H' → Q (.bl (planF fs.length bs d).isNone) H'
end
end Wd

set_option Elab.async false
set_option linter.all false
set_option maxRecDepth 100000
set_option maxHeartbeats 4000000
namespace Wd
open PySem PySem.Spec PyProof.Rows L2 Bx Gx














































section
variable {P : Program} {w : World} {K : PySem.W.Frag} {mg : Str → Option Value} {base : Heap}
/-! ### some data, away from the lists that are written -/
/-- the heap without the places S -/
def cutS (S : List Addr) (H : Hp) : Hp := fun a => if a ∈ S then none else H a
theorem cutS_some {S : List Addr} {H : Hp} {a : Addr} {o : HO} (h : cutS S H a = some o) : a ∉ S ∧ H a = some o := by
  unfold cutS at h
  by_cases z : a ∈ S
  · rw [if_pos z] at h; cases h
  · rw [if_neg z] at h; exact ⟨z, h⟩
theorem cutS_of {S : List Addr} {H : Hp} {a : Addr} {o : HO} (z : a ∉ S) (h : H a = some o) : cutS S H a = some o := by
  unfold cutS
  rw [if_neg z]
  exact h
theorem cutS_sub (S : List Addr) (H : Hp) : Ext (cutS S H) H :=
  ⟨fun b o e _ => (cutS_some e).2, fun P ⟨ps, e, k⟩ => ⟨ps, (cutS_some e).2, k⟩, fun b o e => ⟨o, (cutS_some e).2⟩⟩
theorem cutS_ext {S : List Addr} {H H' : Hp} (x : ExtS S H H') : Ext (cutS S H) (cutS S H') := by
  refine ⟨fun b o e n => ?_, fun P ⟨ps, e, k⟩ => ?_, fun b o e => ?_⟩
  · obtain ⟨z, e⟩ := cutS_some e
    exact cutS_of z (x.keep b o e n fun _ => z)
  · obtain ⟨z, e⟩ := cutS_some e
    obtain ⟨ps', e', k'⟩ := x.tabs P ⟨ps, e, k⟩
    exact ⟨ps', cutS_of z e', k'⟩
  · obtain ⟨z, e⟩ := cutS_some e
    obtain ⟨o', e'⟩ := x.live b o e
    exact ⟨o', cutS_of z e'⟩
theorem cut_rd {S : List Addr} {H : Hp} (hS : ∀ b ∈ S, ∃ xs, H b = some (.lst xs)) {a : Addr} {u : HO} (l : ¬ isLs u) (h : Rd H a u) : Rd (cutS S H) a u := by
  have key : ∀ o, ¬ isLs o → H a = some o → cutS S H a = some o := fun o n e => cutS_of (fun z => by
    obtain ⟨xs, e2⟩ := hS a z
    rw [e] at e2
    cases e2
    exact n trivial) e
  rcases h with h | ⟨o, h⟩
  · exact .inl (key _ l h)
  · exact .inr ⟨o, key _ (fun z => z) h⟩
theorem cut_sqT {S : List Addr} {H : Hp} (hS : ∀ b ∈ S, ∃ xs, H b = some (.lst xs)) {a : Addr} {xs : List V} (h : SqT K H a xs) : SqT K (cutS S H) a xs := h.elim (fun z => .inl (cut_rd hS (fun z => z) z)) .inr
mutual
theorem cut_dp {S : List Addr} {H : Hp} (hS : ∀ b ∈ S, ∃ xs, H b = some (.lst xs)) : ∀ {v : V} {d : PyData}, noL d = true → Dp K H v d → Dp K (cutS S H) v d
  | _, _, _, .non => .non
  | _, _, _, .bl b => .bl b
  | _, _, _, .int i => .int i
  | _, _, _, .str z => .str z
  | _, _, n, .lst h hs => absurd n (by simp [noL])
  | _, _, n, .tup h hs => .tup (cut_sqT hS h) (cut_dpAll hS (by simpa [noL] using n) hs)
theorem cut_dpAll {S : List Addr} {H : Hp} (hS : ∀ b ∈ S, ∃ xs, H b = some (.lst xs)) : ∀ {vs : List V} {ds : List PyData}, noLs ds = true → DpAll K H vs ds → DpAll K (cutS S H) vs ds
  | _, _, _, .nil => .nil
  | _, _, n, .cons h hs => .cons (cut_dp hS (Bool.and_eq_true_iff.mp (by simpa [noLs] using n)).1 h) (cut_dpAll hS (Bool.and_eq_true_iff.mp (by simpa [noLs] using n)).2 hs)
end
theorem SpAt.lists {H : Hp} {sp gr : Addr} (h : SpAt H sp gr) : ∀ b ∈ [sp, gr], ∃ xs, H b = some (.lst xs) := fun b hb => by
  obtain ⟨_, xs, e⟩ := h.ls hb
  exact ⟨xs, e⟩
def Dat (K : PySem.W.Frag) (S : List Addr) (n : Nat) (H : Hp) (v : V) : Prop := ∃ d, Dp K (cutS S H) v d ∧ Sh n d ∧ smD d = true
def TupD (K : PySem.W.Frag) (S : List Addr) (n L : Nat) (H : Hp) (a : Addr) : Prop := ∃ xs, SqT K (cutS S H) a xs ∧ xs.length ≤ L ∧ ∀ x ∈ xs, Dat K S n H x
variable {S : List Addr} {n L : Nat} {H H' : Hp} {v : V} {a b : Addr}
theorem _root_.Bx.Sh.up {n m : Nat} {d : PyData} (h : Sh n d) (z : n ≤ m) : Sh m d := ⟨h.lay, Nat.le_trans h.dep z⟩
theorem Dat.ext (x : ExtS S H H') (h : Dat K S n H v) : Dat K S n H' v := let ⟨d, h1, h2, h3⟩ := h; ⟨d, dp_ext (cutS_ext x) h1, h2, h3⟩
theorem Dat.up {m : Nat} (z : n ≤ m) (h : Dat K S n H v) : Dat K S m H v := let ⟨d, h1, h2, h3⟩ := h; ⟨d, h1, h2.up z, h3⟩
theorem TupD.ext (x : ExtS S H H') (h : TupD K S n L H a) : TupD K S n L H' a := let ⟨xs, h1, h2, h3⟩ := h; ⟨xs, (cutS_ext x).sqT h1, h2, fun y hy => (h3 y hy).ext x⟩
theorem TupD.up {m M : Nat} (z : n ≤ m) (z2 : L ≤ M) (h : TupD K S n L H a) : TupD K S m M H a := let ⟨xs, h1, h2, h3⟩ := h; ⟨xs, h1, Nat.le_trans h2 z2, fun y hy => (h3 y hy).up z⟩
theorem dats_all : ∀ {xs : List V}, (∀ x ∈ xs, Dat K S n H x) → ∃ ds, DpAll K (cutS S H) xs ds ∧ (∀ d ∈ ds, Sh n d) ∧ smDs ds = true
  | [], _ => ⟨[], .nil, (fun d hd => by cases hd), rfl⟩
  | x :: xs, h => by
    obtain ⟨d, h1, h2, h3⟩ := h x List.mem_cons_self
    obtain ⟨ds, g1, g2, g3⟩ := dats_all (xs := xs) fun y hy => h y (List.mem_cons_of_mem _ hy)
    refine ⟨d :: ds, .cons h1 g1, fun e he => ?_, by simp [smDs, h3, g3]⟩
    rcases List.mem_cons.mp he with z | z
    · rw [z]; exact h2
    · exact g2 e z
theorem TupD.dat (h : TupD K S n L H a) (hL : L ≤ 500) : Dat K S (n + 1) H (.ref a) := by
  obtain ⟨xs, h1, h2, h3⟩ := h
  obtain ⟨ds, g1, g2, g3⟩ := dats_all h3
  have := dpAll_len g1
  refine ⟨.tuple ds, .tup h1 g1, .tup g2, ?_⟩
  simp only [smD, Bool.and_eq_true, decide_eq_true_eq]
  exact ⟨by omega, g3⟩
theorem Dat.int (i : Int) : Dat K S (n + 1) H (.int i) := ⟨.int i, .int i, .int _ i, rfl⟩
theorem Dat.bool (b : Bool) : Dat K S (n + 1) H (.bl b) := ⟨.bool b, .bl b, ⟨by simp [PyData.canLay0], by simp [PyData.depth]⟩, rfl⟩
theorem Dat.non : Dat K S (n + 1) H .non := ⟨.none, .non, ⟨by simp [PyData.canLay0], by simp [PyData.depth]⟩, rfl⟩
theorem Dat.str (z : Str) (hz : PyData.strOk z = true) : Dat K S (n + 1) H (.str z) := ⟨.str z, .str z, ⟨by simp [PyData.canLay0, hz], by simp [PyData.depth]⟩, rfl⟩
theorem Dat.dp (h : Dat K S n H v) : ∃ d, Dp K H v d ∧ Sh n d ∧ smD d = true := let ⟨d, h1, h2, h3⟩ := h; ⟨d, dp_ext (cutS_sub S H) h1, h2, h3⟩
theorem TupD.sq (h : TupD K S n L H a) : ∃ xs, SqT K H a xs ∧ xs.length ≤ L ∧ ∀ x ∈ xs, Dat K S n H x := let ⟨xs, h1, h2, h3⟩ := h; ⟨xs, (cutS_sub S H).sqT h1, h2, h3⟩
theorem TupD.new {p : Addr} {xs : List V} (hp : H p = none) (hS : p ∉ S) (hl : xs.length ≤ L) (h : ∀ x ∈ xs, Dat K S n H x) : TupD K S n L (upd H p (.tup xs)) p :=
  ⟨xs, SqT.of (cutS_of hS upd_same), hl, fun x hx => (h x hx).ext (.new hp)⟩
theorem Dat.newL {p : Addr} {xs : List V} (hp : H p = none) (hS : p ∉ S) (hl : xs.length ≤ 500) (h : ∀ x ∈ xs, Dat K S n H x) : Dat K S (n + 1) (upd H p (.lst xs)) (.ref p) := by
  obtain ⟨ds, g1, g2, g3⟩ := dats_all (H := upd H p (.lst xs)) fun x hx => (h x hx).ext (.new hp)
  have := dpAll_len g1
  refine ⟨.list ds, .lst (SqL.of (cutS_of hS upd_same)) g1, .lst g2, ?_⟩
  simp only [smD, Bool.and_eq_true, decide_eq_true_eq]
  exact ⟨by omega, g3⟩
theorem TupD.ints {xs : List Int} (hS : ∀ b ∈ S, ∃ xs, H b = some (.lst xs)) (h : SqT K H a (xs.map V.int)) (hl : xs.length ≤ L) : TupD K S (n + 1) L H a := ⟨_, cut_sqT hS h, by rw [List.length_map]; exact hl, fun x hx => by
  obtain ⟨i, _, rfl⟩ := List.mem_map.mp hx
  exact .int i⟩
theorem Dat.of_dp {d : PyData} (hS : ∀ b ∈ S, ∃ xs, H b = some (.lst xs)) (h : Dp K H v d) (hn : noL d = true) (hs : Sh n d) (hm : smD d = true) : Dat K S n H v := ⟨d, cut_dp hS hn h, hs, hm⟩
/-- a tuple's part -/
theorem TupD.slice {lo hi : Option Int} {Q : VK} (h : TupD K S n L H a) (hS : ∀ p, H p = none → p ∉ S) (k : ∀ p H', Ext H H' → TupD K S n L H' p → Q (.ref p) H') : rSlA K (.ref a) lo hi H Q := by
  obtain ⟨xs, h1, h2, h3⟩ := h.sq
  refine ⟨a, xs, rfl, h1, fun _ => k a H (.refl H) h, fun _ p hp => k p _ (.new hp) (.new hp (hS p hp) (Nat.le_trans (cutV_length xs lo hi) h2) fun x hx => h3 x ?_)⟩
  exact List.mem_of_mem_drop (List.mem_of_mem_take hx)
theorem TupD.cat {L' : Nat} {Q : VK} (h : TupD K S n L H a) (h' : TupD K S n L' H b) (hL : L + L' ≤ 500) (hS : ∀ p, H p = none → p ∉ S) (k : ∀ p H', Ext H H' → TupD K S n (L + L') H' p → Q (.ref p) H') : rCatA K (.ref a) (.ref b) H Q := by
  obtain ⟨xs, h1, h2, h3⟩ := h.sq
  obtain ⟨ys, g1, g2, g3⟩ := h'.sq
  refine ⟨a, b, xs, ys, rfl, rfl, h1, g1, by rw [sizeLine_eq]; omega, fun _ => k b H (.refl H) (h'.up (Nat.le_refl _) (by omega)), fun _ _ => k a H (.refl H) (h.up (Nat.le_refl _) (by omega)), fun _ _ p hp => k p _ (.new hp) (.new hp (hS p hp) (by rw [List.length_append]; omega) fun x hx => ?_)⟩
  rcases List.mem_append.mp hx with z | z
  · exact h3 x z
  · exact g3 x z
/-- a new tuple as data -/
theorem Dat.newT {p : Addr} {xs : List V} (hp : H p = none) (hS : p ∉ S) (hl : xs.length ≤ 500) (h : ∀ x ∈ xs, Dat K S n H x) : Dat K S (n + 1) (upd H p (.tup xs)) (.ref p) := (TupD.new hp hS hl h).dat (Nat.le_refl _)
/-- items and one more -/
theorem dats_snoc {xs : List V} (x : ExtS S H H') (h : ∀ y ∈ xs, Dat K S n H y) (hv : Dat K S n H' v) : ∀ y ∈ xs ++ [v], Dat K S n H' y := fun y hy => by
  rcases List.mem_append.mp hy with z | z
  · exact (h y z).ext x
  · rw [List.mem_singleton.mp z]; exact hv
theorem dats_nil : ∀ y ∈ ([] : List V), Dat K S n H y := fun y hy => by cases hy
theorem dats_pair {x y : V} (h1 : Dat K S n H x) (h2 : Dat K S n H y) : ∀ z ∈ [x, y], Dat K S n H z := fun z hz => by
  rcases List.mem_cons.mp hz with e | e
  · rw [e]; exact h1
  · rw [List.mem_singleton.mp e]; exact h2
theorem dats_one {x : V} (h1 : Dat K S n H x) : ∀ z ∈ [x], Dat K S n H z := fun z hz => by
  rw [List.mem_singleton.mp hz]; exact h1
end
section
variable {P : Program} {w : World} {K : PySem.W.Frag} {mg : Str → Option Value} {base : Heap}
/-! ### plan_with -/
theorem sorted_nats {us vs : List Nat} {ns : List Int} (h : ns.Perm (us.map fun (p : Nat) => (p : Int))) (hs : ns.Pairwise (· ≤ ·)) (hv : us.Perm vs) (ha : vs.Pairwise (· < ·)) : ns = vs.map fun (p : Nat) => (p : Int) := by
  obtain ⟨xs, h1, rfl⟩ := perm_unmap (fun (p : Nat) => (p : Int)) h rfl
  have h2 := h1.trans hv
  have nd : xs.Pairwise (· ≠ ·) := h2.symm.nodup (ha.imp fun h => Nat.ne_of_lt h)
  have hx : xs.Pairwise (· < ·) := by
    rw [List.pairwise_map] at hs
    exact (hs.and nd).imp fun {a b} h => by omega
  rw [perm_uniq (R := fun (a b : Nat) => a < b) (fun a b h1 h2 => by omega) h2 hx ha]
/-- lists of places at addresses: each is a lot in some sequence -/
structure Heaped (H : Hp) (as : List Addr) (us vs : List (List Nat)) : Prop where
  la : as.length = vs.length
  lu : us.length = vs.length
  at_ : ∀ (i : Nat) (a : Addr) (u v : List Nat), as[i]? = some a → us[i]? = some u → vs[i]? = some v → H a = some (.lst (vsN u)) ∧ u.Perm v
theorem Heaped.ext {H H' : Hp} {as : List Addr} {us vs : List (List Nat)} (h : Heaped H as us vs) (x : Ext H H') : Heaped H' as us vs := ⟨h.la, h.lu, fun i a u v h1 h2 h3 => ⟨x.lst (h.at_ i a u v h1 h2 h3).1, (h.at_ i a u v h1 h2 h3).2⟩⟩
def spPlanWith (K : PySem.W.Frag) : Sp := fun vs H Q _ => ∃ (l : Addr) (as : List Addr) (us ws zs : List (List Nat)), vs = [.ref l] ∧ H l = some (.lst (as.map V.ref)) ∧ Heaped H as us ws ∧ (∀ u ∈ ws, u ≠ [] ∧ u.Pairwise (· < ·) ∧ u.length < 64) ∧ ws.length ≤ 1000 ∧ ws.Perm zs ∧ zs.Pairwise hdLt ∧
  ∀ q H', Ext H H' → H q = none → Dp K H' (.ref q) (planD zs) → Q (.ref q) H'
theorem sc_plan_with : FnScope ["wards", "ward"] ["wards"] (defScope st_plan_with) := ⟨rfl, rfl, rfl, by decide +kernel, rfl, by decide +kernel, by decide +kernel⟩
theorem ok_plan_with {f : Addr} {fd : FuncData} (F : Fun K "plan_with" "plan_with" st_plan_with f fd) (B : Bl mg) : FnOk P w K mg base CX0 1 f fd ["wards"] (spPlanWith K) := by
  refine F.ok sc_plan_with (fun vs H Q E h => ?_) (fun cdv A outer s H vs Q E hr h => ?_)
  · obtain ⟨l, as, us, ws, zs, rfl, _⟩ := h
    rfl
  · obtain ⟨l, as, us, ws, zs, rfl, hl, hh, hok, hlen, hpm, hasc, k⟩ := h
    have hu64 := Nat.lt_trans (Nat.lt_succ_self _) (u65 hr)
    refine ⟨_, pss_one (ps_ret (pe_tupleOf rfl B.tuple (pe_callB (cr_sortDt hu64) (by rfl) B.sorted (by decide +kernel) (pa_cons
      (pe_lc (own := [("ward", 1)]) (g := gName 1) (by rfl) sc_plan_with.nd (pi_list (pv 0)) (blkOk_by (own := [("ward", 1)]) (N := ["wards", "ward"]) (sc := defScope st_plan_with) (by decide +kernel))
        (fun _ _ _ _ _ => pg_name (i := 1) sc_plan_with.nd rfl (Or.inl rfl)) (fun _ _ _ _ _ => pts_nil)
        (fun _ _ _ _ _ => pe_tupleOfK (K := K) rfl rfl B.tuple (pe_callB (cr_sortedK (K := K) rfl) (by rfl) B.sorted (by decide +kernel) (pa_cons (pv 1) pa_nil)))) pa_nil)))), ?_⟩
    refine ⟨_, rfl, l, rfl, ⟨_, SqL.of hl⟩, fun D hD => ?_⟩
    refine lc_list (K := K) (a := l) (xs := as.map V.ref) (fun i H2 => ∃ ys : List V, H2 D = some (.lst ys) ∧ DpAll K H2 ys ((ws.take i).map lotD) ∧ Ext H H2) ⟨[], upd_same, by rw [List.take_zero]; exact .nil, .new hD⟩ (fun i H2 _ ⟨_, _, _, x2⟩ => SqL.of (x2.lst hl)) (fun i y H2 hy ⟨ys, e2, hd, x2⟩ => ?_) (fun H2 ⟨ys, e2, hd, x2⟩ => ?_)
    · rw [List.getElem?_map, Option.map_eq_some_iff] at hy
      obtain ⟨a, ha, rfl⟩ := hy
      have hi : i < ws.length := by
        have := (List.getElem?_eq_some_iff.mp ha).1
        have := hh.la
        omega
      have hw := List.getElem?_eq_getElem hi
      have hu := List.getElem?_eq_getElem (show i < us.length by rw [hh.lu]; exact hi)
      obtain ⟨h1, h2⟩ := hh.at_ i a _ _ ha hu hw
      obtain ⟨h3, h4, h5⟩ := hok _ (List.getElem_mem hi)
      have etk : (ws.take (i + 1)).map lotD = (ws.take i).map lotD ++ [lotD ws[i]] := by
        rw [List.take_add_one, hw, List.map_append]
        rfl
      have hyl := dpAll_len hd
      rw [List.length_map, List.length_take] at hyl
      generalize ws[i] = v at *
      generalize us[i]'_ = u at *
      refine ⟨rfl, ?_⟩
      dsimp only [tYes]
      rw [if_pos rfl]
      have hlu := h2.length_eq
      refine ⟨_, rfl, a, u.map fun (p : Nat) => (p : Int), rfl, SqL.of (by rw [x2.lst h1, List.map_map]; rfl), by rw [List.length_map]; omega, fun ns p hp1 hp2 hp => ?_⟩
      have en := sorted_nats hp1 hp2 h2 h4
      subst en
      refine .inl ⟨p, _, rfl, SqL.of upd_same, fun q hq => ?_⟩
      have x3 : Ext H2 (upd (upd H2 p (.lst ((v.map fun (p : Nat) => (p : Int)).map V.int))) q (.tup ((v.map fun (p : Nat) => (p : Int)).map V.int))) := (Ext.new hp).trans (.new hq)
      have hq3 : (upd (upd H2 p (.lst ((v.map fun (p : Nat) => (p : Int)).map V.int))) q (.tup ((v.map fun (p : Nat) => (p : Int)).map V.int))) q = some (.tup (vsN v)) := by
        rw [upd_same, List.map_map]
        rfl
      have e3 := x3.lst e2
      generalize upd (upd H2 p _) q _ = H3 at x3 hq3 e3
      refine ⟨ys, e3, small1000 (by omega), ys ++ [.ref q], upd_same, ?_, (x2.trans x3).write hD⟩
      rw [etk]
      have x4 : ExtS [D] H3 (upd H3 D (.lst (ys ++ [.ref q]))) := (ExtS.refl [D] _).write (.inr ⟨by simp, _, e3⟩)
      have nl : ∀ u : List Nat, noL (lotD u) = true := fun u => noLs_map _ (fun _ => rfl) u
      exact dpAll_app (dpAll_extS x4 (noLs_map _ nl _) (dpAll_ext x3 hd)) (.cons (dp_extS x4 (nl v) (.tup (SqT.of hq3) (dpAll_lot v))) .nil)
    · rw [List.length_map, hh.la, List.take_length] at hd
      refine ⟨D, ys, ws.map lotD, rfl, SqL.of e2, hd, allAlike_lots ws, sortable_lots fun u hu => (hok u hu).1, by rw [List.length_map]; omega, depth_lots, fun zs' es p hz hpe hpw hp => ?_⟩
      have ee := sorted_lots (fun u hu => (hok u (hpm.mem_iff.mpr hu)).1) hasc hpm hpe hpw
      subst ee
      refine .inl ⟨p, _, rfl, SqL.of upd_same, fun q hq => ?_⟩
      exact k q _ (x2.trans ((Ext.new hp).trans (.new hq))) ((x2.trans (.new hp)).free hq) (dp_new hq (dpAll_ext (.new hp) hz))
end
end Wd

set_option Elab.async false
set_option linter.all false
set_option maxRecDepth 100000
set_option maxHeartbeats 4000000
namespace Wd
open PySem PySem.Spec PyProof.Rows L2 Bx Gx














































section
variable {P : Program} {w : World} {K : PySem.W.Frag} {mg : Str → Option Value} {base : Heap}
/-! ### folk_of, cut_borders, ward_of -/
def ownOf (ws : List (List Nat)) (p : Nat) : Nat := ws.findIdx fun u => decide (p ∈ u)
theorem own_get {n : Nat} {bs : List (Nat × Nat)} {ws : List (List Nat)} (PO : PlanOk n bs ws) {p : Nat} (hp : p < n) : ∃ u, ws[ownOf ws p]? = some u ∧ p ∈ u := by
  obtain ⟨u, hu, hpu⟩ := PO.all p hp
  have h1 : ownOf ws p < ws.length := List.findIdx_lt_length_of_exists ⟨u, hu, decide_eq_true hpu⟩
  refine ⟨ws[ownOf ws p], List.getElem?_eq_getElem h1, ?_⟩
  have := List.findIdx_getElem (xs := ws) (p := fun u => decide (p ∈ u)) (w := h1)
  exact of_decide_eq_true this
theorem row_own {n : Nat} {bs : List (Nat × Nat)} {ws : List (List Nat)} (PO : PlanOk n bs ws) {kvs : List (L2.Key × V)} (R : RowOf ws kvs) (p : Nat) (hp : p < n) : valV kvs (Sum.inl (p : Int) : L2.Key) = some (.int (ownOf ws p : Int)) := by
  obtain ⟨u, h1, h2⟩ := own_get PO hp
  exact R _ u p h1 h2
def spFolkOf (K : PySem.W.Frag) (T1 T2 T5 : Addr) : Sp := fun vs H Q _ => ∃ (l v : V) (fs : List Int) (bs : List (Nat × Nat)) (ps : List Nat), vs = [l, v] ∧ Dp K H l (landD fs bs) ∧ LandOk fs bs ∧ Dp K H v (lotD ps) ∧ LotOk fs.length ps ∧ Tabs [T1, T2, T5] H ∧ ∀ H', Ext H H' → Q (.int (folkOf fs ps)) H'
def spCutB (K : PySem.W.Frag) (T1 T2 T3 T4 T6 : Addr) : Sp := fun vs H Q _ => ∃ (l v : V) (fs : List Int) (bs : List (Nat × Nat)) (ws : List (List Nat)), vs = [l, v] ∧ Dp K H l (landD fs bs) ∧ LandOk fs bs ∧ Dp K H v (planD ws) ∧ PlanOk fs.length bs ws ∧ Tabs [T1, T2, T3, T4, T6] H ∧
  ∀ q H', Ext H H' → H q = none → Dp K H' (.ref q) (bordD (bs.filter fun b => decide (ownOf ws b.1 ≠ ownOf ws b.2))) → Q (.ref q) H'
theorem tabs4 {T1 T2 T3 T4 T6 : Addr} {H : Hp} (t : Tabs [T1, T2, T3, T4, T6] H) : Tabs [T1, T2, T3, T4] H := fun Pt hPt => t Pt (by
  simp only [List.mem_cons, List.mem_nil_iff, or_false] at hPt ⊢
  rcases hPt with e | e | e | e <;> simp [e])
def spWardOf (K : PySem.W.Frag) (T1 T2 T3 T4 : Addr) : Sp := fun vs H Q _ => ∃ (l v : V) (fs : List Int) (bs : List (Nat × Nat)) (ws : List (List Nat)) (p : Nat), vs = [l, v, .int (p : Int)] ∧ Dp K H l (landD fs bs) ∧ LandOk fs bs ∧ Dp K H v (planD ws) ∧ PlanOk fs.length bs ws ∧ p < fs.length ∧ Tabs [T1, T2, T3, T4] H ∧
  ∀ H', Ext H H' → Q (.int (ownOf ws p : Int)) H'
/-! ### spread -/
def sizesOf (fs : List Int) (ws : List (List Nat)) : List Int := ws.map (folkOf fs)
def spSpread (K : PySem.W.Frag) (T1 T2 T3 T4 T5 : Addr) : Sp := fun vs H Q _ => ∃ (l v : V) (fs : List Int) (bs : List (Nat × Nat)) (ws : List (List Nat)), vs = [l, v] ∧ Dp K H l (landD fs bs) ∧ LandOk fs bs ∧ Dp K H v (planD ws) ∧ PlanOk fs.length bs ws ∧ Tabs [T1, T2, T3, T4, T5] H ∧
  ∀ (m1 m2 : Int) H', Ext H H' → m1 ∈ sizesOf fs ws → (∀ x ∈ sizesOf fs ws, x ≤ m1) → m2 ∈ sizesOf fs ws → (∀ x ∈ sizesOf fs ws, m2 ≤ x) → Q (.int (m1 - m2)) H'
end
section
variable {P : Program} {w : World} {K : PySem.W.Frag} {mg : Str → Option Value} {base : Heap}
/-! ### the ward of each place -/
theorem noL_lot (l : List Nat) : noL (lotD l) = true := noLs_map _ (fun _ => rfl) l
theorem noL_plan (ws : List (List Nat)) : noL (planD ws) = true := noLs_map _ noL_lot ws
def ones (n : Nat) : List (List Nat) := (List.range n).map fun p => [p]
theorem ones_get {n i : Nat} {u : List Nat} (h : (ones n)[i]? = some u) : i < n ∧ u = [i] := by
  have hi : i < n := by
    have := (List.getElem?_eq_some_iff.mp h).1
    rwa [ones, List.length_map, List.length_range] at this
  rw [ones, List.getElem?_map, List.getElem?_eq_getElem (by rw [List.length_range]; exact hi), List.getElem_range] at h
  exact ⟨hi, (Option.some.inj h).symm⟩
theorem ones_mem {n : Nat} {u : List Nat} (h : u ∈ ones n) : ∃ p, p < n ∧ u = [p] := by
  obtain ⟨p, hp, rfl⟩ := List.mem_map.mp h
  exact ⟨p, List.mem_range.mp hp, rfl⟩
theorem ones_ok {n : Nat} (bs : List (Nat × Nat)) (h0 : 0 < n) (hn : n ≤ 12) : PlanOk n bs (ones n) := by
  refine ⟨⟨by rw [ones, List.length_map, List.length_range]; exact hn, fun u hu => ?_, hn, fun i j a b u v hu hv ha hb e => ?_⟩, fun e => ?_, fun u hu => ?_, ?_, fun p hp => ⟨[p], List.mem_map.mpr ⟨p, List.mem_range.mpr hp, rfl⟩, by simp⟩⟩
  · obtain ⟨p, hp, rfl⟩ := ones_mem hu
    exact ⟨(fun z => nomatch z), fun x hx => by rw [List.mem_singleton.mp hx]; exact hp, List.pairwise_singleton _ _⟩
  · obtain ⟨_, rfl⟩ := ones_get hu
    obtain ⟨_, rfl⟩ := ones_get hv
    rw [← List.mem_singleton.mp ha, ← List.mem_singleton.mp hb]
    exact e
  · have := congrArg List.length e
    rw [ones, List.length_map, List.length_range, List.length_nil] at this
    omega
  · obtain ⟨p, hp, rfl⟩ := ones_mem hu
    refine ⟨_, Mk.pcs_one (p := p) (List.pairwise_singleton _ _) List.mem_cons_self fun x hx => ?_, rfl⟩
    rw [List.mem_singleton.mp hx]
    exact .refl List.mem_cons_self
  · rw [ones, List.pairwise_map]
    exact List.pairwise_lt_range
def ownL (n : Nat) (ws : List (List Nat)) : List Nat := (List.range n).map (ownOf ws)
theorem ownL_get {n p : Nat} (ws : List (List Nat)) (hp : p < n) : (vsN (ownL n ws))[p]? = some (.int (ownOf ws p : Int)) := by
  have hl : p < (ownL n ws).length := by rw [ownL, List.length_map, List.length_range]; exact hp
  rw [vsN_at hl]
  simp [ownL]
theorem own_first {n p : Nat} {bs : List (Nat × Nat)} {ws : List (List Nat)} (PO : PlanOk n bs ws) (hp : p < n) : (vsN ((List.range ws.length).filter fun k => decide (p ∈ ws.getD k [])))[0]? = some (.int (ownOf ws p : Int)) := by
  obtain ⟨u, h1, h2⟩ := own_get PO hp
  have hlt := (List.getElem?_eq_some_iff.mp h1).1
  have hm : ownOf ws p ∈ (List.range ws.length).filter fun k => decide (p ∈ ws.getD k []) := by
    rw [List.mem_filter, List.mem_range, decide_eq_true_eq, List.getD_eq_getElem?_getD, h1]
    exact ⟨hlt, h2⟩
  cases e : (List.range ws.length).filter fun k => decide (p ∈ ws.getD k []) with
  | nil => rw [e] at hm; cases hm
  | cons q r =>
    have hq : q ∈ (List.range ws.length).filter fun k => decide (p ∈ ws.getD k []) := by rw [e]; exact List.mem_cons_self
    rw [List.mem_filter, List.mem_range, decide_eq_true_eq, List.getD_eq_getElem?_getD, List.getElem?_eq_getElem (by simpa using (List.mem_filter.mp (by rw [e]; exact List.mem_cons_self : q ∈ (List.range ws.length).filter fun k => decide (p ∈ ws.getD k []))).1)] at hq
    have := PO.w.apart q (ownOf ws p) p p _ u (List.getElem?_eq_getElem hq.1) h1 hq.2 h2 rfl
    subst this
    rfl
end
section
variable {P : Program} {w : World} {K : PySem.W.Frag} {mg : Str → Option Value} {base : Heap}
open TL
/-! ### pictures by arcs, sign by sign -/
/-- the sign at a place of a border's row -/
def arcC (own : Nat → Nat) (b : Nat × Nat) (at_ : Nat) : Nat := if at_ = 2 * b.1 ∨ at_ = 2 * b.2 then 43 else if 2 * b.1 < at_ ∧ at_ < 2 * b.2 then (if own b.1 = own b.2 then 45 else 61) else 46
def arcL (n : Nat) (own : Nat → Nat) (b : Nat × Nat) : List Nat := (List.range (2 * n - 1)).map (arcC own b)
def arcS (n : Nat) (own : Nat → Nat) (b : Nat × Nat) : Str := ⟨(arcL n own b).toArray⟩
def letS (own : Nat → Nat) (p : Nat) : Str := ⟨#[97 + own p]⟩
def rowS (n : Nat) (own : Nat → Nat) : Str := Str.join " " ((List.range n).map (letS own))
def arcsL (n : Nat) (own : Nat → Nat) (bs : List (Nat × Nat)) : List Str := bs.map (arcS n own) ++ [rowS n own]
theorem flat_one (c : Nat) : ∀ k : Nat, (List.replicate k [c]).flatten = List.replicate k c
  | 0 => rfl
  | k + 1 => by rw [List.replicate_succ, List.flatten_cons, flat_one c k, List.replicate_succ]; rfl
theorem flat_two (c : Nat) : ∀ k : Nat, (List.replicate k [c, c]).flatten = List.replicate (2 * k) c
  | 0 => rfl
  | k + 1 => by
    rw [List.replicate_succ, List.flatten_cons, flat_two c k, show 2 * (k + 1) = 2 * k + 1 + 1 from by omega, List.replicate_succ, List.replicate_succ]
    rfl
theorem arc_eq {n : Nat} {own : Nat → Nat} {b : Nat × Nat} (h1 : b.1 < b.2) (h2 : b.2 < n) :
    List.replicate (2 * b.1) 46 ++ [43] ++ List.replicate (2 * (b.2 - b.1) - 1) (if own b.1 = own b.2 then 45 else 61) ++ [43] ++ List.replicate (2 * (n - 1 - b.2)) 46 = arcL n own b := by
  refine List.ext_getElem? fun i => ?_
  unfold arcL
  rw [List.getElem?_map]
  by_cases hi : i < 2 * n - 1
  · rw [List.getElem?_range hi]
    show _ = some (arcC own b i)
    unfold arcC
    simp only [List.getElem?_append, List.length_append, List.length_replicate, List.length_cons, List.length_nil, List.getElem?_replicate]
    by_cases c1 : i < 2 * b.1
    · have g1 : i < 2 * b.1 + (0 + 1) + (2 * (b.2 - b.1) - 1) + (0 + 1) := by omega
      have g2 : i < 2 * b.1 + (0 + 1) + (2 * (b.2 - b.1) - 1) := by omega
      have g3 : i < 2 * b.1 + (0 + 1) := by omega
      have g4 : ¬ (i = 2 * b.1 ∨ i = 2 * b.2) := by omega
      have g5 : ¬ (2 * b.1 < i ∧ i < 2 * b.2) := by omega
      rw [if_pos g1, if_pos g2, if_pos g3, if_pos c1, if_pos c1, if_neg g4, if_neg g5]
    · by_cases c2 : i = 2 * b.1
      · have g1 : i < 2 * b.1 + (0 + 1) + (2 * (b.2 - b.1) - 1) + (0 + 1) := by omega
        have g2 : i < 2 * b.1 + (0 + 1) + (2 * (b.2 - b.1) - 1) := by omega
        have g3 : i < 2 * b.1 + (0 + 1) := by omega
        have g4 : i - 2 * b.1 = 0 := by omega
        rw [if_pos g1, if_pos g2, if_pos g3, if_neg c1, if_pos (.inl c2), g4]
        rfl
      · by_cases c3 : i < 2 * b.2
        · have g1 : i < 2 * b.1 + (0 + 1) + (2 * (b.2 - b.1) - 1) + (0 + 1) := by omega
          have g2 : i < 2 * b.1 + (0 + 1) + (2 * (b.2 - b.1) - 1) := by omega
          have g3 : ¬ i < 2 * b.1 + (0 + 1) := by omega
          have g4 : ¬ (i = 2 * b.1 ∨ i = 2 * b.2) := by omega
          have g5 : 2 * b.1 < i ∧ i < 2 * b.2 := by omega
          have g6 : i - (2 * b.1 + (0 + 1)) < 2 * (b.2 - b.1) - 1 := by omega
          rw [if_pos g1, if_pos g2, if_neg g3, if_pos g6, if_neg g4, if_pos g5]
        · by_cases c4 : i = 2 * b.2
          · have g1 : i < 2 * b.1 + (0 + 1) + (2 * (b.2 - b.1) - 1) + (0 + 1) := by omega
            have g2 : ¬ i < 2 * b.1 + (0 + 1) + (2 * (b.2 - b.1) - 1) := by omega
            have g4 : i - (2 * b.1 + (0 + 1) + (2 * (b.2 - b.1) - 1)) = 0 := by omega
            rw [if_pos g1, if_neg g2, if_pos (.inr c4), g4]
            rfl
          · have g1 : ¬ i < 2 * b.1 + (0 + 1) + (2 * (b.2 - b.1) - 1) + (0 + 1) := by omega
            have g4 : ¬ (i = 2 * b.1 ∨ i = 2 * b.2) := by omega
            have g5 : ¬ (2 * b.1 < i ∧ i < 2 * b.2) := by omega
            have g6 : i - (2 * b.1 + (0 + 1) + (2 * (b.2 - b.1) - 1) + (0 + 1)) < 2 * (n - 1 - b.2) := by omega
            rw [if_neg g1, if_pos g6, if_neg g4, if_neg g5]
  · have z : (List.range (2 * n - 1))[i]? = none := List.getElem?_eq_none (by rw [List.length_range]; omega)
    rw [z, List.getElem?_eq_none]
    · rfl
    · simp only [List.length_append, List.length_replicate, List.length_cons, List.length_nil]
      omega
theorem tl_arcS (n : Nat) (own : Nat → Nat) (b : Nat × Nat) : tl (arcS n own b) = arcL n own b := rfl
theorem arcL_len (n : Nat) (own : Nat → Nat) (b : Nat × Nat) : (arcL n own b).length = 2 * n - 1 := by rw [arcL, List.length_map, List.length_range]
/-- the letters of the wards -/
structure Lets (mg : Str → Option Value) : Prop where
  ex : ∃ t, mg "LETTERS" = some (.str "abcdefghijkl" t)
theorem let_at {k : Nat} (h : k < 12) : ("abcdefghijkl" : Str).cps.toList[k]? = some (97 + k) := by
  have : ∀ k, k < 12 → ("abcdefghijkl" : Str).cps.toList[k]? = some (97 + k) := by decide +kernel
  exact this k h
theorem own_lt {n p : Nat} {bs : List (Nat × Nat)} {ws : List (List Nat)} (PO : PlanOk n bs ws) (hp : p < n) : ownOf ws p < 12 := by
  obtain ⟨u, h1, _⟩ := own_get PO hp
  have := (List.getElem?_eq_some_iff.mp h1).1
  have := PO.w.few
  omega
theorem dpAll_strs {H : Hp} : ∀ ss : List Str, DpAll K H (ss.map V.str) (ss.map PyData.str)
  | [] => .nil
  | s :: ss => .cons (.str s) (dpAll_strs ss)
theorem join_len {s : Str} : ∀ {ys : List Str} {m : Nat}, (∀ y ∈ ys, y.length ≤ m) → (ys.map (·.length)).sum ≤ ys.length * m
  | [], m, _ => by simp
  | y :: ys, m, h => by
    have h1 := h y List.mem_cons_self
    have h2 := join_len (s := s) (ys := ys) fun z hz => h z (List.mem_cons_of_mem _ hz)
    rw [List.map_cons, List.sum_cons, List.length_cons, Nat.succ_mul]
    omega
end
end Wd

set_option Elab.async false
set_option linter.all false
set_option maxRecDepth 100000
set_option maxHeartbeats 4000000
namespace Wd
open PySem PySem.Spec PyProof.Rows L2 Bx Gx














































section
variable {P : Program} {w : World} {K : PySem.W.Frag} {mg : Str → Option Value} {base : Heap}
open TL
/-! ### arcs_of, arcs -/
def spArcsOf (K : PySem.W.Frag) : Sp := fun vs H Q _ => ∃ (l v : V) (fs : List Int) (bs : List (Nat × Nat)) (ws : List (List Nat)), vs = [l, v] ∧ Dp K H l (landD fs bs) ∧ LandOk fs bs ∧ Dp K H v (planD ws) ∧ PlanOk fs.length bs ws ∧
  ∀ q H', Ext H H' → H q = none → H' q = some (.tup ((arcsL fs.length (ownOf ws) bs).map V.str)) → Q (.ref q) H'
abbrev aoN : List Str := ["land", "plan", "row", "many", "lines", "low", "high", "between", "place"]
theorem sc_arcs_of : FnScope aoN ["land", "plan"] (defScope st_arcs_of) := ⟨rfl, rfl, rfl, by decide +kernel, rfl, by decide +kernel, by decide +kernel⟩
theorem ok_arcs_of {f : Addr} {fd : FuncData} (F : Fun K "arcs_of" "arcs_of" st_arcs_of f fd) (B : Bl mg) (LT : Lets mg) (c1 : Cal P w K mg base 1 "ward_row" ["plan"] (spWardRow K)) : FnOk P w K mg base CX0 2 f fd ["land", "plan"] (spArcsOf K) := by
  refine F.ok sc_arcs_of (fun vs H Q E h => ?_) (fun cdv A outer s H vs Q E hr h => ?_)
  · obtain ⟨l, v, fs, bs, ws, rfl, _⟩ := h
    rfl
  · obtain ⟨l, v, fs, bs, ws, rfl, hl, ok, hv, PO, k⟩ := h
    obtain ⟨tL, eL⟩ := LT.ex
    have nd := sc_arcs_of.nd
    refine ⟨_, pss_cons (ps_set (i := 2) nd rfl (Or.inr rfl) (pe_cal c1 hr rfl (pa_cons (pv 1) pa_nil)))
      (pss_cons (ps_set (i := 3) nd rfl (Or.inl rfl) (pe_callB call_len (by rfl) B.len PySem.boot_len (pa_cons (pe_ix ix_tup (pv 0) pe_int (fun _ _ => rfl)) pa_nil)))
      (pss_cons (ps_set (i := 4) nd rfl (Or.inl rfl) (pe_lst pa_nil))
      (pss_cons (ps_for PassesOwn.never rfl (pi_tup (pe_ix ix_tup (pv 0) pe_int (fun _ _ => rfl))) (pg_tup (by rfl) (pgs_cons (pg_name (i := 5) nd rfl (Or.inl rfl)) (pgs_cons (pg_name (i := 6) nd rfl (Or.inl rfl)) pgs_nil)))
        (pss_cons (ps_set (i := 7) nd rfl (Or.inl rfl) (pe_ifExp (pt_cmpR op_eq (pe_dget (hu_of hr) (pv 2) (pv 5) (fun _ _ => rfl)) (pe_dget (hu_of hr) (pv 2) (pv 6) (fun _ _ => rfl)) (nomark _)) pe_str pe_str))
        (pss_one (ps_expr (pe_bm PySem.F.plainAttrs_list PySem.F.slot_list_append PySem.F.type_list_append mt_append (pv 4) (pa_cons
          (pe_op op_add_str (pe_op op_add_str (pe_op op_add_str (pe_op op_add_str (pe_op op_repS pe_str (pv 5)) pe_str) (pe_op op_repS (pv 7) (pe_op op_sub (pe_op op_mul pe_int (pe_op op_sub (pv 6) (pv 5))) pe_int))) pe_str)
            (pe_op op_repS pe_str (pe_op op_sub (pe_op op_sub (pv 3) pe_int) (pv 6)))) pa_nil))))))
      (pss_cons (ps_expr (pe_bm PySem.F.plainAttrs_list PySem.F.slot_list_append PySem.F.type_list_append mt_append (pv 4) (pa_cons (pe_join pe_str
          (pe_lc (own := [("place", 8)]) (g := gName 8) (by rfl) nd (pi_range1 rfl B.range (pa_cons (pv 3) pa_nil)) (blkOk_by (own := [("place", 8)]) (N := aoN) (sc := defScope st_arcs_of) (by decide +kernel))
            (fun _ _ _ _ _ => pg_name (i := 8) nd rfl (Or.inl rfl)) (fun _ _ _ _ _ => pts_nil)
            (fun _ _ _ _ _ => pe_ix ix_str (pe_glob rfl eL (v := .str "abcdefghijkl") ⟨_, rfl⟩) (pe_dget (hu_of hr) (pv 2) (pv 8) (fun _ _ => rfl)) (fun _ _ => rfl)))) pa_nil)))
      (pss_one (ps_ret (pe_tupleOf rfl B.tuple (pv 4)))))))), ?_⟩
    have h12 := ok.most
    have h2' := ok.few
    have hbl := bs_len ok.most ok.bord ok.asc
    obtain ⟨a, af, vb, rfl, h1, h2, h3⟩ := dp_land hl
    obtain ⟨ab, xs, rfl, h4, h5⟩ := dp_tup h3
    have hxl := dpAll_len h5
    rw [List.length_map] at hxl
    refine ⟨_, rfl, v, ws, fs.length, rfl, hv, PO.w, fun d kvs H1 x1 hd0 hd R => ?_⟩
    have hrow := row_own PO R
    dsimp only [gName, tSeq, List.set, L2.start, List.map, List.length, List.replicate, List.append]
    refine ⟨_, rfl, a, _, _, _, rfl, rfl, x1.sqT h1, atI_nat (j := 0) rfl, _, fs.length, rfl, .inr ⟨_, x1.sqT h2, by simp⟩, ?_⟩
    dsimp only [gName, tSeq, List.set]
    refine ⟨Nat.zero_le _, fun ql hql => ?_⟩
    dsimp only [gName, tSeq, List.set]
    have x2 : Ext H (upd H1 ql (.lst [])) := x1.trans (.new hql)
    have hqlH := x1.free hql
    have hdql : d ≠ ql := ne_of_none hd hql
    have hd2 : (upd H1 ql (.lst [])) d = some (.dK kvs) := by rw [upd_ne hdql]; exact hd
    refine ⟨_, rfl, a, _, _, _, rfl, rfl, x2.sqT h1, atI_nat (j := 1) rfl, ab, rfl, ⟨_, x2.sqT h4⟩, for_tup (K := K) (a := ab) (xs := xs) (fun i σ H2 => ∃ o5 o6 o7 : Option V, σ = [some (.ref a), some v, some (.ref d), some (.int (fs.length : Int)), some (.ref ql), o5, o6, o7, none] ∧ Ext H H2 ∧ H2 d = some (.dK kvs) ∧ H2 ql = some (.lst (((bs.take i).map (arcS fs.length (ownOf ws))).map V.str)))
      ⟨_, _, _, rfl, x2, hd2, upd_same⟩ (fun i σ H2 _ ⟨_, _, _, _, x, _, _⟩ => x.sqT h4) ?_ ?_⟩
    · rintro i y σ H2 hy ⟨o5, o6, o7, rfl, x3, hd3, hq3⟩
      have hi : i < bs.length := by
        have := (List.getElem?_eq_some_iff.mp hy).1
        omega
      obtain ⟨dy, hdy, hpy⟩ := dpAll_get' h5 hy
      rw [List.getElem?_map, List.getElem?_eq_getElem hi] at hdy
      have hdy := (Option.some.inj hdy).symm
      subst hdy
      obtain ⟨t, rfl, hSt⟩ := dp_pair hpy
      have hBi := ok.bord bs[i] (List.getElem_mem hi)
      have etk : bs.take (i + 1) = bs.take i ++ [bs[i]] := by
        rw [List.take_add_one, List.getElem?_eq_getElem hi]
        rfl
      rw [etk]
      generalize bs[i] = b at hSt hBi hpy
      have v1 := hrow b.1 (by omega)
      have v2 := hrow b.2 (by omega)
      refine ⟨t, _, rfl, x3.sqT hSt, rfl, _, _, rfl, _, _, rfl, rfl, ?_⟩
      dsimp only [gName, tSeq, List.set]
      refine ⟨_, rfl, _, rfl, d, _, rfl, by rw [← v1]; exact DGet.k (k := Sum.inl (b.1 : Int)) hd3, _, rfl, _, rfl, d, _, rfl, by rw [← v2]; exact DGet.k (k := Sum.inl (b.2 : Int)) hd3, rfl, _, rfl, ?_⟩
      have dots : tl ".." = [46, 46] := by decide +kernel
      have plusL : tl "+" = [43] := by decide +kernel
      have plus1 : ("+" : Str).length = 1 := by decide +kernel
      have len_add : ∀ x y : Str, (x ++ y).length = x.length + y.length := fun x y => by rw [str_len, tl_append, List.length_append, ← str_len, ← str_len]
      refine ite2 (fun z => ?_) (fun z => ?_)
      · have z2 : ownOf ws b.1 = ownOf ws b.2 := by
          have := V.int.inj (of_decide_eq_true z)
          omega
        have hz : tl "-" = [if ownOf ws b.1 = ownOf ws b.2 then 45 else 61] := by rw [if_pos z2]; decide +kernel
        generalize ("-" : Str) = zs at hz ⊢
        dsimp only [gName, tSeq, List.set]
        refine ⟨_, rfl, .inl ⟨rfl, _, SqL.of hq3⟩, _, rfl, _, b.1, rfl, rfl, by omega, by decide +kernel, fun u1 hu1 => ?_⟩
        have l1 : u1.length ≤ 24 := by
          rw [str_len, hu1, dots, flat_two, List.length_replicate]
          omega
        refine ⟨_, _, rfl, rfl, by rw [plus1, sizeLine_eq]; omega, ?_⟩
        refine ⟨_, rfl, _, rfl, _, rfl, _, _, rfl, rfl, _, _, rfl, rfl, .inl ⟨by decide, by decide⟩, _, _, rfl, rfl, zs, 2 * (b.2 - b.1) - 1, rfl, congrArg V.int (by omega), by omega, by rw [str_len, hz]; show 1 ≤ 100; decide, fun u2 hu2 => ?_⟩
        rw [hz, flat_one] at hu2
        have l2 : u2.length ≤ 24 := by
          rw [str_len, hu2, List.length_replicate]
          omega
        refine ⟨_, _, rfl, rfl, by rw [len_add, plus1, sizeLine_eq]; omega, _, _, rfl, rfl, by rw [len_add, len_add, plus1, sizeLine_eq]; omega, ?_⟩
        refine ⟨_, rfl, _, _, rfl, rfl, _, rfl, _, _, rfl, rfl, _, fs.length - 1 - b.2, rfl, congrArg V.int (by omega), by omega, by decide +kernel, fun u3 hu3 => ?_⟩
        rw [dots, flat_two] at hu1 hu3
        have l3 : u3.length ≤ 24 := by
          rw [str_len, hu3, List.length_replicate]
          omega
        refine ⟨_, _, rfl, rfl, by rw [len_add, len_add, len_add, plus1, sizeLine_eq]; omega, ?_⟩
        have eu : u1 ++ "+" ++ u2 ++ "+" ++ u3 = arcS fs.length (ownOf ws) b := ext_tl (by
          rw [tl_append, tl_append, tl_append, tl_append, hu1, hu2, hu3, plusL, tl_arcS]
          exact arc_eq (own := ownOf ws) hBi.1 hBi.2)
        refine ⟨ql, _, _, rfl, rfl, hq3, by rw [List.length_map, List.length_map, List.length_take]; exact small1000 (by omega), ?_⟩
        rw [eu]
        refine ⟨_, _, _, rfl, x3.write hqlH, by rw [upd_ne hdql]; exact hd3, ?_⟩
        rw [upd_same, List.map_append, List.map_append]
        rfl
      · have z2 : ¬ ownOf ws b.1 = ownOf ws b.2 := fun e => by
          rw [e, decide_eq_true rfl] at z
          exact z rfl
        have hz : tl "=" = [if ownOf ws b.1 = ownOf ws b.2 then 45 else 61] := by rw [if_neg z2]; decide +kernel
        generalize ("=" : Str) = zs at hz ⊢
        dsimp only [gName, tSeq, List.set]
        refine ⟨_, rfl, .inl ⟨rfl, _, SqL.of hq3⟩, _, rfl, _, b.1, rfl, rfl, by omega, by decide +kernel, fun u1 hu1 => ?_⟩
        have l1 : u1.length ≤ 24 := by
          rw [str_len, hu1, dots, flat_two, List.length_replicate]
          omega
        refine ⟨_, _, rfl, rfl, by rw [plus1, sizeLine_eq]; omega, ?_⟩
        refine ⟨_, rfl, _, rfl, _, rfl, _, _, rfl, rfl, _, _, rfl, rfl, .inl ⟨by decide, by decide⟩, _, _, rfl, rfl, zs, 2 * (b.2 - b.1) - 1, rfl, congrArg V.int (by omega), by omega, by rw [str_len, hz]; show 1 ≤ 100; decide, fun u2 hu2 => ?_⟩
        rw [hz, flat_one] at hu2
        have l2 : u2.length ≤ 24 := by
          rw [str_len, hu2, List.length_replicate]
          omega
        refine ⟨_, _, rfl, rfl, by rw [len_add, plus1, sizeLine_eq]; omega, _, _, rfl, rfl, by rw [len_add, len_add, plus1, sizeLine_eq]; omega, ?_⟩
        refine ⟨_, rfl, _, _, rfl, rfl, _, rfl, _, _, rfl, rfl, _, fs.length - 1 - b.2, rfl, congrArg V.int (by omega), by omega, by decide +kernel, fun u3 hu3 => ?_⟩
        rw [dots, flat_two] at hu1 hu3
        have l3 : u3.length ≤ 24 := by
          rw [str_len, hu3, List.length_replicate]
          omega
        refine ⟨_, _, rfl, rfl, by rw [len_add, len_add, len_add, plus1, sizeLine_eq]; omega, ?_⟩
        have eu : u1 ++ "+" ++ u2 ++ "+" ++ u3 = arcS fs.length (ownOf ws) b := ext_tl (by
          rw [tl_append, tl_append, tl_append, tl_append, hu1, hu2, hu3, plusL, tl_arcS]
          exact arc_eq (own := ownOf ws) hBi.1 hBi.2)
        refine ⟨ql, _, _, rfl, rfl, hq3, by rw [List.length_map, List.length_map, List.length_take]; exact small1000 (by omega), ?_⟩
        rw [eu]
        refine ⟨_, _, _, rfl, x3.write hqlH, by rw [upd_ne hdql]; exact hd3, ?_⟩
        rw [upd_same, List.map_append, List.map_append]
        rfl
    · rintro σ H2 ⟨o5, o6, o7, rfl, x3, hd3, hq3⟩
      rw [hxl, List.take_length] at hq3
      refine ⟨_, rfl, .inl ⟨rfl, _, SqL.of hq3⟩, ⟨_, rfl⟩, _, rfl, _, rfl, by omega, by omega, fun D hD => ?_⟩
      refine lc_range (lo := 0) (n := (fs.length : Int).toNat) (fun j H4 => H4 D = some (.lst (((List.range j).map (letS (ownOf ws))).map V.str)) ∧ Ext H2 H4) ⟨upd_same, .new hD⟩ (fun j H4 hj ⟨e4, x4⟩ => ?_) fun H4 ⟨e4, x4⟩ => ?_
      · rw [Int.toNat_natCast] at hj
        rw [Int.zero_add]
        refine ⟨rfl, ?_⟩
        dsimp only [tYes]
        rw [if_pos rfl]
        have v1 := hrow j hj
        have hd4 : H4 d = some (.dK kvs) := x4.keep _ _ hd3 fun z => z
        refine ⟨_, rfl, _, rfl, d, _, rfl, by rw [← v1]; exact DGet.k (k := Sum.inl (j : Int)) hd4, _, _, 97 + ownOf ws j, rfl, rfl, by decide +kernel, atI_nat (let_at (own_lt PO hj)), _, e4, by rw [List.length_map, List.length_map, List.length_range]; exact small1000 (by omega), ?_, x4.write hD⟩
        rw [upd_same, List.range_succ, List.map_append, List.map_append]
        rfl
      · rw [Int.toNat_natCast] at e4
        have hq4 := x4.lst hq3
        refine ⟨_, D, _, rfl, rfl, .inl (SqL.of e4), ?_, ?_⟩
        · have := join_len (s := " ") (ys := (List.range fs.length).map (letS (ownOf ws))) (m := 1) fun y hy => by
            obtain ⟨p, _, rfl⟩ := List.mem_map.mp hy
            exact Nat.le_refl 1
          rw [List.length_map, List.length_range] at this ⊢
          have e1 : (" " : Str).length = 1 := by decide +kernel
          rw [e1]
          omega
        refine ⟨ql, _, _, rfl, rfl, hq4, by rw [List.length_map, List.length_map]; exact Nat.lt_of_le_of_lt hbl (by rw [sizeLine_eq]; decide), ?_⟩
        refine ⟨_, rfl, .inl ⟨ql, _, rfl, SqL.of upd_same, fun q hq => ?_⟩⟩
        have x5 : Ext H (upd (upd H4 ql (.lst ((bs.map (arcS fs.length (ownOf ws))).map V.str ++ [.str (Txt.join " " ((List.range fs.length).map (letS (ownOf ws))))]))) q (.tup ((bs.map (arcS fs.length (ownOf ws))).map V.str ++ [.str (Txt.join " " ((List.range fs.length).map (letS (ownOf ws))))]))) := ((x3.trans x4).write hqlH).trans (.new hq)
        refine k q _ x5 (((x3.trans x4).write hqlH).free hq) ?_
        rw [upd_same, arcsL, List.map_append, join_eq]
        rfl
def spArcs (K : PySem.W.Frag) (T1 T2 T3 T4 : Addr) : Sp := fun vs H Q _ => ∃ (l v : V) (fs : List Int) (bs : List (Nat × Nat)) (ws : List (List Nat)), vs = [l, v] ∧ Dp K H l (landD fs bs) ∧ LandOk fs bs ∧ Dp K H v (planD ws) ∧ PlanOk fs.length bs ws ∧ Tabs [T1, T2, T3, T4] H ∧
  ∀ q H', Ext H H' → H q = none → H' q = some (.tup ((arcsL fs.length (ownOf ws) bs).map V.str)) → Q (.ref q) H'
theorem sc_arcs : FnScope ["land", "plan"] ["land", "plan"] (defScope st_arcs) := ⟨rfl, rfl, rfl, by decide +kernel, rfl, by decide +kernel, by decide +kernel⟩
theorem ok_arcs {f T1 T2 T3 T4 : Addr} {fd : FuncData} (F : Fun K "arcs" "arcs" st_arcs f fd) (c1 : Cal P w K mg base 5 "check_land" ["land"] (spFaultLand K)) (c2 : Cal P w K mg base 10 "check_plan" ["land", "plan"] (spFaultPlan K T1 T2 T3 T4)) (c3 : Cal P w K mg base 2 "arcs_of" ["land", "plan"] (spArcsOf K)) :
    FnOk P w K mg base CX0 11 f fd ["land", "plan"] (spArcs K T1 T2 T3 T4) := by
  refine F.ok sc_arcs (fun vs H Q E h => ?_) (fun cdv A outer s H vs Q E hr h => ?_)
  · obtain ⟨l, v, fs, bs, ws, rfl, _⟩ := h
    rfl
  · obtain ⟨l, v, fs, bs, ws, rfl, hl, ok, hv, PO, hT, k⟩ := h
    refine ⟨_, pss_cons (ps_expr (pe_cal c1 (hr.mono (by decide)) rfl (pa_cons (pv 0) pa_nil))) (pss_cons (ps_expr (pe_cal c2 hr rfl (pa_cons (pv 0) (pa_cons (pv 1) pa_nil))))
      (pss_one (ps_ret (pe_cal c3 (hr.mono (by decide)) rfl (pa_cons (pv 0) (pa_cons (pv 1) pa_nil)))))), ?_⟩
    refine ⟨_, rfl, _, fs, bs, rfl, hl, ok, ?_⟩
    refine ⟨_, rfl, _, rfl, l, v, fs, bs, ws, rfl, hl, ok, hv, PO, hT, fun H1 x1 => ?_⟩
    exact ⟨_, rfl, _, rfl, l, v, fs, bs, ws, rfl, dp_ext x1 hl, ok, dp_ext x1 hv, PO, fun q H2 x2 hq0 hq => k q H2 (x1.trans x2) (x1.free hq0) hq⟩
end
section
variable {P : Program} {w : World} {K : PySem.W.Frag} {mg : Str → Option Value} {base : Heap}
open TL
/-! ### the law's own owners and arcs -/
def spOwners (K : PySem.W.Frag) : Sp := fun vs H Q _ => ∃ (l v : V) (fs : List Int) (bs : List (Nat × Nat)) (ws : List (List Nat)), vs = [l, v] ∧ Dp K H l (landD fs bs) ∧ LandOk fs bs ∧ Dp K H v (planD ws) ∧ PlanOk fs.length bs ws ∧
  ∀ q H', Ext H H' → H q = none → H' q = some (.lst (vsN (ownL fs.length ws))) → Q (.ref q) H'
abbrev owN : List Str := ["land", "plan", "place", "k"]
theorem sc_law_owners : FnScope owN ["land", "plan"] (defScope st__law_owners) := ⟨rfl, rfl, rfl, by decide +kernel, rfl, by decide +kernel, by decide +kernel⟩
abbrev scOwn : Scope := { kind := .function, names := [(".0", .local), ("place", .cell), ("range", .globalImplicit), ("len", .globalImplicit), ("plan", .cell)], isGenerator := false, isCoroutine := false, more := [] }
theorem ok_law_owners {f : Addr} {fd : FuncData} (F : Fun K "_law_owners" "_law_owners" st__law_owners f fd) (B : Bl mg) : FnOk P w K mg base CX0 1 f fd ["land", "plan"] (spOwners K) := by
  refine F.ok sc_law_owners (fun vs H Q E h => ?_) (fun cdv A outer s H vs Q E hr h => ?_)
  · obtain ⟨l, v, fs, bs, ws, rfl, _⟩ := h
    rfl
  · obtain ⟨l, v, fs, bs, ws, rfl, hl, ok, hv, po, k⟩ := h
    have nd := sc_law_owners.nd
    refine ⟨_, pss_one (ps_ret (pe_lc (own := [("place", 2)]) (g := gName 2) (by rfl) nd (pi_range1 rfl B.range (pa_cons (pe_callB call_len (by rfl) B.len PySem.boot_len (pa_cons (pe_ix ix_tup (pv 0) pe_int (fun _ _ => rfl)) pa_nil)) pa_nil))
        (blkOk_by (own := [("place", 2)]) (N := owN) (sc := defScope st__law_owners) (by decide +kernel))
        (fun _ _ _ _ _ => pg_name (i := 2) nd rfl (Or.inr rfl)) (fun _ _ _ _ _ => pts_nil)
        (fun _ _ _ _ _ => pe_ix (ix_lstK (K := K) rfl) (pe_lc (own := [("k", 3)]) (g := gName 3) (by rfl) nd (pi_range1 rfl B.range (pa_cons (pe_callB (call_lenK (K := K) rfl) (by rfl) B.len PySem.boot_len (pa_cons (pv 1) pa_nil)) pa_nil))
          (blkOk_by (own := [("k", 3)]) (N := owN) (sc := scOwn) (by decide +kernel)) (fun _ _ _ _ _ => pg_name (i := 3) nd rfl (Or.inl rfl))
          (fun _ _ _ _ _ => pts_one (pt_cmpR (op_inK (K := K) rfl) (pv 2) (pe_ix (ix_tupK (K := K) rfl) (pv 1) (pv 3) (fun _ _ => rfl)) (by rfl))) (fun _ _ _ _ _ => pv 3)) pe_int (fun _ _ => rfl)))), ?_⟩
    have h12 := ok.most
    obtain ⟨a, af, vb, rfl, h1, h2, h3⟩ := dp_land hl
    obtain ⟨ap, xp, rfl, hp1, hp2⟩ := dp_tup hv
    have hxp := dpAll_len hp2
    rw [List.length_map] at hxp
    have hwf := po.w.few
    refine ⟨_, rfl, a, _, _, _, rfl, rfl, h1, atI_nat (j := 0) rfl, _, fs.length, rfl, .inr ⟨_, h2, by simp⟩, _, rfl, by omega, by omega, fun D hD => ?_⟩
    refine lc_range (lo := 0) (n := (fs.length : Int).toNat) (fun u H11 => H11 D = some (.lst (vsN (ownL u ws))) ∧ Ext H H11) ⟨upd_same, .new hD⟩ (fun u H11 hu ⟨e11, x11⟩ => ?_) (fun H11 ⟨e11, x11⟩ => ?_)
    · rw [Int.toNat_natCast] at hu
      rw [Int.zero_add]
      refine ⟨rfl, ?_⟩
      dsimp only [tYes]
      rw [if_pos rfl]
      refine ⟨_, rfl, _, xp.length, rfl, .inr ⟨_, x11.sqT hp1, rfl⟩, _, rfl, by omega, by omega, fun D2 hD2 => ?_⟩
      refine lc_range (lo := 0) (n := (xp.length : Int).toNat) (fun j H12 => H12 D2 = some (.lst (vsN ((List.range j).filter fun k => decide (u ∈ ws.getD k [])))) ∧ Ext H11 H12) ⟨upd_same, .new hD2⟩ (fun j H12 hj ⟨e12, x12⟩ => ?_) fun H12 ⟨e12, x12⟩ => ?_
      · rw [Int.toNat_natCast] at hj
        rw [Int.zero_add]
        have hjw : j < ws.length := by omega
        obtain ⟨vw, hvw, hdw⟩ := dpAll_get hp2 (i := j) (d := lotD ws[j]) (by rw [List.getElem?_map, List.getElem?_eq_getElem hjw]; rfl)
        obtain ⟨aw, rfl, hsw⟩ := dp_lot hdw
        have egd : ws.getD j [] = ws[j] := by rw [List.getD_eq_getElem?_getD, List.getElem?_eq_getElem hjw]; rfl
        have x12' := x11.trans x12
        refine ⟨rfl, _, rfl, _, rfl, _, rfl, ap, _, _, _, rfl, rfl, x12'.sqT hp1, atI_nat hvw, aw, _, rfl, .inr (x12'.sqT hsw), rfl, flat_vsN _, ?_⟩
        have hl12 := List.length_filter_le (fun k => decide (u ∈ ws.getD k [])) (List.range j)
        rw [List.length_range] at hl12
        refine ⟨_, rfl, ?_⟩
        show if (if false = true then !inV _ _ else inV _ _) = true then _ else _
        rw [if_neg Bool.false_ne_true, inV_vsN, List.range_succ, filt_snoc (fun k => decide (u ∈ ws.getD k [])), egd]
        refine ite2 (fun z => ?_) (fun z => ?_)
        · rw [if_pos z]
          refine ⟨_, rfl, _, e12, by rw [vsN_len0]; exact small1000 (by omega), ?_, x12.write hD2⟩
          rw [upd_same]
          show _ = some (HO.lst (List.map _ (_ ++ _)))
          rw [List.map_append]
          rfl
        · rw [if_neg z, List.append_nil]
          exact ⟨e12, x12⟩
      · rw [Int.toNat_natCast, hxp] at e12
        refine ⟨D2, _, 0, _, rfl, rfl, SqL.of e12, atI_nat (j := 0) (own_first po hu), _, x12.lst e11, by rw [vsN_len0, ownL, List.length_map, List.length_range]; exact small1000 (by omega), ?_, (x11.trans x12).write hD⟩
        rw [upd_same, show ownL (u + 1) ws = ownL u ws ++ [ownOf ws u] by rw [ownL, ownL, List.range_succ, List.map_append]; rfl]
        show _ = some (HO.lst (List.map _ (_ ++ _)))
        rw [List.map_append]
        rfl
    · rw [Int.toNat_natCast] at e11
      exact k D _ x11 hD e11
theorem inV_ints (m : Int) (l : List Int) : inV (.int m) (l.map V.int) = decide (m ∈ l) := by
  unfold inV
  rw [List.any_map]
  induction l with
  | nil => rfl
  | cons x r ih =>
    rw [List.any_cons, ih]
    have e : ((fun y => eqV y (.int m)) ∘ V.int) x = decide (m = x) := by
      show (x == m) = _
      by_cases h : m = x
      · subst h; simp
      · rw [decide_eq_false h]
        simp
        exact fun z => h z.symm
    rw [e]
    by_cases h : m = x
    · simp [h]
    · simp [h]
def spLArcs (K : PySem.W.Frag) : Sp := fun vs H Q _ => ∃ (l v : V) (fs : List Int) (bs : List (Nat × Nat)) (ws : List (List Nat)), vs = [l, v] ∧ Dp K H l (landD fs bs) ∧ LandOk fs bs ∧ Dp K H v (planD ws) ∧ PlanOk fs.length bs ws ∧
  ∀ q H', Ext H H' → H q = none → H' q = some (.tup ((arcsL fs.length (ownOf ws) bs).map V.str)) → Q (.ref q) H'
abbrev laN : List Str := ["land", "plan", "own", "many", "rows", "i", "j", "row", "at", "k"]
theorem sc_law_arcs : FnScope laN ["land", "plan"] (defScope st__law_arcs) := ⟨rfl, rfl, rfl, by decide +kernel, rfl, by decide +kernel, by decide +kernel⟩
theorem arcL_take {n : Nat} {own : Nat → Nat} {b : Nat × Nat} {t : Nat} (h : t < 2 * n - 1) : (arcL n own b).take (t + 1) = (arcL n own b).take t ++ [arcC own b t] := by
  rw [List.take_add_one]
  congr 1
  rw [arcL, List.getElem?_map, List.getElem?_range h]
  rfl
theorem ok_law_arcs {f : Addr} {fd : FuncData} (F : Fun K "_law_arcs" "_law_arcs" st__law_arcs f fd) (B : Bl mg) (c1 : Cal P w K mg base 1 "_law_owners" ["land", "plan"] (spOwners K)) : FnOk P w K mg base CX0 2 f fd ["land", "plan"] (spLArcs K) := by
  refine F.ok sc_law_arcs (fun vs H Q E h => ?_) (fun cdv A outer s H vs Q E hr h => ?_)
  · obtain ⟨l, v, fs, bs, ws, rfl, _⟩ := h
    rfl
  · obtain ⟨l, v, fs, bs, ws, rfl, hl, ok, hv, PO, k⟩ := h
    have nd := sc_law_arcs.nd
    refine ⟨_, pss_cons (ps_par3 (i := 2) (j := 3) (l := 4) (by rfl) nd rfl rfl rfl (by decide) (by decide) (by decide) rfl rfl rfl
          (pa_cons (pe_cal c1 hr rfl (pa_cons (pv 0) (pa_cons (pv 1) pa_nil)))
          (pa_cons (pe_callB call_len (by rfl) B.len PySem.boot_len (pa_cons (pe_ix ix_tup (pv 0) pe_int (fun _ _ => rfl)) pa_nil))
          (pa_cons (pe_lst pa_nil) pa_nil))) (by rfl))
      (pss_cons (ps_for PassesOwn.never rfl (pi_tup (pe_ix ix_tup (pv 0) pe_int (fun _ _ => rfl))) (pg_tup (by rfl) (pgs_cons (pg_name (i := 5) nd rfl (Or.inl rfl)) (pgs_cons (pg_name (i := 6) nd rfl (Or.inl rfl)) pgs_nil)))
        (pss_cons (ps_set (i := 7) nd rfl (Or.inl rfl) pe_str)
        (pss_cons (ps_for PassesOwn.never rfl (pi_range1 rfl B.range (pa_cons (pe_op op_sub (pe_op op_mul pe_int (pv 3)) pe_int) pa_nil)) (pg_name (i := 8) nd rfl (Or.inl rfl))
          (pss_one (ps_if (pt_cmpR op_in_seq (pv 8) (pe_tup (pa_cons (pe_op op_mul pe_int (pv 5)) (pa_cons (pe_op op_mul pe_int (pv 6)) pa_nil))) (by rfl))
            (pss_one (ps_set (i := 7) nd rfl (Or.inl rfl) (pe_op op_add_str (pv 7) pe_str)))
            (pss_one (ps_if (pt_chain op_lt op_lt (pe_op op_mul pe_int (pv 5)) (pv 8) (pe_op op_mul pe_int (pv 6)))
              (pss_one (ps_set (i := 7) nd rfl (Or.inl rfl) (pe_op op_add_str (pv 7) (pe_ifExp (pt_cmpR op_eq (pe_ix ix_list (pv 2) (pv 5) (fun _ _ => rfl)) (pe_ix ix_list (pv 2) (pv 6) (fun _ _ => rfl)) (nomark _)) pe_str pe_str))))
              (pss_one (ps_set (i := 7) nd rfl (Or.inl rfl) (pe_op op_add_str (pv 7) pe_str))))))))
        (pss_one (ps_expr (pe_bm PySem.F.plainAttrs_list PySem.F.slot_list_append PySem.F.type_list_append mt_append (pv 4) (pa_cons (pv 7) pa_nil)))))))
      (pss_one (ps_ret (pe_tupleOf rfl B.tuple (pe_op op_cat (pv 4) (pe_lst (pa_cons (pe_join pe_str
          (pe_lc (own := [("k", 9)]) (g := gName 9) (by rfl) nd (pi_list (pv 2)) (blkOk_by (own := [("k", 9)]) (N := laN) (sc := defScope st__law_arcs) (by decide +kernel))
            (fun _ _ _ _ _ => pg_name (i := 9) nd rfl (Or.inl rfl)) (fun _ _ _ _ _ => pts_nil)
            (fun _ _ _ _ _ => pe_ix ix_str pe_str (pv 9) (fun _ _ => rfl)))) pa_nil))))))), ?_⟩
    have h12 := ok.most
    have h2' := ok.few
    have hbl := bs_len ok.most ok.bord ok.asc
    obtain ⟨a, af, vb, rfl, h1, h2, h3⟩ := dp_land hl
    obtain ⟨ab, xs, rfl, h4, h5⟩ := dp_tup h3
    have hxl := dpAll_len h5
    rw [List.length_map] at hxl
    refine ⟨_, rfl, _, rfl, .ref a, v, fs, bs, ws, rfl, hl, ok, hv, PO, fun qo H1 x1 hqo0 hqo => ?_⟩
    refine ⟨_, rfl, a, _, _, _, rfl, rfl, x1.sqT h1, atI_nat (j := 0) rfl, _, fs.length, rfl, .inr ⟨_, x1.sqT h2, by simp⟩, Nat.zero_le _, fun ql hql => ⟨_, _, _, rfl, ?_⟩⟩
    dsimp only [gName, tSeq, List.set, L2.start, List.map, List.length, List.replicate, List.append]
    have x2 : Ext H (upd H1 ql (.lst [])) := x1.trans (.new hql)
    have hqlH := x1.free hql
    have hne : qo ≠ ql := ne_of_none hqo hql
    have hqo2 : (upd H1 ql (.lst [])) qo = some (.lst (vsN (ownL fs.length ws))) := by rw [upd_ne hne]; exact hqo
    refine ⟨_, rfl, a, _, _, _, rfl, rfl, x2.sqT h1, atI_nat (j := 1) rfl, ab, rfl, ⟨_, x2.sqT h4⟩, for_tup (K := K) (a := ab) (xs := xs) (fun i σ H2 => ∃ o5 o6 o7 o8 : Option V, σ = [some (.ref a), some v, some (.ref qo), some (.int (fs.length : Int)), some (.ref ql), o5, o6, o7, o8, none] ∧ Ext H H2 ∧ H2 qo = some (.lst (vsN (ownL fs.length ws))) ∧ H2 ql = some (.lst (((bs.take i).map (arcS fs.length (ownOf ws))).map V.str)))
      ⟨_, _, _, _, rfl, x2, hqo2, upd_same⟩ (fun i σ H2 _ ⟨_, _, _, _, _, x, _, _⟩ => x.sqT h4) ?_ ?_⟩
    · rintro i y σ H2 hy ⟨o5, o6, o7, o8, rfl, x3, hqo3, hq3⟩
      have hi : i < bs.length := by
        have := (List.getElem?_eq_some_iff.mp hy).1
        omega
      obtain ⟨dy, hdy, hpy⟩ := dpAll_get' h5 hy
      rw [List.getElem?_map, List.getElem?_eq_getElem hi] at hdy
      have hdy := (Option.some.inj hdy).symm
      subst hdy
      obtain ⟨t, rfl, hSt⟩ := dp_pair hpy
      have hBi := ok.bord bs[i] (List.getElem_mem hi)
      have etk : bs.take (i + 1) = bs.take i ++ [bs[i]] := by
        rw [List.take_add_one, List.getElem?_eq_getElem hi]
        rfl
      rw [etk]
      generalize bs[i] = b at hSt hBi hpy
      refine ⟨t, _, rfl, x3.sqT hSt, rfl, _, _, rfl, _, _, rfl, rfl, ?_⟩
      dsimp only [gName, tSeq, List.set]
      have e2n : (2 : Int) * (fs.length : Int) - 1 = ((2 * fs.length - 1 : Nat) : Int) := by omega
      have len_add : ∀ x y : Str, (x ++ y).length = x.length + y.length := fun x y => by rw [str_len, tl_append, List.length_append, ← str_len, ← str_len]
      refine ⟨_, rfl, _, _, rfl, rfl, .inl ⟨by decide, by decide⟩, _, _, rfl, rfl, _, rfl, by omega, by omega, ?_⟩
      rw [e2n, Int.toNat_natCast]
      refine for_range (lo := 0) (n := 2 * fs.length - 1) (fun j σ H4 => ∃ (u : Str) (o8 : Option V), σ = [some (.ref a), some v, some (.ref qo), some (.int (fs.length : Int)), some (.ref ql), some (.int (b.1 : Int)), some (.int (b.2 : Int)), some (.str u), o8, none] ∧ Ext H2 H4 ∧ tl u = (arcL fs.length (ownOf ws) b).take j)
        ⟨_, _, rfl, .refl _, rfl⟩ ?_ ?_
      · rintro j σ H4 hj ⟨u, o8', rfl, x4, hu⟩
        rw [Int.zero_add]
        have hul : u.length ≤ 24 := by
          rw [str_len, hu, List.length_take]
          omega
        have one : ∀ (z : Str), tl z = [arcC (ownOf ws) b j] → tl (u ++ z) = (arcL fs.length (ownOf ws) b).take (j + 1) ∧ u.length + z.length ≤ sizeLine := fun z hz => by
          refine ⟨by rw [tl_append, hu, hz, arcL_take hj], ?_⟩
          have : z.length = 1 := by rw [str_len, hz]; rfl
          rw [sizeLine_eq]
          omega
        refine ⟨_, rfl, _, rfl, _, _, rfl, rfl, .inl ⟨by decide, by decide⟩, _, rfl, _, _, rfl, rfl, .inl ⟨by decide, by decide⟩, by show 2 ≤ sizeLine; decide, fun p hp => ?_⟩
        have x5 : Ext H2 (upd H4 p (.tup [.int (2 * (b.1 : Int)), .int (2 * (b.2 : Int))])) := x4.trans (.new hp)
        refine ⟨p, _, rfl, .inr (SqT.of upd_same), rfl, rfl, _, rfl, ?_⟩
        generalize upd H4 p (.tup [.int (2 * (b.1 : Int)), .int (2 * (b.2 : Int))]) = H5 at x5 ⊢
        show if (if false = true then !inV _ _ else inV _ _) = true then _ else _
        rw [if_neg (show ¬ false = true from Bool.false_ne_true), show ([V.int (2 * (b.1 : Int)), V.int (2 * (b.2 : Int))] : List V) = [2 * (b.1 : Int), 2 * (b.2 : Int)].map V.int from rfl, inV_ints]
        have hmem : ((j : Int) ∈ [2 * (b.1 : Int), 2 * (b.2 : Int)]) ↔ (j = 2 * b.1 ∨ j = 2 * b.2) := by
          simp only [List.mem_cons, List.not_mem_nil, or_false]
          omega
        refine ite2 (fun z => ?_) (fun z => ?_)
        · have z := hmem.mp (of_decide_eq_true z)
          obtain ⟨g1, g2⟩ := one "+" (by unfold arcC; rw [if_pos z]; decide +kernel)
          exact ⟨_, rfl, _, _, rfl, rfl, g2, _, _, rfl, x5, g1⟩
        · have z : ¬ (j = 2 * b.1 ∨ j = 2 * b.2) := fun e => z (decide_eq_true (hmem.mpr e))
          refine ⟨_, rfl, _, _, rfl, rfl, .inl ⟨by decide, by decide⟩, _, rfl, _, _, rfl, rfl, decide (2 * (b.1 : Int) < (j : Int)), rfl, ?_⟩
          by_cases c1 : 2 * (b.1 : Int) < (j : Int)
          · rw [decide_eq_true c1]
            refine iteT ⟨_, rfl, _, _, rfl, rfl, .inl ⟨by decide, by decide⟩, _, _, rfl, rfl, decide ((j : Int) < 2 * (b.2 : Int)), rfl, ?_⟩
            by_cases c2 : (j : Int) < 2 * (b.2 : Int)
            · rw [decide_eq_true c2]
              refine iteT ?_
              have hqo5 := x5.lst hqo3
              refine ⟨_, rfl, _, rfl, _, rfl, qo, _, _, _, rfl, rfl, SqL.of hqo5, atI_nat (ownL_get ws (by omega : b.1 < fs.length)), _, rfl, _, rfl, qo, _, _, _, rfl, rfl, SqL.of hqo5, atI_nat (ownL_get ws hBi.2), rfl, _, rfl, ?_⟩
              have c12 : 2 * b.1 < j ∧ j < 2 * b.2 := by omega
              refine ite2 (fun z3 => ?_) (fun z3 => ?_)
              · have z4 : ownOf ws b.1 = ownOf ws b.2 := by
                  have := V.int.inj (of_decide_eq_true z3)
                  omega
                obtain ⟨g1, g2⟩ := one "-" (by unfold arcC; rw [if_neg z, if_pos c12, if_pos z4]; decide +kernel)
                exact ⟨_, _, rfl, rfl, g2, _, _, rfl, x5, g1⟩
              · have z4 : ¬ ownOf ws b.1 = ownOf ws b.2 := fun e => by
                  rw [e, decide_eq_true rfl] at z3
                  exact z3 rfl
                obtain ⟨g1, g2⟩ := one "=" (by unfold arcC; rw [if_neg z, if_pos c12, if_neg z4]; decide +kernel)
                exact ⟨_, _, rfl, rfl, g2, _, _, rfl, x5, g1⟩
            · rw [decide_eq_false c2]
              refine iteF ?_
              obtain ⟨g1, g2⟩ := one "." (by unfold arcC; rw [if_neg z, if_neg (by omega)]; decide +kernel)
              exact ⟨_, rfl, _, _, rfl, rfl, g2, _, _, rfl, x5, g1⟩
          · rw [decide_eq_false c1]
            refine iteF ⟨_, rfl, iteF ?_⟩
            obtain ⟨g1, g2⟩ := one "." (by unfold arcC; rw [if_neg z, if_neg (by omega)]; decide +kernel)
            exact ⟨_, rfl, _, _, rfl, rfl, g2, _, _, rfl, x5, g1⟩
      · rintro σ H4 ⟨u, o8', rfl, x4, hu⟩
        rw [List.take_of_length_le (by rw [arcL_len]; exact Nat.le_refl _)] at hu
        have eu : u = arcS fs.length (ownOf ws) b := ext_tl (by rw [hu, tl_arcS])
        subst eu
        have hq4 := x4.lst hq3
        refine ⟨_, rfl, .inl ⟨rfl, _, SqL.of hq4⟩, _, rfl, ql, _, _, rfl, rfl, hq4, by rw [List.length_map, List.length_map, List.length_take]; exact small1000 (by omega), ?_⟩
        refine ⟨_, _, _, _, rfl, (x3.trans x4).write hqlH, by rw [upd_ne hne]; exact x4.lst hqo3, ?_⟩
        rw [upd_same, List.map_append, List.map_append]
        rfl
    · rintro σ H2 ⟨o5, o6, o7, o8, rfl, x3, hqo3, hq3⟩
      rw [hxl, List.take_length] at hq3
      have hol : (ownL fs.length ws).length = fs.length := by rw [ownL, List.length_map, List.length_range]
      refine ⟨_, rfl, ⟨_, rfl⟩, _, rfl, qo, rfl, ⟨_, SqL.of hqo3⟩, fun D hD => ?_⟩
      refine lc_list (K := K) (a := qo) (xs := vsN (ownL fs.length ws)) (fun j H4 => H4 D = some (.lst (((List.range j).map (letS (ownOf ws))).map V.str)) ∧ Ext H2 H4) ⟨upd_same, .new hD⟩ (fun j H4 _ ⟨_, x4⟩ => SqL.of (x4.lst hqo3)) (fun j y H4 hy ⟨e4, x4⟩ => ?_) fun H4 ⟨e4, x4⟩ => ?_
      · have hj : j < fs.length := by
          have := (List.getElem?_eq_some_iff.mp hy).1
          rwa [vsN_len0, hol] at this
        have ey : y = .int (ownOf ws j : Int) := by
          rw [ownL_get ws hj] at hy
          exact (Option.some.inj hy).symm
        subst ey
        refine ⟨rfl, ?_⟩
        dsimp only [tYes]
        rw [if_pos rfl]
        refine ⟨_, rfl, _, _, 97 + ownOf ws j, rfl, rfl, by decide +kernel, atI_nat (let_at (own_lt PO hj)), _, e4, by rw [List.length_map, List.length_map, List.length_range]; exact small1000 (by omega), ?_, x4.write hD⟩
        rw [upd_same, List.range_succ, List.map_append, List.map_append]
        rfl
      · rw [vsN_len0, hol] at e4
        have hq4 := x4.lst hq3
        refine ⟨_, D, _, rfl, rfl, .inl (SqL.of e4), ?_, ?_⟩
        · have := join_len (s := " ") (ys := (List.range fs.length).map (letS (ownOf ws))) (m := 1) fun y hy => by
            obtain ⟨p, _, rfl⟩ := List.mem_map.mp hy
            exact Nat.le_refl 1
          rw [List.length_map, List.length_range] at this ⊢
          have e1 : (" " : Str).length = 1 := by decide +kernel
          rw [e1]
          omega
        refine ⟨by show 1 ≤ sizeLine; decide, fun r hr0 => ?_⟩
        have hqr : ql ≠ r := ne_of_none hq4 hr0
        refine ⟨ql, r, _, _, rfl, rfl, by rw [upd_ne hqr]; exact hq4, upd_same, ?_, fun z hz => .inl ⟨z, _, rfl, SqL.of upd_same, fun q hq => ?_⟩⟩
        · rw [List.length_map, List.length_map]
          show _ + 1 ≤ sizeLine
          rw [sizeLine_eq]
          omega
        have x5 := (((x3.trans x4).trans (.new (o := .lst [.str (Txt.join " " ((List.range fs.length).map (letS (ownOf ws))))]) hr0)).trans (.new (o := .lst (((bs.map (arcS fs.length (ownOf ws))).map V.str) ++ [.str (Txt.join " " ((List.range fs.length).map (letS (ownOf ws))))])) hz))
        refine k q _ (x5.trans (.new hq)) (x5.free hq) ?_
        rw [upd_same, arcsL, List.map_append, join_eq]
        rfl
end
end Wd

set_option Elab.async false
set_option linter.all false
set_option maxRecDepth 100000
set_option maxHeartbeats 4000000
namespace Wd
open PySem PySem.Spec PyProof.Rows L2 Bx Gx














































section
variable {P : Program} {w : World} {K : PySem.W.Frag} {mg : Str → Option Value} {base : Heap}
open TL
/-! ### pictures by squares and bars, sign by sign -/
def sqC (own : Nat → Nat) (bs : List (Nat × Nat)) (one other : Nat) : Nat := if one = other then 97 + own one else if Mk.adj bs one other = true then (if own one = own other then 45 else 35) else 46
def sqL (n : Nat) (own : Nat → Nat) (bs : List (Nat × Nat)) (one : Nat) : List Nat := (List.range n).map (sqC own bs one)
def sqS (n : Nat) (own : Nat → Nat) (bs : List (Nat × Nat)) (one : Nat) : Str := ⟨(sqL n own bs one).toArray⟩
def squareL (n : Nat) (own : Nat → Nat) (bs : List (Nat × Nat)) : List Str := (List.range n).map (sqS n own bs)
def barC (wide folk most : Int) (k : Nat) : Nat := if 0 < most ∧ ((k : Int) + 1) * most ≤ wide * folk then 35 else if (k : Int) * most < wide * folk then 43 else 46
def barL (wide : Nat) (folk most : Int) : List Nat := (List.range wide).map (barC wide folk most)
def barS (wide : Nat) (folk most : Int) : Str := ⟨(barL wide folk most).toArray⟩
def spSign (K : PySem.W.Frag) : Sp := fun vs H Q _ => ∃ (l : V) (d : Addr) (fs : List Int) (bs : List (Nat × Nat)) (kvs : List (L2.Key × V)) (own : Nat → Nat) (one other : Nat), vs = [l, .ref d, .int (one : Int), .int (other : Int)] ∧ Dp K H l (landD fs bs) ∧ H d = some (.dK kvs) ∧
  (∀ p, p < fs.length → valV kvs (Sum.inl (p : Int) : L2.Key) = some (.int (own p : Int))) ∧ (∀ p, p < fs.length → own p < 12) ∧ one < fs.length ∧ other < fs.length ∧ ∀ H', Ext H H' → Q (.str ⟨#[sqC own bs one other]⟩) H'
theorem sc_sign_of : FnScope ["land", "row", "one", "other"] ["land", "row", "one", "other"] (defScope st_sign_of) := ⟨rfl, rfl, rfl, by decide +kernel, rfl, by decide +kernel, by decide +kernel⟩
theorem ok_sign_of {f : Addr} {fd : FuncData} (F : Fun K "sign_of" "sign_of" st_sign_of f fd) (B : Bl mg) (LT : Lets mg) : FnOk P w K mg base CX0 1 f fd ["land", "row", "one", "other"] (spSign K) := by
  refine F.ok sc_sign_of (fun vs H Q E h => ?_) (fun cdv A outer s H vs Q E hr h => ?_)
  · obtain ⟨l, d, fs, bs, kvs, own, one, other, rfl, _⟩ := h
    rfl
  · obtain ⟨l, d, fs, bs, kvs, own, one, other, rfl, hl, hd, hrow, h12, h1, h2, k⟩ := h
    obtain ⟨tL, eL⟩ := LT.ex
    have nd := sc_sign_of.nd
    refine ⟨_, pss_cons (ps_if (pt_cmpR op_eq (pv 2) (pv 3) (nomark _)) (pss_one (ps_ret (pe_ix ix_str (pe_glob rfl eL (v := .str "abcdefghijkl") ⟨_, rfl⟩) (pe_dget (hu_of hr) (pv 1) (pv 2) (fun _ _ => rfl)) (fun _ _ => rfl)))) pss_nil)
      (pss_cons (ps_if (pt_cmpR (op_notInDTK (K := K) rfl (u65 hr)) (pe_tup (pa_cons (pe_callB (call_min2 rfl) (by rfl) B.min (by decide +kernel) (pa_cons (pv 2) (pa_cons (pv 3) pa_nil))) (pa_cons (pe_callB (call_max2 rfl) (by rfl) B.max (by decide +kernel) (pa_cons (pv 2) (pa_cons (pv 3) pa_nil))) pa_nil))) (pe_ix (ix_tupK (K := K) rfl) (pv 0) pe_int (fun _ _ => rfl)) (by rfl))
        (pss_one (ps_ret pe_str)) pss_nil)
      (pss_one (ps_ret (pe_ifExp (pt_cmpR op_eq (pe_dget (hu_of hr) (pv 1) (pv 2) (fun _ _ => rfl)) (pe_dget (hu_of hr) (pv 1) (pv 3) (fun _ _ => rfl)) (nomark _)) pe_str pe_str)))), ?_⟩
    obtain ⟨a, af, vb, rfl, hl1, hl2, hl3⟩ := dp_land hl
    have v1 := hrow one h1
    have v2 := hrow other h2
    refine ⟨_, rfl, _, rfl, rfl, _, rfl, ?_⟩
    refine ite2 (fun z => ?_) (fun z => ?_)
    · have z2 : one = other := by
        have := V.int.inj (of_decide_eq_true z)
        omega
      have e : sqC own bs one other = 97 + own one := by unfold sqC; rw [if_pos z2]
      rw [e] at k
      exact ⟨_, rfl, _, rfl, d, _, rfl, by rw [← v1]; exact DGet.k (k := Sum.inl (one : Int)) hd, _, _, 97 + own one, rfl, rfl, by decide +kernel, atI_nat (let_at (h12 _ h1)), k H (.refl H)⟩
    · have z2 : ¬ one = other := fun e => by
        rw [e, decide_eq_true rfl] at z
        exact z rfl
      dsimp only [tSeq]
      refine ⟨_, rfl, _, rfl, _, _, rfl, _, rfl, _, rfl, _, _, rfl, by show 2 ≤ sizeLine; decide, fun t ht => ?_⟩
      have x3 : Ext H (upd H t (.tup [.int (if (other : Int) < (one : Int) then (other : Int) else (one : Int)), .int (if (other : Int) > (one : Int) then (other : Int) else (one : Int))])) := .new ht
      refine ⟨_, rfl, a, _, _, _, rfl, rfl, x3.sqT hl1, atI_nat (j := 1) rfl, .tuple [.int (if (other : Int) < (one : Int) then (other : Int) else (one : Int)), .int (if (other : Int) > (one : Int) then (other : Int) else (one : Int))], _, dp_new ht (.cons (.int _) (.cons (.int _) .nil)), dp_ext x3 hl3, (sh_pair 0 _ _).shaped (by decide), (sh_bord 0 bs).shaped (by decide), _, rfl, ?_⟩
      rw [Bool.true_xor, any_adj bs one other]
      by_cases c : Mk.adj bs one other = true
      · rw [c]
        refine iteF ?_
        have hd3 : (upd H t (.tup [.int (if (other : Int) < (one : Int) then (other : Int) else (one : Int)), .int (if (other : Int) > (one : Int) then (other : Int) else (one : Int))])) d = some (.dK kvs) := x3.keep _ _ hd fun z => z
        refine ⟨_, rfl, _, rfl, d, _, rfl, by rw [← v1]; exact DGet.k (k := Sum.inl (one : Int)) hd3, _, rfl, _, rfl, d, _, rfl, by rw [← v2]; exact DGet.k (k := Sum.inl (other : Int)) hd3, rfl, _, rfl, ?_⟩
        refine ite2 (fun y => ?_) (fun y => ?_)
        · have y2 : own one = own other := by
            have := V.int.inj (of_decide_eq_true y)
            omega
          have e : sqC own bs one other = 45 := by unfold sqC; rw [if_neg z2, if_pos c, if_pos y2]
          have k2 := k _ x3
          rw [e] at k2
          exact k2
        · have y2 : ¬ own one = own other := fun e => by
            rw [e, decide_eq_true rfl] at y
            exact y rfl
          have e : sqC own bs one other = 35 := by unfold sqC; rw [if_neg z2, if_pos c, if_neg y2]
          have k2 := k _ x3
          rw [e] at k2
          exact k2
      · have e : sqC own bs one other = 46 := by unfold sqC; rw [if_neg z2, if_neg c]
        rw [Bool.not_eq_true] at c
        rw [c]
        refine iteT ?_
        have k2 := k _ x3
        rw [e] at k2
        exact k2
def spBar (K : PySem.W.Frag) : Sp := fun vs H Q _ => ∃ (folk most : Int) (wide : Nat), vs = [.int folk, .int most, .int (wide : Int)] ∧ wide ≤ 100 ∧ (0 ≤ most ∧ most ≤ 100000000) ∧ (0 ≤ folk ∧ folk ≤ 100000000) ∧ Q (.str (barS wide folk most)) H
abbrev boN : List Str := ["folk", "most", "wide", "signs", "k"]
end
section
variable {P : Program} {w : World} {K : PySem.W.Frag} {mg : Str → Option Value} {base : Heap}
open TL
/-! ### check_count, square -/
def spCount (K : PySem.W.Frag) : Sp := fun vs H Q _ => ∃ (i lo hi : Int), vs = [.int i, .int lo, .int hi] ∧ (lo ≤ i ∧ i ≤ hi) ∧ Q .non H
def spSquare (K : PySem.W.Frag) (T1 T2 T3 T4 : Addr) : Sp := fun vs H Q _ => ∃ (l v : V) (fs : List Int) (bs : List (Nat × Nat)) (ws : List (List Nat)), vs = [l, v] ∧ Dp K H l (landD fs bs) ∧ LandOk fs bs ∧ Dp K H v (planD ws) ∧ PlanOk fs.length bs ws ∧ Tabs [T1, T2, T3, T4] H ∧
  ∀ q H', Ext H H' → H q = none → H' q = some (.tup ((squareL fs.length (ownOf ws) bs).map V.str)) → Q (.ref q) H'
abbrev squN : List Str := ["land", "plan", "row", "many", "lines", "one", "other"]
theorem sc_square : FnScope squN ["land", "plan"] (defScope st_square) := ⟨rfl, rfl, rfl, by decide +kernel, rfl, by decide +kernel, by decide +kernel⟩
theorem join_ones (l : List Nat) : Txt.join "" (l.map fun c => (⟨#[c]⟩ : Str)) = ⟨l.toArray⟩ := by
  refine ext_tl ?_
  rw [join_eq, tl_join]
  have e : tl "" = [] := by decide +kernel
  rw [e]
  induction l with
  | nil => rfl
  | cons c r ih =>
    cases r with
    | nil => rfl
    | cons d r' =>
      have ih : joinL [] (((d :: r').map fun c => (⟨#[c]⟩ : Str)).map tl) = d :: r' := ih
      show joinL [] ([c] :: ((d :: r').map fun c => (⟨#[c]⟩ : Str)).map tl) = c :: d :: r'
      have e2 : joinL [] ([c] :: ((d :: r').map fun c => (⟨#[c]⟩ : Str)).map tl) = [c] ++ ([] ++ joinL [] (((d :: r').map fun c => (⟨#[c]⟩ : Str)).map tl)) := rfl
      rw [e2, ih]
      rfl
theorem ok_square {f T1 T2 T3 T4 : Addr} {fd : FuncData} (F : Fun K "square" "square" st_square f fd) (B : Bl mg) (c1 : Cal P w K mg base 5 "check_land" ["land"] (spFaultLand K)) (c2 : Cal P w K mg base 10 "check_plan" ["land", "plan"] (spFaultPlan K T1 T2 T3 T4)) (c3 : Cal P w K mg base 1 "ward_row" ["plan"] (spWardRow K))
    (c4 : Cal P w K mg base 1 "sign_of" ["land", "row", "one", "other"] (spSign K)) : FnOk P w K mg base CX0 11 f fd ["land", "plan"] (spSquare K T1 T2 T3 T4) := by
  refine F.ok sc_square (fun vs H Q E h => ?_) (fun cdv A outer s H vs Q E hr h => ?_)
  · obtain ⟨l, v, fs, bs, ws, rfl, _⟩ := h
    rfl
  · obtain ⟨l, v, fs, bs, ws, rfl, hl, ok, hv, PO, hT, k⟩ := h
    have hr1 := hr.mono (j := 1) (by decide)
    have nd := sc_square.nd
    refine ⟨_, pss_cons (ps_expr (pe_cal c1 (hr.mono (by decide)) rfl (pa_cons (pv 0) pa_nil))) (pss_cons (ps_expr (pe_cal c2 hr rfl (pa_cons (pv 0) (pa_cons (pv 1) pa_nil))))
      (pss_cons (ps_set (i := 2) nd rfl (Or.inr rfl) (pe_cal c3 hr1 rfl (pa_cons (pv 1) pa_nil)))
      (pss_cons (ps_set (i := 3) nd rfl (Or.inl rfl) (pe_callB call_len (by rfl) B.len PySem.boot_len (pa_cons (pe_ix ix_tup (pv 0) pe_int (fun _ _ => rfl)) pa_nil)))
      (pss_cons (ps_set (i := 4) nd rfl (Or.inl rfl) (pe_lst pa_nil))
      (pss_cons (ps_for PassesOwn.never rfl (pi_range1 rfl B.range (pa_cons (pv 3) pa_nil)) (pg_name (i := 5) nd rfl (Or.inr rfl))
        (pss_one (ps_expr (pe_bm PySem.F.plainAttrs_list PySem.F.slot_list_append PySem.F.type_list_append mt_append (pv 4) (pa_cons (pe_join pe_str
          (pe_lc (own := [("other", 6)]) (g := gName 6) (by rfl) nd (pi_range1 rfl B.range (pa_cons (pv 3) pa_nil)) (blkOk_by (own := [("other", 6)]) (N := squN) (sc := defScope st_square) (by decide +kernel))
            (fun _ _ _ _ _ => pg_name (i := 6) nd rfl (Or.inl rfl)) (fun _ _ _ _ _ => pts_nil)
            (fun _ _ _ _ _ => pe_cal c4 hr1 rfl (pa_cons (pv 0) (pa_cons (pv 2) (pa_cons (pv 5) (pa_cons (pv 6) pa_nil))))))) pa_nil)))))
      (pss_one (ps_ret (pe_tupleOf rfl B.tuple (pv 4))))))))), ?_⟩
    have h12 := ok.most
    have h2' := ok.few
    refine ⟨_, rfl, _, fs, bs, rfl, hl, ok, ?_⟩
    refine ⟨_, rfl, _, rfl, l, v, fs, bs, ws, rfl, hl, ok, hv, PO, hT, fun H1 x1 => ?_⟩
    refine ⟨_, rfl, v, ws, fs.length, rfl, dp_ext x1 hv, PO.w, fun d kvs H2 x2 hd0 hd R => ?_⟩
    have hrow := row_own PO R
    obtain ⟨a, af, vb, rfl, hl1, hl2, hl3⟩ := dp_land hl
    have x02 := x1.trans x2
    refine ⟨_, rfl, a, _, _, _, rfl, rfl, x02.sqT hl1, atI_nat (j := 0) rfl, _, fs.length, rfl, .inr ⟨_, x02.sqT hl2, by simp⟩, Nat.zero_le _, fun ql hql => ?_⟩
    have x3 : Ext H (upd H2 ql (.lst [])) := x02.trans (.new hql)
    have hqlH := x02.free hql
    have hd3 : (upd H2 ql (.lst [])) d = some (.dK kvs) := by rw [upd_ne (ne_of_none hd hql)]; exact hd
    have hdql : d ≠ ql := ne_of_none hd hql
    refine ⟨_, rfl, _, rfl, by omega, by omega, ?_⟩
    refine for_range (lo := 0) (n := (fs.length : Int).toNat) (fun i σ H4 => ∃ o5 : Option V, σ = [some (.ref a), some v, some (.ref d), some (.int (fs.length : Int)), some (.ref ql), o5, none] ∧ Ext H H4 ∧ H4 d = some (.dK kvs) ∧ H4 ql = some (.lst (((List.range i).map (sqS fs.length (ownOf ws) bs)).map V.str)))
      ⟨_, rfl, x3, hd3, upd_same⟩ ?_ ?_
    · rintro i σ H4 hi ⟨o5, rfl, x4, hd4, hq4⟩
      rw [Int.toNat_natCast] at hi
      rw [Int.zero_add]
      refine ⟨_, rfl, .inl ⟨rfl, _, SqL.of hq4⟩, ⟨_, rfl⟩, _, rfl, _, rfl, by omega, by omega, fun D hD => ?_⟩
      refine lc_range (lo := 0) (n := (fs.length : Int).toNat) (fun j H5 => H5 D = some (.lst ((((List.range j).map (sqC (ownOf ws) bs i)).map fun c => (⟨#[c]⟩ : Str)).map V.str)) ∧ Ext H4 H5) ⟨upd_same, .new hD⟩ (fun j H5 hj ⟨e5, x5⟩ => ?_) fun H5 ⟨e5, x5⟩ => ?_
      · rw [Int.toNat_natCast] at hj
        rw [Int.zero_add]
        refine ⟨rfl, ?_⟩
        dsimp only [tYes]
        rw [if_pos rfl]
        have hd5 : H5 d = some (.dK kvs) := x5.keep _ _ hd4 fun z => z
        refine ⟨_, rfl, _, rfl, _, rfl, _, rfl, .ref a, d, fs, bs, kvs, ownOf ws, i, j, rfl, dp_ext (x4.trans x5) hl, hd5, hrow, (fun p hp => own_lt PO hp), hi, hj, fun H6 x6 => ?_⟩
        refine ⟨_, x6.lst e5, by simp only [List.length_map, List.length_range]; exact small1000 (by omega), ?_, (x5.trans x6).write hD⟩
        rw [upd_same, List.range_succ, List.map_append, List.map_append, List.map_append]
        rfl
      · rw [Int.toNat_natCast] at e5
        refine ⟨"", D, _, rfl, rfl, .inl (SqL.of e5), ?_, ?_⟩
        · have := join_len (s := "") (ys := ((List.range fs.length).map (sqC (ownOf ws) bs i)).map fun c => (⟨#[c]⟩ : Str)) (m := 1) fun y hy => by
            obtain ⟨p, _, rfl⟩ := List.mem_map.mp hy
            exact Nat.le_refl 1
          have e1 : ("" : Str).length = 0 := by decide +kernel
          rw [e1]
          simp only [List.length_map, List.length_range] at this ⊢
          omega
        rw [join_ones]
        refine ⟨ql, _, _, rfl, rfl, x5.lst hq4, by simp only [List.length_map, List.length_range]; exact small1000 (by omega), ?_⟩
        refine ⟨_, rfl, (x4.trans x5).write hqlH, by rw [upd_ne hdql]; exact x5.keep _ _ hd4 fun z => z, ?_⟩
        rw [upd_same, List.range_succ, List.map_append, List.map_append]
        rfl
    · rintro σ H4 ⟨o5, rfl, x4, hd4, hq4⟩
      rw [Int.toNat_natCast] at hq4
      exact ⟨_, rfl, .inl ⟨ql, _, rfl, SqL.of hq4, fun q hq => k q _ (x4.trans (.new hq)) (x4.free hq) upd_same⟩⟩
end
end Wd

set_option Elab.async false
set_option linter.all false
set_option maxRecDepth 100000
set_option maxHeartbeats 4000000
namespace Wd
open PySem PySem.Spec PyProof.Rows L2 Bx Gx














































section
/-! ### sorted of lots, some of which may be empty -/
open PySem.W
def rdInts (h : Heap) : Value → List Int
  | .ref a => match h.get? a with
    | some { data := .seq xs _, .. } => xs.toList.filterMap fun v => match v with | .int i _ => some i | _ => none
    | _ => []
  | _ => []
theorem ints_filter : ∀ {us : List Value} {ns : List Int}, IntsAre us ns → (us.filterMap fun v => match v with | .int i _ => some i | _ => none) = ns
  | _, _, .nil => rfl
  | _, _, .cons i t r => by
    rw [List.filterMap_cons]
    show _ :: _ = _
    rw [ints_filter r]
theorem rdInts_of {h : Heap} {t : Addr} {items : Array Value} {ns : List Int} (ht : IsTup h t items) (hi : IntsAre items.toList ns) : rdInts h (.ref t) = ns := by
  obtain ⟨⟨cls, dd, data, sl⟩, ho, hc, n, hd⟩ := ht
  simp only at hd
  subst hd
  unfold rdInts
  dsimp only
  rw [ho]
  exact ints_filter hi
theorem dpAll_perm {K : PySem.W.Frag} {H : Hp} {vs us : List V} (hp : us.Perm vs) : ∀ {ds : List PyData}, DpAll K H vs ds → ∃ es, DpAll K H us es ∧ es.Perm ds := by
  induction hp with
  | nil => intro ds h; exact ⟨_, h, .refl _⟩
  | cons x _ ih =>
    intro ds h
    cases h with
    | cons h1 h2 =>
      obtain ⟨es, g1, g2⟩ := ih h2
      exact ⟨_, .cons h1 g1, g2.cons _⟩
  | swap x y l =>
    intro ds h
    cases h with
    | cons h1 h2 =>
      cases h2 with
      | cons h3 h4 => exact ⟨_, .cons h3 (.cons h1 h4), .swap _ _ _⟩
  | trans _ _ ih1 ih2 =>
    intro ds h
    obtain ⟨es, g1, g2⟩ := ih2 h
    obtain ⟨fs, k1, k2⟩ := ih1 g1
    exact ⟨_, k1, k2.trans g2⟩
def rSortLE (K : PySem.W.Frag) : List V → Hp → VK → Prop := fun vs H Q => ∃ (a : Addr) (xs : List V) (us : List (List Nat)), vs = [V.ref a] ∧ SqL K H a xs ∧ DpAll K H xs (us.map lotD) ∧ us.length ≤ 1000 ∧
  ∀ (ys : List V) (zs : List (List Nat)) (p : Addr), DpAll K H ys (zs.map lotD) → zs.Perm us → ((∀ u ∈ us, u ≠ []) → (zs.map lotD).Pairwise (fun d e => PySem.W.dataLt e d = false)) → H p = none → Q (.ref p) (upd H p (.lst ys))
theorem cr_sortLE {X : Cx} (hu : X.A.units + 64 < cLine) : CallR X (.builtin "sorted") (rSortLE X.K) := by
  intro pins s σ H vs us Q I r h
  have h0 := h
  obtain ⟨a, xs, ls, rfl, hs, hd, hlen, q⟩ := h
  by_cases hne : ∀ u ∈ ls, u ≠ []
  · refine cr_sortDt hu pins s σ H _ us Q I r ⟨a, xs, ls.map lotD, rfl, hs, hd, allAlike_lots ls, sortable_lots hne, by rw [List.length_map]; omega, depth_lots, fun ys es p h1 h2 h3 h4 => ?_⟩
    obtain ⟨zs, hz, rfl⟩ := perm_unmap lotD h2 rfl
    exact q ys zs p h1 hz (fun _ => h3) h4
  · obtain ⟨its, rv, hl, hz⟩ := I.list hs
    rw [Vals.ref1 r]
    have tupi : ∀ (i : Nat) (v : Value), its[i]? = some v → ∃ t items u, v = Value.ref t ∧ IsTup s.heap t items ∧ ls[i]? = some u ∧ IntsAre items.toList (u.map fun (p : Nat) => (p : Int)) := fun i v hv1 => by
      have hi := (List.getElem?_eq_some_iff.mp hv1).1
      have hxl := rv.length
      have hx := List.getElem?_eq_getElem (show i < xs.length by omega)
      obtain ⟨d, hd1, hd2⟩ := dpAll_get' hd hx
      rw [List.getElem?_map, Option.map_eq_some_iff] at hd1
      obtain ⟨u, hu, rfl⟩ := hd1
      obtain ⟨t, et, hT⟩ := dp_lot hd2
      have hT : SqT X.K H t ((u.map fun (p : Nat) => (p : Int)).map V.int) := by rw [List.map_map]; exact hT
      obtain ⟨its2, r2, p2, _⟩ := I.tuple hT
      have hr := vals_at rv hx hv1
      rw [et] at hr
      have hr : v = Value.ref t := hr
      exact ⟨t, its2.toArray, u, hr, p2, hu, intsAre_of r2⟩
    have tups : ∀ v ∈ its, ∃ t items ns, v = Value.ref t ∧ IsTup s.heap t items ∧ IntsAre items.toList ns := fun v hv => by
      obtain ⟨i, hi, rfl⟩ := List.getElem_of_mem hv
      obtain ⟨t, items, u, h1, h2, _, h3⟩ := tupi i _ (List.getElem?_eq_getElem hi)
      exact ⟨t, items, _, h1, h2, h3⟩
    obtain ⟨e1, e2⟩ := refs_back rv fun x m => by
      obtain ⟨i, hi, rfl⟩ := List.getElem_of_mem m
      obtain ⟨d, hd1, hd2⟩ := dpAll_get' hd (List.getElem?_eq_getElem hi)
      rw [List.getElem?_map, Option.map_eq_some_iff] at hd1
      obtain ⟨u, hu, rfl⟩ := hd1
      obtain ⟨t, et, _⟩ := dp_lot hd2
      exact ⟨t, et⟩
    have hemp : ∃ v ∈ its, ∃ t, v = Value.ref t ∧ IsTup s.heap t #[] := by
      obtain ⟨u, hu, rfl⟩ : ∃ u ∈ ls, u = [] := Classical.byContradiction fun c => hne fun u hu e => c ⟨u, hu, e⟩
      obtain ⟨i, hi, e⟩ := List.getElem_of_mem hu
      have hdl := dpAll_len hd
      rw [List.length_map] at hdl
      have hxl := rv.length
      have hv := List.getElem?_eq_getElem (show i < its.length by omega)
      obtain ⟨t, items, u, h1, h2, h3, h4⟩ := tupi i _ hv
      rw [List.getElem?_eq_getElem hi, e] at h3
      cases h3
      have h4 : items.toList = [] := by
        generalize items.toList = l at h4
        cases h4
        rfl
      have h5 : items = #[] := Array.toList_inj.mp h4
      rw [h5] at h2
      exact ⟨_, List.mem_of_getElem? hv, t, h1, h2⟩
    refine SrtO.sorted_ord (swo_lots (rdInts s.heap)) hl.isList (by rw [← rv.length]; exact hz) (fun h2 h₁ b hb kk => ?_) fun out hs2 hb => ?_
    · intro h' keep
      have kp : ∀ t o, s.heap.get? t = some o → h'.get? t = some o := fun t o e => keep t o (kk t o e).1 (kk t o e).2
      have kt : ∀ t items, IsTup s.heap t items → IsTup h' t items := fun t items ⟨o, ho, hr⟩ => ⟨o, kp _ _ ho, hr⟩
      obtain ⟨fs, f1, f2, f3⟩ := tupO_mk (h := h') its fun v hv => by
        obtain ⟨t, items, ns, e, ht, _⟩ := tups v hv
        exact ⟨t, items, e, kt _ _ ht⟩
      obtain ⟨κ, hκ, kd⟩ := kind_opt (M := model X.prog X.w) (A := X.A.in1.in1) (s := { s with heap := h' }) f1 f2 (f3 (by
        obtain ⟨v, hv, t, e, ht⟩ := hemp
        exact ⟨v, hv, t, e, kt _ _ ht⟩))
      refine ⟨κ, kd, fun p q hp hq => ?_⟩
      obtain ⟨t, items, ns, e, ht, hi⟩ := tups _ hp
      obtain ⟨t', items', ns', e', ht', hi'⟩ := tups _ hq
      have g1 := rdInts_of ht hi
      have g2 := rdInts_of ht' hi'
      have hlt : SrtO.lt2 (fun v u => HT.lexLt (rdInts s.heap v) (rdInts s.heap u)) p q = HT.lexLt ns ns' := by
        show HT.lexLt (rdInts s.heap p.1) (rdInts s.heap q.1) = _
        rw [e, e', g1, g2]
      rcases hκ with rfl | rfl
      · show wpAny _ _ (oneLt' false p.1 q.1) _ _ _
        rw [e, e']
        exact oneLt_tupI (kt _ _ ht) (kt _ _ ht') hi hi' (by show X.A.units + 1 + 1 < cLine; omega) ⟨rfl, hlt.symm⟩
      · show wpAny _ _ (oneLt' true p.1 q.1) _ _ _
        rw [e, e']
        exact oneLt_tupI (kt _ _ ht) (kt _ _ ht') hi hi' (by show X.A.units + 1 + 1 < cLine; omega) ⟨rfl, hlt.symm⟩
    · have hpo := hb.perm
      have h3 : ∀ u ∈ out, ∃ a, u = Value.ref a := fun u hu => e2 u (hpo.mem_iff.mp hu)
      have hpx : (out.map backV).Perm xs := by rw [e1]; exact hpo.map _
      obtain ⟨es, g1, g2⟩ := dpAll_perm hpx hd
      obtain ⟨zs, z1, rfl⟩ := perm_unmap lotD g2 rfl
      obtain ⟨n, hat⟩ := sortedAll_at s.heap its out.toArray
      refine ⟨.ref (s.heap.objs.size + 1), upd H (s.heap.objs.size + 1) (.lst (out.map backV)), I.laid (t' := s.toks) (fun b o e => sortedAll_old e) (Nat.le_succ _) ⟨?_, out, n, vals_back h3, hat⟩, rfl, q _ zs _ g1 z1 (fun c => absurd c hne) (I.hok.fresh (Nat.le_succ _))⟩
      have := hpx.length_eq
      have := rv.length
      omega
end
end Wd

set_option Elab.async false
set_option linter.all false
set_option maxRecDepth 100000
set_option maxHeartbeats 4000000
namespace Wd
open PySem PySem.Spec PyProof.Rows L2 Bx Gx














































section
variable {P : Program} {w : World} {K : PySem.W.Frag} {mg : Str → Option Value} {base : Heap}
open TL
/-! ### pictures read back: places_at, are_rows -/
theorem rg_two (L : Nat) (hL : L ≤ 100000) : RgC 0 (L : Int) 2 ((L + 1) / 2) := by
  have e : Builtin.Range.rangeSize 0 (L : Int) 2 = (((L + 1) / 2 : Nat) : Int) := by
    unfold Builtin.Range.rangeSize
    simp only [show (2 : Int) > 0 by decide, if_true]
    split <;> omega
  refine ⟨by decide, by decide, ?_, e⟩
  unfold Builtin.Range.small
  rw [e]
  have fits : ∀ M : Int, 0 ≤ M → M ≤ 1000000 → Builtin.Range.rangeFitsLong M = true := fun M h1 h2 => by
    unfold Builtin.Range.rangeFitsLong
    rw [Bool.and_eq_true, decide_eq_true_eq, decide_eq_true_eq]
    omega
  rw [fits 0 (by decide) (by decide), fits (L : Int) (by omega) (by omega), fits 2 (by decide) (by decide), fits (((L + 1) / 2 : Nat) : Int) (by omega) (by omega), if_pos (by decide), fits ((L : Int) + (2 - 1)) (by omega) (by omega), Bool.or_true]
  rfl
theorem call_type1K {X : Cx} {K : PySem.W.Frag} (h : X.K = K) : CallR X (.type "type") (rTyp K) := h ▸ call_type1
theorem src_rangeC {lo c : Int} {n : Nat} {Ph : Hp → Prop} : Src (Itc lo c n) n (fun i => .int (lo + (i : Nat) * c)) Ph := ⟨fun _ _ _ h => h, fun _ _ => Nat.le_refl _, fun _ _ _ _ _ _ h => h⟩
/-- the places of a sign in a row, every other sign being looked at -/
def atP (c : Nat) (s : Str) (i : Nat) : Bool := decide ((tl s)[2 * i]? = some c)
def placesOf (c : Nat) (s : Str) : List Nat := (List.range (((tl s).length + 1) / 2)).filter (atP c s)
theorem placesOf_asc (c : Nat) (s : Str) : (placesOf c s).Pairwise (· < ·) := List.pairwise_lt_range.filter _
theorem placesOf_lt {c : Nat} {s : Str} {p : Nat} (h : p ∈ placesOf c s) : 2 * p < (tl s).length ∧ (tl s)[2 * p]? = some c := by
  have h := (List.mem_filter.mp h).2
  have h : (tl s)[2 * p]? = some c := of_decide_eq_true h
  exact ⟨(List.getElem?_eq_some_iff.mp h).1, h⟩
theorem placesOf_len (c : Nat) (s : Str) : (placesOf c s).length ≤ ((tl s).length + 1) / 2 := by
  have := List.length_filter_le (atP c s) (List.range (((tl s).length + 1) / 2))
  rwa [List.length_range] at this
def spPlacesAt (K : PySem.W.Frag) (T : Addr) : Sp := fun vs H Q _ => ∃ (s : Str) (c : Nat), vs = [.str s, .str ⟨#[c]⟩] ∧ (tl s).length ≤ 1000 ∧ TabG H T ∧ ∀ q H', Ext H H' → H q = none → H' q = some (.tup (vsN (placesOf c s))) → Q (.ref q) H'
theorem sc_places_at : FnScope ["row", "sign"] ["row", "sign"] (defScope st_places_at) := ⟨rfl, rfl, rfl, by decide +kernel, rfl, by decide +kernel, by decide +kernel⟩
theorem ok_places_at {f c T : Addr} {fd : FuncData} (F : FunC K "places_at" "places_at" st_places_at f fd c) (TB : TabB base mg c T) (B : Bl mg) : FnOk P w K mg base CX0 5 f fd ["row", "sign"] (spPlacesAt K T) := by
  refine F.ok sc_places_at (fun vs H Q E h => ?_) (fun A outer s H vs Q E hr h => ?_)
  · obtain ⟨s, c, rfl, _⟩ := h
    rfl
  · obtain ⟨z, cc, rfl, hz, hT, k⟩ := h
    refine ⟨_, pss_one (ps_ret (pe_gtup (k := 0) (N := ["k", "row", "sign"]) (src := [none, some 0, some 1]) (vs := [0])
        ⟨fun B s H fp code hB => pg_name (i := 0) (by decide +kernel : (["k", "row", "sign"] : List Str).Nodup) rfl (Or.inl rfl), fun B s H fp code hB => pts_one (pt_cmpR op_eq (pe_ix ix_str (pv 1) (pv 0) (fun _ _ => rfl)) (pv 2) (nomark _)), fun B s H fp code hB => pe_op op_fdiv (pv 0) pe_int⟩
        (hr.mono (by decide)) rfl B.tuple TB rfl (gOk (ND := ["row", "sign"]) (sc := defScope st_places_at) (by decide +kernel)) (pi_range3 rfl B.range (pa_cons pe_int (pa_cons (pe_callB call_len_str (by rfl) B.len PySem.boot_len (pa_cons (pv 0) pa_nil)) (pa_cons pe_int pa_nil)))))), ?_⟩
    have zl : z.length = (tl z).length := str_len z
    refine ⟨_, rfl, _, rfl, by rw [zl, sizeLine_eq]; omega, 0, (z.length : Int), 2, (z.length + 1) / 2, rfl, rg_two _ (by omega), hT, fun H2 hT2 => ?_⟩
    have x2 : Ext H H2 := Ext.tabbed hT hT2
    refine g_tup (Pw := fun i ys H4 => H4 = H2 ∧ ys = vsN ((List.range i).filter (atP cc z))) (fun _ _ => src_rangeC) (by rw [sizeLine_eq]; omega) (atP cc z) (fun _ => rfl) ⟨rfl, rfl⟩
      (fun i ys H4 ⟨_, e⟩ => ?_) (fun i ys H4 C ⟨e1, e2⟩ hi k2 => ?_) (fun i ys H4 ⟨e1, e2⟩ hi hk => ⟨e1, ?_⟩) (fun i ys H4 C ⟨e1, e2⟩ hi hk k2 => ?_) fun ys H4 ⟨e1, e2⟩ p hp => ?_
    · rw [e, vsN_len0]
      have := List.length_filter_le (atP cc z) (List.range i)
      rwa [List.length_range] at this
    · have hi2 : 2 * i < (tl z).length := by omega
      have h1 : (tl z)[2 * i]? = some (tl z)[2 * i] := List.getElem?_eq_getElem hi2
      have h2 : atI z.cps.toList ((0 : Int) + (i : Nat) * 2) = some (tl z)[2 * i] := by
        rw [show (0 : Int) + (i : Nat) * 2 = ((2 * i : Nat) : Int) from by omega]
        exact atI_nat h1
      refine ⟨_, rfl, _, rfl, _, _, (tl z)[2 * i], rfl, rfl, by rw [zl, sizeLine_eq]; omega, h2, _, rfl, rfl, atP cc z i, ?_, k2 H4 ⟨e1, e2⟩⟩
      unfold atP
      rw [h1]
      by_cases c : (tl z)[2 * i] = cc
      · rw [c]; simp
      · have c2 : ¬ V.str ⟨#[(tl z)[2 * i]]⟩ = V.str ⟨#[cc]⟩ := fun e => by
          injection e with e
          injection e with e
          have := congrArg Array.toList e
          simp at this
          exact c this
        rw [decide_eq_false c2, decide_eq_false (by simpa using c)]
    · rw [e2, List.range_succ, List.filter_append, List.filter_cons_of_neg (by rw [hk]; exact Bool.false_ne_true)]
      simp
    · refine ⟨_, rfl, _, _, rfl, rfl, ⟨by decide, by decide⟩, k2 _ H4 ⟨e1, ?_⟩⟩
      rw [e2, List.range_succ, List.filter_append, List.filter_cons_of_pos hk]
      show _ = List.map _ (_ ++ _)
      rw [List.map_append]
      show _ = _ ++ [V.int (i : Int)]
      show vsN _ ++ [V.int (((0 : Int) + (i : Nat) * 2) / 2)] = vsN _ ++ _
      rw [show ((0 : Int) + (i : Nat) * 2) / 2 = (i : Int) from by omega]
    · subst e1
      rw [zl] at e2
      subst e2
      exact k p _ (x2.trans (.new hp)) (x2.free hp) upd_same
/-- rows of a picture of so many places -/
def rowsB (n : Nat) (ss : List Str) : Bool := !ss.isEmpty && ss.all fun s => decide ((tl s).length = 2 * n - 1)
def spAreRows (K : PySem.W.Frag) (T : Addr) : Sp := fun vs H Q _ => ∃ (a : Addr) (ss : List Str) (n : Nat), vs = [.ref a, .int (n : Int)] ∧ SqT K H a (ss.map V.str) ∧ ss.length ≤ 1000 ∧ (∀ s ∈ ss, (tl s).length ≤ 1000) ∧ 1 ≤ n ∧ n ≤ 100 ∧ TabG H T ∧ ∀ H', Ext H H' → Q (.bl (rowsB n ss)) H'
theorem sc_are_rows : FnScope ["value", "many"] ["value", "many"] (defScope st_are_rows) := ⟨rfl, rfl, rfl, by decide +kernel, rfl, by decide +kernel, by decide +kernel⟩
theorem ok_are_rows {f c T : Addr} {fd : FuncData} (F : FunC K "are_rows" "are_rows" st_are_rows f fd c) (TB : TabB base mg c T) (B : Bl mg) : FnOk P w K mg base CX0 4 f fd ["value", "many"] (spAreRows K T) := by
  refine F.ok sc_are_rows (fun vs H Q E h => ?_) (fun A outer s H vs Q E hr h => ?_)
  · obtain ⟨a, ss, n, rfl, _⟩ := h
    rfl
  · obtain ⟨a, ss, n, rfl, ha, hl, hs, hn1, hn, hT, k⟩ := h
    refine ⟨_, pss_cons (ps_if (PW.pt (pw_or (pt_cmpR op_neTy (pe_callTy call_type1 rfl B.type (by decide +kernel) (pa_cons (pv 0) pa_nil)) (pe_bltn rfl B.tuple (by decide +kernel) (v := .ty "tuple") rfl) (nomark _))
        (pw_or1 (pt_cmpR op_eq (pe_callB call_len (by rfl) B.len PySem.boot_len (pa_cons (pv 0) pa_nil)) pe_int (nomark _))))) (pss_one (ps_ret pe_bl)) pss_nil)
      (pss_one (ps_ret (pe_gall (k := 1) (N := ["row", "many"]) (src := [none, some 1]) (vs := [0])
        ⟨fun B s H fp code hB => pg_name (i := 0) (by decide +kernel : (["row", "many"] : List Str).Nodup) rfl (Or.inl rfl), fun B s H fp code hB => pts_nil,
         fun Br s H fp code hB => pe_and (pe_cmpR op_eqTy (pe_callTy (call_type1K (K := K) rfl) rfl B.type (by decide +kernel) (pa_cons (pv 0) pa_nil)) (pe_bltn rfl B.str (by decide +kernel) (v := .ty "str") rfl) (nomark _)) (pe_one (pe_cmpR op_eq (pe_callB call_len_str (by rfl) B.len PySem.boot_len (pa_cons (pv 0) pa_nil)) (pe_op op_sub (pe_op op_mul pe_int (pv 1)) pe_int) (nomark _)))⟩
        (hr.mono (by decide)) rfl B.all TB rfl (gOk (ND := ["value", "many"]) (sc := defScope st_are_rows) (by decide +kernel)) (pi_tup (pv 0))))), ?_⟩
    refine ⟨_, rfl, _, "tuple", rfl, .tup ha, "tuple", "tuple", rfl, rfl, by decide, by decide, false, rfl, ?_⟩
    refine iteF ⟨_, rfl, _, ss.length, rfl, .inr ⟨_, ha, by simp⟩, rfl, _, rfl, ?_⟩
    by_cases he : ss = []
    · subst he
      refine iteT ?_
      exact k H (Ext.refl H)
    · have hne : decide (V.int (ss.length : Int) = V.int 0) = false := by
        apply decide_eq_false
        intro z
        injection z with z
        exact he (List.length_eq_zero_iff.mp (by omega))
      rw [hne]
      refine iteF ?_
      refine ⟨_, rfl, a, rfl, ⟨_, ha⟩, hT, fun H2 hT2 => ?_⟩
      have x2 : Ext H H2 := Ext.tabbed hT hT2
      have key : ((List.range ss.length).all fun i => decide ((tl (ss.getD i ⟨#[]⟩)).length = 2 * n - 1)) = rowsB n ss := by
        unfold rowsB
        rw [show ss.isEmpty = false from by cases ss with
          | nil => exact absurd rfl he
          | cons _ _ => rfl, Bool.not_false, Bool.true_and, Bool.eq_iff_iff, List.all_eq_true, List.all_eq_true]
        constructor
        · intro h s hs
          obtain ⟨i, hi, rfl⟩ := List.getElem_of_mem hs
          have := h i (List.mem_range.mpr hi)
          rwa [List.getD_eq_getElem?_getD, List.getElem?_eq_getElem hi] at this
        · intro h i hi
          have hi := List.mem_range.mp hi
          rw [List.getD_eq_getElem?_getD, List.getElem?_eq_getElem hi]
          exact h _ (List.getElem_mem hi)
      refine g_all (Ph := fun H4 => H4 = H2) (src_tup fun H4 e => by rw [e]; exact x2.sqT ha) (fun i => decide ((tl (ss.getD i ⟨#[]⟩)).length = 2 * n - 1)) rfl (fun i H C hp hi k2 => ?_) (fun H4 hp ea => ?_) fun H4 hp ea => ?_
      · subst hp
        rw [List.length_map] at hi
        have eg : (ss.map V.str).getD i .non = .str ss[i] := by rw [List.getD_eq_getElem?_getD, List.getElem?_map, List.getElem?_eq_getElem hi]; rfl
        have eg2 : ss.getD i ⟨#[]⟩ = ss[i] := by rw [List.getD_eq_getElem?_getD, List.getElem?_eq_getElem hi]; rfl
        rw [eg]
        refine ⟨rfl, _, rfl, _, "str", rfl, .str _, "str", "str", rfl, rfl, by decide, by decide, ?_⟩
        have zl := str_len ss[i]
        have hsi := hs _ (List.getElem_mem hi)
        refine ⟨true, rfl, iteT ⟨_, rfl, _, rfl, by rw [zl, sizeLine_eq]; omega, _, rfl, _, _, rfl, rfl, .inl ⟨by decide, by decide⟩, _, _, rfl, rfl, rfl, ?_⟩⟩
        have e : decide (V.int (ss[i].length : Int) = V.int (2 * (n : Int) - 1)) = decide ((tl (ss.getD i ⟨#[]⟩)).length = 2 * n - 1) := by
          rw [eg2, zl]
          apply decide_eq_decide.mpr
          constructor
          · intro h
            injection h with h
            omega
          · intro h
            congr 1
            omega
        rw [e]
        exact k2 H rfl
      · subst hp
        rw [List.length_map, key] at ea
        rw [ea] at k
        exact k H4 x2
      · subst hp
        rw [List.length_map, key] at ea
        rw [ea] at k
        exact k H4 x2
end
end Wd

set_option Elab.async false
set_option linter.all false
set_option maxRecDepth 100000
set_option maxHeartbeats 4000000
namespace Wd
open PySem PySem.Spec PyProof.Rows L2 Bx Gx














































section
variable {P : Program} {w : World} {K : PySem.W.Frag} {mg : Str → Option Value} {base : Heap}
open TL
/-! ### plan_with of lots in sequence -/
theorem cr_sortTdK {X : Cx} {K : PySem.W.Frag} (h : X.K = K) (hu : X.A.units + 64 < cLine) : CallR X (.builtin "sorted") (rSortTd K) := h ▸ cr_sortTd hu
theorem asc_sorted {u : List Nat} (hu : u.Pairwise (· < ·)) {es : List PyData} (pm : es.Perm (u.map fun (p : Nat) => PyData.int (p : Int))) (pw : es.Pairwise fun d e => PySem.W.dataLt e d = false) : es = u.map fun (p : Nat) => PyData.int (p : Int) := by
  obtain ⟨vs, h1, rfl⟩ := perm_unmap (fun (p : Nat) => PyData.int (p : Int)) pm rfl
  have nd : vs.Pairwise (· ≠ ·) := h1.symm.nodup (hu.imp fun h => Nat.ne_of_lt h)
  have hx : vs.Pairwise (· < ·) := by
    rw [List.pairwise_map] at pw
    refine (pw.and nd).imp fun {a b} h => ?_
    obtain ⟨h1, h2⟩ := h
    rw [PySem.W.dataLt_int, decide_eq_false_iff_not] at h1
    omega
  rw [perm_uniq (R := fun (a b : Nat) => a < b) (fun a b h1 h2 => by omega) h1 hx hu]
theorem depth_ints (u : List Nat) : ∀ d ∈ u.map (fun (p : Nat) => PyData.int (p : Int)), d.depth ≤ 40 := fun d hd => by
  obtain ⟨p, _, rfl⟩ := List.mem_map.mp hd
  simp [PyData.depth]
theorem alikeAll_nats (u : List Nat) : PySem.W.AllAlike (u.map fun (p : Nat) => PyData.int (p : Int)) := fun d hd e he => by
  obtain ⟨p, _, rfl⟩ := List.mem_map.mp hd
  obtain ⟨q, _, rfl⟩ := List.mem_map.mp he
  simp [PySem.W.alike]
theorem sortable_nats (u : List Nat) : PySem.W.Sortable (u.map fun (p : Nat) => PyData.int (p : Int)) := .inr fun d hd => by
  obtain ⟨p, _, rfl⟩ := List.mem_map.mp hd
  exact ⟨(fun z => nomatch z), fun xs z => nomatch z⟩
theorem lotD_inj {x y : List Nat} (h : lotD x = lotD y) : x = y := by
  unfold lotD at h
  injection h with h
  exact (List.map_inj_right fun a b e => by injection e with e; omega).mp h
def spPlanWithT (K : PySem.W.Frag) : Sp := fun vs H Q _ => ∃ (l : Addr) (xs : List V) (us : List (List Nat)), vs = [.ref l] ∧ H l = some (.lst xs) ∧ DpAll K H xs (us.map lotD) ∧ (∀ u ∈ us, u.Pairwise (· < ·) ∧ u.length < 64) ∧ us.length ≤ 100 ∧
  ∀ (zs : List (List Nat)) q H', Ext H H' → H q = none → zs.Perm us → ((∀ u ∈ us, u ≠ []) → us.Pairwise hdLt → zs = us) → Dp K H' (.ref q) (planD zs) → Q (.ref q) H'
theorem sc_plan_withT : FnScope ["wards", "ward"] ["wards"] (defScope st_plan_with) := ⟨rfl, rfl, rfl, by decide +kernel, rfl, by decide +kernel, by decide +kernel⟩
theorem ok_plan_withT {f : Addr} {fd : FuncData} (F : Fun K "plan_with" "plan_with" st_plan_with f fd) (B : Bl mg) : FnOk P w K mg base CX0 1 f fd ["wards"] (spPlanWithT K) := by
  refine F.ok sc_plan_withT (fun vs H Q E h => ?_) (fun cdv A outer s H vs Q E hr h => ?_)
  · obtain ⟨l, xs, us, rfl, _⟩ := h
    rfl
  · obtain ⟨l, xs, us, rfl, hl, hda, hok, hlen, k⟩ := h
    have hu64 := Nat.lt_trans (Nat.lt_succ_self _) (u65 hr)
    have nl : ∀ u : List Nat, noL (lotD u) = true := fun u => noLs_map _ (fun _ => rfl) u
    refine ⟨_, pss_one (ps_ret (pe_tupleOf rfl B.tuple (pe_callB (cr_sortLE hu64) (by rfl) B.sorted (by decide +kernel) (pa_cons
      (pe_lc (own := [("ward", 1)]) (g := gName 1) (by rfl) sc_plan_withT.nd (pi_list (pv 0)) (blkOk_by (own := [("ward", 1)]) (N := ["wards", "ward"]) (sc := defScope st_plan_with) (by decide +kernel))
        (fun _ _ _ _ _ => pg_name (i := 1) sc_plan_withT.nd rfl (Or.inl rfl)) (fun _ _ _ _ _ => pts_nil)
        (fun _ _ _ _ _ => pe_tupleOfK (K := K) rfl rfl B.tuple (pe_callB (cr_sortTdK (K := K) rfl hu64) (by rfl) B.sorted (by decide +kernel) (pa_cons (pv 1) pa_nil)))) pa_nil)))), ?_⟩
    have hxl := dpAll_len hda
    rw [List.length_map] at hxl
    refine ⟨_, rfl, l, rfl, ⟨_, SqL.of hl⟩, fun D hD => ?_⟩
    refine lc_list (K := K) (a := l) (xs := xs) (fun i H2 => ∃ ys : List V, H2 D = some (.lst ys) ∧ DpAll K H2 ys ((us.take i).map lotD) ∧ Ext H H2) ⟨[], upd_same, by rw [List.take_zero]; exact .nil, .new hD⟩ (fun i H2 _ ⟨_, _, _, x2⟩ => SqL.of (x2.lst hl)) (fun i y H2 hy ⟨ys, e2, hd, x2⟩ => ?_) (fun H2 ⟨ys, e2, hd, x2⟩ => ?_)
    · have hi : i < us.length := by
        have := (List.getElem?_eq_some_iff.mp hy).1
        omega
      obtain ⟨dy, hdy, hpy⟩ := dpAll_get' hda hy
      rw [List.getElem?_map, List.getElem?_eq_getElem hi] at hdy
      have hdy := (Option.some.inj hdy).symm
      subst hdy
      obtain ⟨hasc, h63⟩ := hok _ (List.getElem_mem hi)
      have etk : (us.take (i + 1)).map lotD = (us.take i).map lotD ++ [lotD us[i]] := by
        rw [List.take_add_one, List.getElem?_eq_getElem hi, List.map_append]
        rfl
      have hyl := dpAll_len hd
      rw [List.length_map, List.length_take] at hyl
      generalize us[i] = u at *
      obtain ⟨aw, rfl, hsw⟩ := dp_lot hpy
      refine ⟨rfl, ?_⟩
      dsimp only [tYes]
      rw [if_pos rfl]
      refine ⟨_, rfl, aw, vsN u, u.map (fun (p : Nat) => PyData.int (p : Int)), rfl, x2.sqT hsw, dpAll_lot u, alikeAll_nats u, sortable_nats u, by rw [List.length_map]; omega, depth_ints u, fun zs es p _ hze hpe hpw hp => ?_⟩
      have ee := asc_sorted hasc hpe hpw
      subst ee
      refine .inl ⟨p, _, rfl, SqL.of upd_same, fun q hq => ?_⟩
      have x3 : Ext H2 (upd (upd H2 p (.lst zs)) q (.tup zs)) := (Ext.new hp).trans (.new hq)
      have hq3 : Dp K (upd (upd H2 p (.lst zs)) q (.tup zs)) (.ref q) (lotD u) := dp_new hq (dpAll_ext (.new hp) hze)
      have e3 := x3.lst e2
      generalize upd (upd H2 p _) q _ = H3 at x3 hq3 e3
      refine ⟨ys, e3, small1000 (by omega), ys ++ [.ref q], upd_same, ?_, (x2.trans x3).write hD⟩
      rw [etk]
      have x4 : ExtS [D] H3 (upd H3 D (.lst (ys ++ [.ref q]))) := (ExtS.refl [D] _).write (.inr ⟨by simp, _, e3⟩)
      exact dpAll_app (dpAll_extS x4 (noLs_map _ nl _) (dpAll_ext x3 hd)) (.cons (dp_extS x4 (nl u) hq3) .nil)
    · rw [hxl, List.take_length] at hd
      refine ⟨D, ys, us, rfl, SqL.of e2, hd, by omega, fun zs' es p hz hpe hpw hp => ?_⟩
      refine .inl ⟨p, _, rfl, SqL.of upd_same, fun q hq => ?_⟩
      refine k es q _ (x2.trans ((Ext.new hp).trans (.new hq))) ((x2.trans (.new hp)).free hq) hpe (fun ne asc => ?_) (dp_new hq (dpAll_ext (.new hp) hz))
      have := sorted_lots ne asc (.refl _) (hpe.map lotD) (hpw ne)
      exact (List.map_inj_right fun x y e => lotD_inj e).mp this
end
end Wd

set_option Elab.async false
set_option linter.all false
set_option maxRecDepth 100000
set_option maxHeartbeats 4000000
namespace Wd
open PySem PySem.Spec PyProof.Rows L2 Bx Gx














































section
/-! ### what has no fault is right -/
theorem folkF_ok {fs : List Int} (h : folkF (.tuple (fs.map .int)) = none) : 2 ≤ fs.length ∧ fs.length ≤ 12 ∧ ∀ z ∈ fs, 0 ≤ z ∧ z ≤ 1000000 := by
  have h : (if 2 ≤ (fs.map PyData.int).length ∧ (fs.map PyData.int).length ≤ 12 then ((fs.map PyData.int).findIdx? fun x => !isIntD 0 1000000 x).map fun (k : Nat) => [0, (k : Int)] else some [0]) = none := h
  rw [List.length_map] at h
  by_cases c : 2 ≤ fs.length ∧ fs.length ≤ 12
  · rw [if_pos c, Option.map_eq_none_iff, List.findIdx?_eq_none_iff] at h
    refine ⟨c.1, c.2, fun z hz => ?_⟩
    have := h (.int z) (List.mem_map.mpr ⟨z, hz, rfl⟩)
    have e : isIntD 0 1000000 (.int z) = true := by simpa using this
    exact of_decide_eq_true e
  · rw [if_neg c] at h
    cases h
def prOfD : PyData → Nat × Nat
  | .tuple [.int a, .int b] => (a.toNat, b.toNat)
  | _ => (0, 0)
theorem ltP_tr {a b c : Nat × Nat} (h1 : ltP a b) (h2 : ltP b c) : ltP a c := by
  unfold ltP at *
  omega
theorem pw_adj {l : List (Nat × Nat)} (h : ∀ (k : Nat) (hk : k + 1 < l.length), ltP l[k] l[k + 1]) : l.Pairwise ltP := by
  rw [List.pairwise_iff_getElem]
  intro i j hi hj hij
  induction j with
  | zero => omega
  | succ j ih =>
    by_cases e : i = j
    · subst e
      exact h i hj
    · exact ltP_tr (ih (by omega) (by omega)) (h j hj)
theorem landF_ok {fs : List Int} {ds : List PyData} (h : landF (.tuple [.tuple (fs.map .int), .tuple ds]) = none) : ∃ bs, PyData.tuple ds = bordD bs ∧ LandOk fs bs := by
  have h : (match folkF (.tuple (fs.map .int)) with
    | some l => some l
    | none => bordF (lenD (.tuple (fs.map .int))) (.tuple ds)) = none := h
  cases hf : folkF (.tuple (fs.map .int)) with
  | some l =>
    rw [hf] at h
    cases h
  | none =>
    rw [hf] at h
    obtain ⟨h1, h2, h3⟩ := folkF_ok hf
    have h : bordF (lenD (.tuple (fs.map .int))) (.tuple ds) = none := h
    have eL : lenD (.tuple (fs.map .int)) = (fs.length : Int) := by
      show ((fs.map PyData.int).length : Int) = _
      rw [List.length_map]
    rw [eL] at h
    have h : ((List.range ds.length).find? (badB (fs.length : Int) ds)).map (fun (k : Nat) => [1, (k : Int)]) = none := h
    rw [Option.map_eq_none_iff, List.find?_range_eq_none] at h
    have ok : ∀ (k : Nat) (hk : k < ds.length), (∃ a b : Nat, ds[k] = .tuple [.int (a : Int), .int (b : Int)] ∧ a < b ∧ b < fs.length) ∧ (0 < k → leP ds[k] (ds.getD (k - 1) .none) = false) := fun k hk => by
      have hb := h k hk
      have hb : badB (fs.length : Int) ds k = false := by simpa using hb
      unfold badB at hb
      rw [List.getD_eq_getElem?_getD, List.getElem?_eq_getElem hk] at hb
      rw [Bool.or_eq_false_iff] at hb
      obtain ⟨g1, g2⟩ := hb
      have g1 : bordB (fs.length : Int) ds[k] = true := by simpa using g1
      obtain ⟨a, b, e, q1, q2, q3⟩ := bordB_ints g1
      refine ⟨⟨a.toNat, b.toNat, ?_, by omega, by omega⟩, fun h0 => ?_⟩
      · rw [e, Int.toNat_of_nonneg q1, Int.toNat_of_nonneg (by omega)]
      · have g2 : (decide (0 < k) && leP ds[k] (ds.getD (k - 1) .none)) = false := g2
        rw [decide_eq_true h0, Bool.true_and] at g2
        exact g2
    refine ⟨ds.map prOfD, ?_, ⟨h1, h2, h3, fun b hb => ?_, pw_adj fun k hk => ?_⟩⟩
    · unfold bordD
      rw [List.map_map]
      congr 1
      refine List.ext_getElem (by rw [List.length_map]) fun k hk _ => ?_
      obtain ⟨⟨a, b, e, _⟩, _⟩ := ok k hk
      rw [List.getElem_map]
      show ds[k] = PyData.tuple [.int ((prOfD ds[k]).1 : Int), .int ((prOfD ds[k]).2 : Int)]
      rw [e]
      rfl
    · obtain ⟨d, hd, rfl⟩ := List.mem_map.mp hb
      obtain ⟨k, hk, rfl⟩ := List.getElem_of_mem hd
      obtain ⟨⟨a, b, e, q1, q2⟩, _⟩ := ok k hk
      rw [e]
      exact ⟨q1, q2⟩
    · rw [List.length_map] at hk
      rw [List.getElem_map, List.getElem_map]
      obtain ⟨⟨a, b, e, q1, q2⟩, _⟩ := ok k (by omega)
      obtain ⟨⟨a', b', e', q1', q2'⟩, q3⟩ := ok (k + 1) hk
      have q3 := q3 (by omega)
      rw [List.getD_eq_getElem?_getD, show k + 1 - 1 = k from rfl, List.getElem?_eq_getElem (by omega)] at q3
      have q3 : leP ds[k + 1] ds[k] = false := q3
      rw [e, e'] at q3
      have q3 : decide ((a' : Int) < a ∨ ((a' : Int) = a ∧ (b' : Int) ≤ b)) = false := q3
      rw [decide_eq_false_iff_not] at q3
      rw [e, e']
      show a < a' ∨ (a = a' ∧ b < b')
      omega
theorem lexLe_head {a b : Nat} {r t : List Nat} (h : a ≠ b) : lexLe (a :: r) (b :: t) = decide (a ≤ b) := by
  unfold lexLe lexI
  have e : min ((a :: r).map fun (p : Nat) => (p : Int)).length ((b :: t).map fun (p : Nat) => (p : Int)).length = min r.length t.length + 1 := by
    simp only [List.length_map, List.length_cons]
    omega
  rw [e]
  show (if decide ((a : Int) = (b : Int)) = true then _ else decide ((a : Int) ≤ (b : Int))) = _
  rw [if_neg (by rw [decide_eq_true_eq]; omega)]
  exact decide_eq_decide.mpr (by omega)
theorem planF_ok {n : Nat} {bs : List (Nat × Nat)} {zs : List (List Nat)} (hn : n ≤ 12) (h : planF n bs (planD zs) = none) : PlanOk n bs zs := by
  have h : (if (zs.map lotD).isEmpty = true then some 0 else match (List.range (zs.map lotD).length).find? (badW n bs (zs.map lotD)) with
    | some k => some (k : Int)
    | none => if allW n (zs.map lotD) = true then none else some ((zs.map lotD).length : Int)) = none := h
  by_cases e0 : (zs.map lotD).isEmpty = true
  · rw [if_pos e0] at h
    cases h
  · rw [if_neg e0] at h
    have hz : zs ≠ [] := fun e => e0 (by rw [e]; rfl)
    cases hf : (List.range (zs.map lotD).length).find? (badW n bs (zs.map lotD)) with
    | some k => rw [hf] at h; cases h
    | none =>
      rw [hf] at h
      rw [List.length_map, List.find?_range_eq_none] at hf
      have hall : allW n (zs.map lotD) = true := by
        by_cases c : allW n (zs.map lotD) = true
        · exact c
        · rw [if_neg c] at h
          cases h
      have wA : ∀ (k : Nat) (hk : k < zs.length), wardAt (zs.map lotD) k = zs[k] := fun k hk => by
        unfold wardAt
        rw [List.getD_eq_getElem?_getD, List.getElem?_map, List.getElem?_eq_getElem hk]
        exact natsD_lotD _
      have ok : ∀ (k : Nat) (hk : k < zs.length), LotOk n zs[k] ∧ meetsW (zs.map lotD) k = false ∧ Hangs bs zs[k] ∧ (0 < k → lexLe zs[k] (wardAt (zs.map lotD) (k - 1)) = false) := fun k hk => by
        have hb : badW n bs (zs.map lotD) k = false := by simpa using hf k hk
        have hl := badW_lot hb
        unfold badW at hb
        rw [Bool.or_eq_false_iff, Bool.or_eq_false_iff, Bool.or_eq_false_iff, wA k hk] at hb
        obtain ⟨⟨_, g2, g3⟩, g4⟩ := hb
        rw [List.getD_eq_getElem?_getD, List.getElem?_map, List.getElem?_eq_getElem hk] at hl
        have hl := (lotB_ok (d := lotD zs[k]) hl).2
        rw [natsD_lotD] at hl
        refine ⟨hl, g2, hangB_iff.mp (by simpa using g3), fun h0 => ?_⟩
        rw [decide_eq_true h0, Bool.true_and] at g4
        exact g4
      have apart : ∀ (i j : Nat) (hi : i < zs.length) (hj : j < zs.length), i < j → ∀ x, x ∈ zs[i] → x ∈ zs[j] → False := fun i j hi hj hij x hx hy => by
        have hm := (ok j hj).2.1
        unfold meetsW at hm
        rw [wA j hj, List.any_eq_false] at hm
        refine hm x hy ?_
        rw [List.any_eq_true]
        exact ⟨i, List.mem_range.mpr hij, by rw [wA i hi, decide_eq_true hx]⟩
      have adj : ∀ (k : Nat) (hk : k + 1 < zs.length), hdLt zs[k] zs[k + 1] := fun k hk => by
        have h1 := (ok k (by omega)).1
        obtain ⟨h2, _, _, h3⟩ := ok (k + 1) hk
        have h3 := h3 (by omega)
        rw [show k + 1 - 1 = k from rfl, wA k (by omega)] at h3
        have ap := apart k (k + 1) (by omega) hk (by omega)
        cases e1 : zs[k] with
        | nil => exact absurd e1 h1.ne
        | cons a r =>
          cases e2 : zs[k + 1] with
          | nil => exact absurd e2 h2.ne
          | cons b t =>
            rw [e1, e2] at h3
            have hab : b ≠ a := fun e => ap a (by rw [e1]; exact List.mem_cons_self) (by rw [e2, e]; exact List.mem_cons_self)
            rw [lexLe_head hab, decide_eq_false_iff_not] at h3
            show a < b
            omega
      have asc : zs.Pairwise hdLt := by
        rw [List.pairwise_iff_getElem]
        intro i j hi hj hij
        induction j with
        | zero => omega
        | succ j ih =>
          by_cases e : i = j
          · subst e
            exact adj i hj
          · exact Nat.lt_trans (ih (by omega) (by omega)) (adj j hj)
      have few : zs.length ≤ n := by
        have := asc_len (l := zs.map fun u => u.headD 0) (n := n) (by rw [List.pairwise_map]; exact asc) fun x hx => by
          obtain ⟨u, hu, rfl⟩ := List.mem_map.mp hx
          obtain ⟨k, hk, rfl⟩ := List.getElem_of_mem hu
          have lo := (ok k hk).1
          cases e : zs[k] with
          | nil => exact absurd e lo.ne
          | cons a r =>
            rw [e] at lo
            exact lo.lt a List.mem_cons_self
        rwa [List.length_map] at this
      refine ⟨⟨by omega, fun u hu => ?_, hn, fun i j a b u v hu hv ha hb e => ?_⟩, hz, fun u hu => ?_, asc, fun p hp => ?_⟩
      · obtain ⟨k, hk, rfl⟩ := List.getElem_of_mem hu
        exact (ok k hk).1
      · obtain ⟨hi, rfl⟩ := List.getElem?_eq_some_iff.mp hu
        obtain ⟨hj, rfl⟩ := List.getElem?_eq_some_iff.mp hv
        subst e
        rcases Nat.lt_trichotomy i j with z | z | z
        · exact absurd hb fun hb => apart i j hi hj z a ha hb
        · exact z
        · exact absurd ha fun ha => apart j i hj hi z a hb ha
      · obtain ⟨k, hk, rfl⟩ := List.getElem_of_mem hu
        obtain ⟨lo, _, hh, _⟩ := ok k hk
        obtain ⟨l, hl⟩ := pcs_ex bs n (Mk.mask zs[k]) (Mk.mask_lt lo.asc lo.lt)
        exact ⟨l, hl, (hangs_len lo.asc lo.ne hl).mpr hh⟩
      · unfold allW at hall
        have := List.all_eq_true.mp hall p (List.mem_range.mpr hp)
        obtain ⟨j, hj, e⟩ := List.any_eq_true.mp this
        have hj := List.mem_range.mp hj
        rw [List.length_map] at hj
        rw [wA j hj] at e
        exact ⟨_, List.getElem_mem hj, of_decide_eq_true e⟩
end
end Wd

set_option Elab.async false
set_option linter.all false
set_option maxRecDepth 100000
set_option maxHeartbeats 4000000
namespace Wd
open PySem PySem.Spec PyProof.Rows L2 Bx Gx














































section
open TL
/-! ### the reading of a right picture -/
theorem joinL_mem {c x : Nat} : ∀ {ls : List (List Nat)}, x ∈ joinL [c] ls → x = c ∨ ∃ l ∈ ls, x ∈ l
  | [], h => by cases h
  | [p], h => .inr ⟨p, List.mem_cons_self, h⟩
  | p :: q :: r, h => by
    have h : x ∈ p ++ ([c] ++ joinL [c] (q :: r)) := h
    rcases List.mem_append.mp h with z | z
    · exact .inr ⟨p, List.mem_cons_self, z⟩
    · rcases List.mem_append.mp z with y | y
      · exact .inl (List.mem_singleton.mp y)
      · rcases joinL_mem y with e | ⟨l, hl, e⟩
        · exact .inl e
        · exact .inr ⟨l, List.mem_cons_of_mem _ hl, e⟩
theorem joinS_len : ∀ {l : List Nat}, l ≠ [] → (joinL [32] (l.map fun c => [c])).length = 2 * l.length - 1
  | [], h => absurd rfl h
  | [c], _ => rfl
  | c :: d :: r, _ => by
    have ih := joinS_len (l := d :: r) (by simp)
    show ([c] ++ ([32] ++ joinL [32] ((d :: r).map fun c => [c]))).length = _
    rw [List.length_append, List.length_append, ih]
    simp only [List.length_cons, List.length_nil]
    omega
theorem joinS_get : ∀ {l : List Nat} {p : Nat}, p < l.length → (joinL [32] (l.map fun c => [c]))[2 * p]? = l[p]?
  | [], p, h => absurd h (Nat.not_lt_zero p)
  | [c], 0, _ => rfl
  | [c], p + 1, h => by simp at h
  | c :: d :: r, 0, _ => rfl
  | c :: d :: r, p + 1, h => by
    have ih := joinS_get (l := d :: r) (p := p) (by simpa using h)
    show (c :: 32 :: joinL [32] ((d :: r).map fun c => [c]))[2 * p + 2]? = _
    rw [List.getElem?_cons_succ, List.getElem?_cons_succ, ih]
    rfl
theorem tl_rowS (n : Nat) (own : Nat → Nat) : tl (rowS n own) = joinL [32] (((List.range n).map fun p => 97 + own p).map fun c => [c]) := by
  have e : tl " " = [32] := by decide +kernel
  rw [rowS, tl_join, e, List.map_map, List.map_map]
  rfl
theorem rowS_len {n : Nat} (own : Nat → Nat) (h : 0 < n) : (tl (rowS n own)).length = 2 * n - 1 := by
  have h : ((List.range n).map fun p => 97 + own p) ≠ [] := fun e => by
    have := congrArg List.length e
    rw [List.length_map, List.length_range, List.length_nil] at this
    omega
  rw [tl_rowS, joinS_len h, List.length_map, List.length_range]
theorem rowS_get {n : Nat} (own : Nat → Nat) {p : Nat} (h : p < n) : (tl (rowS n own))[2 * p]? = some (97 + own p) := by
  rw [tl_rowS, joinS_get (by rw [List.length_map, List.length_range]; exact h), List.getElem?_map, List.getElem?_range h]
  rfl
theorem read_arc {n : Nat} {own : Nat → Nat} {b : Nat × Nat} (h1 : b.1 < b.2) (h2 : b.2 < n) : placesOf 43 (arcS n own b) = [b.1, b.2] := by
  refine Mk.asc_ext (placesOf_asc _ _) (List.pairwise_cons.mpr ⟨fun x hx => by rw [List.mem_singleton.mp hx]; exact h1, List.pairwise_singleton _ _⟩) fun q => ?_
  have hl : (tl (arcS n own b)).length = 2 * n - 1 := arcL_len n own b
  have hg : ∀ i, i < 2 * n - 1 → (tl (arcS n own b))[i]? = some (arcC own b i) := fun i hi => by
    show (arcL n own b)[i]? = _
    rw [arcL, List.getElem?_map, List.getElem?_range hi]
    rfl
  have hc : ∀ i, arcC own b (2 * i) = 43 ↔ (i = b.1 ∨ i = b.2) := fun i => by
    unfold arcC
    split
    · simp only [true_iff]; omega
    · split
      · split <;> simp <;> omega
      · simp; omega
  simp only [List.mem_cons, List.not_mem_nil, or_false]
  unfold placesOf atP
  rw [List.mem_filter, List.mem_range, hl, decide_eq_true_eq]
  constructor
  · rintro ⟨hq, e⟩
    rw [hg _ (by omega)] at e
    exact (hc q).mp (Option.some.inj e)
  · intro h
    have : 2 * q < 2 * n - 1 := by omega
    exact ⟨by omega, by rw [hg _ this, (hc q).mpr h]⟩
theorem own_of {n : Nat} {bs : List (Nat × Nat)} {ws : List (List Nat)} (PO : PlanOk n bs ws) {k p : Nat} {u : List Nat} (hu : ws[k]? = some u) (hp : p ∈ u) : ownOf ws p = k := by
  have lo := PO.w.lots u (List.mem_of_getElem? hu)
  obtain ⟨v, h1, h2⟩ := own_get PO (lo.lt p hp)
  exact PO.w.apart _ _ p p _ _ h1 hu h2 hp rfl
theorem read_row {n : Nat} {bs : List (Nat × Nat)} {ws : List (List Nat)} (PO : PlanOk n bs ws) (hn : 0 < n) (k : Nat) : placesOf (97 + k) (rowS n (ownOf ws)) = ws.getD k [] := by
  have hl := rowS_len (ownOf ws) hn
  refine Mk.asc_ext (placesOf_asc _ _) ?_ fun q => ?_
  · rw [List.getD_eq_getElem?_getD]
    cases e : ws[k]? with
    | none => exact .nil
    | some u => exact (PO.w.lots u (List.mem_of_getElem? e)).asc
  · unfold placesOf atP
    rw [List.mem_filter, List.mem_range, hl, decide_eq_true_eq]
    constructor
    · rintro ⟨hq, e⟩
      have hq : q < n := by omega
      rw [rowS_get _ hq] at e
      have e : ownOf ws q = k := by
        have := Option.some.inj e
        omega
      obtain ⟨u, h1, h2⟩ := own_get PO hq
      rw [← e, List.getD_eq_getElem?_getD, h1]
      exact h2
    · intro h
      rw [List.getD_eq_getElem?_getD] at h
      cases e : ws[k]? with
      | none => rw [e] at h; cases h
      | some u =>
        rw [e] at h
        have hq := (PO.w.lots u (List.mem_of_getElem? e)).lt q h
        exact ⟨by omega, by rw [rowS_get _ hq, own_of PO e h]⟩
theorem row_letter {n : Nat} {bs : List (Nat × Nat)} {ws : List (List Nat)} (PO : PlanOk n bs ws) (hn : 0 < n) (k : Nat) : (97 + k) ∈ tl (rowS n (ownOf ws)) ↔ k < ws.length := by
  constructor
  · intro h
    rw [tl_rowS] at h
    rcases joinL_mem h with e | ⟨l, hl, e⟩
    · omega
    · obtain ⟨c, hc, rfl⟩ := List.mem_map.mp hl
      obtain ⟨p, hp, rfl⟩ := List.mem_map.mp hc
      have e := List.mem_singleton.mp e
      obtain ⟨u, h1, _⟩ := own_get PO (List.mem_range.mp hp)
      have := (List.getElem?_eq_some_iff.mp h1).1
      omega
  · intro h
    have lo := PO.w.lots _ (List.getElem_mem h)
    cases e : ws[k] with
    | nil => exact absurd e lo.ne
    | cons p r =>
      have hp : p ∈ ws[k] := by rw [e]; exact List.mem_cons_self
      have ho := own_of PO (List.getElem?_eq_getElem h) hp
      have := rowS_get (ownOf ws) (lo.lt p hp)
      rw [ho] at this
      exact List.mem_of_getElem? this
/-- the letters that stand in a row, in their sequence -/
def lettersOf (s : Str) : List Nat := (List.range 12).filter fun k => decide ((97 + k) ∈ tl s)
theorem letters_row {n : Nat} {bs : List (Nat × Nat)} {ws : List (List Nat)} (PO : PlanOk n bs ws) (hn : 0 < n) : (lettersOf (rowS n (ownOf ws))).map (fun k => placesOf (97 + k) (rowS n (ownOf ws))) = ws := by
  have e : lettersOf (rowS n (ownOf ws)) = List.range ws.length := Mk.asc_ext (List.pairwise_lt_range.filter _) List.pairwise_lt_range fun q => by
    unfold lettersOf
    rw [List.mem_filter, List.mem_range, List.mem_range, decide_eq_true_eq, row_letter PO hn]
    have := PO.w.few
    omega
  rw [e]
  refine List.ext_getElem (by rw [List.length_map, List.length_range]) fun k hk hk2 => ?_
  rw [List.getElem_map, List.getElem_range, read_row PO hn, List.getD_eq_getElem?_getD, List.getElem?_eq_getElem hk2]
  rfl
theorem read_bords {n : Nat} {own : Nat → Nat} {bs : List (Nat × Nat)} (h : Mk.Bs n bs) : (bs.map (arcS n own)).map (placesOf 43) = bs.map fun b => [b.1, b.2] := by
  rw [List.map_map]
  exact List.map_congr_left fun b hb => read_arc (h b hb).1 (h b hb).2
theorem arcs_split {n : Nat} {own : Nat → Nat} {bs : List (Nat × Nat)} : (arcsL n own bs).dropLast = bs.map (arcS n own) ∧ (arcsL n own bs).getLast? = some (rowS n own) := by
  unfold arcsL
  exact ⟨List.dropLast_concat, List.getLast?_concat⟩
theorem arcs_rows {n : Nat} {own : Nat → Nat} {bs : List (Nat × Nat)} (hn : 0 < n) : rowsB n (arcsL n own bs) = true := by
  unfold rowsB
  rw [Bool.and_eq_true, List.all_eq_true]
  refine ⟨?_, fun s hs => ?_⟩
  · have : arcsL n own bs ≠ [] := fun e => by
      have := congrArg List.length e
      rw [arcsL, List.length_append] at this
      simp at this
    cases h : arcsL n own bs with
    | nil => exact absurd h this
    | cons _ _ => rfl
  · rw [decide_eq_true_eq]
    rcases List.mem_append.mp hs with z | z
    · obtain ⟨b, _, rfl⟩ := List.mem_map.mp z
      exact arcL_len n own b
    · rw [List.mem_singleton.mp z]
      exact rowS_len own hn
/-- the rows are the picture of a right land with this folk and a right plan of it -/
def IsPic (fs : List Int) (ss : List Str) (bs : List (Nat × Nat)) (ws : List (List Nat)) : Prop := LandOk fs bs ∧ PlanOk fs.length bs ws ∧ ss = arcsL fs.length (ownOf ws) bs
end
end Wd

set_option Elab.async false
set_option linter.all false
set_option maxRecDepth 100000
set_option maxHeartbeats 4000000
namespace Wd
open PySem PySem.Spec PyProof.Rows L2 Bx Gx














































section
variable {P : Program} {w : World} {K : PySem.W.Frag} {mg : Str → Option Value} {base : Heap}
open TL
/-! ### arcs_told -/
/-- two promises of one def -/
def spOr (a b : Sp) : Sp := fun vs H Q E => a vs H Q E ∨ b vs H Q E
theorem fn_or {CX : CXT} {k : Nat} {f : Addr} {fd : FuncData} {ps : List Str} {sp1 sp2 : Sp} (h1 : FnOk P w K mg base CX k f fd ps sp1) (h2 : FnOk P w K mg base CX k f fd ps sp2) : FnOk P w K mg base CX k f fd ps (spOr sp1 sp2) :=
  ⟨fun vs H Q E h => h.elim (h1.len vs H Q E) (h2.len vs H Q E), fun A outer s H args us vs Q E hr e0 hb hv h => h.elim (h1.run A outer s H args us vs Q E hr e0 hb hv) (h2.run A outer s H args us vs Q E hr e0 hb hv)⟩
theorem rSl_init {H : Hp} {a : Addr} {xs : List V} {Q : VK} (h : SqT K H a xs) (hx : xs ≠ []) (k : ∀ p H', Ext H H' → SqT K H' p xs.dropLast → Q (.ref p) H') : rSlA K (.ref a) none (some (-1)) H Q := by
  have hl := List.length_pos_iff.mpr hx
  have e : HT.sIx xs.length xs.length (some (-1)) = xs.length - 1 := by
    show (if (-1 : Int) < 0 then ((-1 : Int) + (xs.length : Int)).toNat else min (-1 : Int).toNat xs.length) = _
    rw [if_pos (by decide)]
    omega
  refine ⟨a, xs, rfl, h, fun z => absurd z.2 (by rw [e]; omega), fun _ p hp => k p _ (.new hp) (SqT.of ?_)⟩
  rw [upd_same]
  congr 2
  unfold cutV
  rw [e]
  show (xs.drop 0).take (xs.length - 1 - 0) = _
  rw [List.drop_zero, Nat.sub_zero, List.dropLast_eq_take]
def tabsOf (ts : List Addr) : List Addr := ts
def spTold (K : PySem.W.Frag) (CR T1 T2 T3 T4 T5 T6 T7 : Addr) : Sp := fun vs H Q E => ∃ (fo : V) (ar : Addr) (fs : List Int) (ss : List Str), vs = [fo, .ref ar] ∧ Dp K H fo (.tuple (fs.map .int)) ∧ 1 ≤ fs.length ∧ fs.length ≤ 100 ∧ SqT K H ar (ss.map V.str) ∧ ss.length ≤ 100 ∧ (∀ s ∈ ss, (tl s).length ≤ 100 ∧ PyData.strOk s = true) ∧ Tabs [T1, T2, T3, T4, T5, T6, T7] H ∧
  (∀ bs ws, IsPic fs ss bs ws → ∀ q H', Ext H H' → Dp K H' (.ref q) (.tuple [landD fs bs, planD ws]) → Q (.ref q) H') ∧ ((¬ ∃ bs ws, IsPic fs ss bs ws) → ∀ H', Ext H H' → E (.ref CR) none H')
abbrev atN : List Str := ["folk", "rows", "land", "letter", "plan"]
theorem sc_arcs_told : FnScope atN ["folk", "rows"] (defScope st_arcs_told) := ⟨rfl, rfl, rfl, by decide +kernel, rfl, by decide +kernel, by decide +kernel⟩
theorem bord_eq (bs : List (Nat × Nat)) : (bs.map fun (b : Nat × Nat) => [b.1, b.2]).map lotD = bs.map fun (b : Nat × Nat) => PyData.tuple [.int (b.1 : Int), .int (b.2 : Int)] := by
  rw [List.map_map]
  rfl
theorem smD_lots : ∀ (us : List (List Nat)), (∀ u ∈ us, u.length ≤ 500) → smDs (us.map lotD) = true
  | [], _ => rfl
  | u :: us, h => by
    have h1 : smD (lotD u) = true := by
      have : ∀ l : List Nat, smDs (l.map fun (p : Nat) => PyData.int (p : Int)) = true := fun l => by
        induction l with
        | nil => rfl
        | cons p r ih => rw [List.map_cons, smDs, ih]; rfl
      unfold lotD
      rw [smD, this, List.length_map, decide_eq_true (h u List.mem_cons_self)]
      rfl
    rw [List.map_cons, smDs, h1, smD_lots us fun v hv => h v (List.mem_cons_of_mem _ hv)]
    rfl
theorem eqvAll_strs : ∀ (ss ts : List Str), PyData.eqvAll (ss.map .str) (ts.map .str) = decide (ss = ts)
  | [], [] => rfl
  | [], t :: ts => rfl
  | s :: ss, [] => rfl
  | s :: ss, t :: ts => by
    rw [List.map_cons, List.map_cons, PyData.eqvAll, eqvAll_strs ss ts]
    have : PyData.eqv (.str s) (.str t) = decide (s = t) := by
      by_cases h : s = t
      · simp [PyData.eqv, h]
      · simp [PyData.eqv, h]
    rw [this, Bool.eq_iff_iff]
    simp
theorem sh_strs {ss : List Str} (h : ∀ s ∈ ss, PyData.strOk s = true) : Sh 2 (.tuple (ss.map .str)) := .tup fun d hd => by
  obtain ⟨s, hs, rfl⟩ := List.mem_map.mp hd
  exact ⟨by simp [PyData.canLay0, h s hs], by simp [PyData.depth]⟩
theorem arcs_strOk {n : Nat} {bs : List (Nat × Nat)} {ws : List (List Nat)} (PO : PlanOk n bs ws) (hn : 0 < n) : ∀ s ∈ arcsL n (ownOf ws) bs, PyData.strOk s = true := fun s hs => by
  rcases List.mem_append.mp hs with z | z
  · obtain ⟨b, _, rfl⟩ := List.mem_map.mp z
    refine strOk_list fun x hx => ?_
    obtain ⟨t, _, rfl⟩ := List.mem_map.mp hx
    unfold arcC
    split
    · omega
    · split
      · split <;> omega
      · omega
  · rw [List.mem_singleton.mp z]
    have e : rowS n (ownOf ws) = ⟨(tl (rowS n (ownOf ws))).toArray⟩ := rfl
    rw [e]
    refine strOk_list fun x hx => ?_
    rw [tl_rowS] at hx
    rcases joinL_mem hx with e | ⟨l, hl, e⟩
    · omega
    · obtain ⟨c, hc, rfl⟩ := List.mem_map.mp hl
      obtain ⟨p, hp, rfl⟩ := List.mem_map.mp hc
      have := List.mem_singleton.mp e
      have := own_lt PO (List.mem_range.mp hp)
      omega
theorem ok_arcs_told {f c CR T1 T2 T3 T4 T5 T6 T7 : Addr} {fd : FuncData} (F : FunC K "arcs_told" "arcs_told" st_arcs_told f fd c) (TB : TabB base mg c T7) (B : Bl mg) (LT : Lets mg) (R : Xc K mg "InvalidPart" CR) (c1 : Cal P w K mg base 2 "fault_of_folk" ["folk"] (spOr (spFaultFolk K) (spFaultFolkA K))) (c2 : Cal P w K mg base 4 "are_rows" ["value", "many"] (spAreRows K T6))
    (c3 : Cal P w K mg base 5 "places_at" ["row", "sign"] (spPlacesAt K T5)) (c4 : Cal P w K mg base 1 "plan_with" ["wards"] (spPlanWithT K)) (c5 : Cal P w K mg base 4 "fault_of_land" ["value"] (spOr (spFaultLand K) (spFaultLandA K)))
    (c6 : Cal P w K mg base 9 "fault_of_plan" ["land", "value"] (spOr (spFaultPlan K T1 T2 T3 T4) (spFaultPlanA K T1 T2 T3 T4))) (c7 : Cal P w K mg base 2 "arcs_of" ["land", "plan"] (spArcsOf K)) : FnOk P w K mg base (L2.CX P w) 12 f fd ["folk", "rows"] (spTold K CR T1 T2 T3 T4 T5 T6 T7) := by
  refine F.okX sc_arcs_told (fun vs H Q E h => ?_) (fun A outer s H vs Q E hr h => ?_)
  · obtain ⟨fo, ar, fs, ss, rfl, _⟩ := h
    rfl
  · obtain ⟨fo, ar, fs, ss, rfl, hfo, hf1, hf2, har, hsl, hss, hT, k1, k2⟩ := h
    obtain ⟨tL, eL⟩ := LT.ex
    have nd := sc_arcs_told.nd
    have hr1 := hr.mono (j := 1) (by decide)
    have hr2 := hr.mono (j := 2) (by decide)
    have hr4 := hr.mono (j := 4) (by decide)
    have hr5 := hr.mono (j := 5) (by decide)
    have hr9 := hr.mono (j := 9) (by decide)
    refine ⟨_, pss_cons (ps_if (pt_cmpR op_notN (pe_cal c1 hr2 rfl (pa_cons (pv 0) pa_nil)) pe_non (nomark _)) (pss_one (ps_raiseC rfl (takes_of rfl rfl rfl rfl) R rfl)) pss_nil)
      (pss_cons (ps_if (pt_not (pt_val (pe_cal c2 hr4 rfl (pa_cons (pv 1) (pa_cons (pe_callB call_len (by rfl) B.len PySem.boot_len (pa_cons (pv 0) pa_nil)) pa_nil))))) (pss_one (ps_raiseC rfl (takes_of rfl rfl rfl rfl) R rfl)) pss_nil)
      (pss_cons (ps_set (i := 2) nd rfl (Or.inl rfl) (pe_tup (pa_cons (pv 0) (pa_cons (pe_gtup (k := 6) (N := ["row"]) (src := [none]) (vs := [0])
          ⟨fun B s H fp code hB => pg_name (i := 0) (by decide +kernel : (["row"] : List Str).Nodup) rfl (Or.inl rfl), fun B s H fp code hB => pts_nil, fun B s H fp code hB => pe_cal c3 (hB.deeper _ |>.mono (by decide)) rfl (pa_cons (pv 0) (pa_cons pe_str pa_nil))⟩
          (hr.mono (by decide)) rfl B.tuple TB rfl (gOk (ND := atN) (sc := defScope st_arcs_told) (by decide +kernel)) (pi_tup (pe_slice sl_tupA (pv 1) po_none (po_some (pe_un un_neg pe_int))))) pa_nil))))
      (pss_cons (ps_set (i := 4) nd rfl (Or.inl rfl) (pe_cal c4 hr1 rfl (pa_cons (pe_lc (own := [("letter", 3)]) (g := gName 3) (by rfl) nd (pi_str (pe_glob rfl eL (v := .str "abcdefghijkl") ⟨_, rfl⟩)) (blkOk_by (own := [("letter", 3)]) (N := atN) (sc := defScope st_arcs_told) (by decide +kernel))
          (fun _ _ _ _ _ => pg_name (i := 3) nd rfl (Or.inl rfl)) (fun _ _ _ _ _ => pts_one (pt_cmpR op_in_sign (pv 3) (pe_ix (ix_tupK (K := K) rfl) (pv 1) (pe_un un_neg pe_int) (fun _ _ => rfl)) (by rfl)))
          (fun _ _ _ _ _ => pe_cal c3 hr5 rfl (pa_cons (pe_ix (ix_tupK (K := K) rfl) (pv 1) (pe_un un_neg pe_int) (fun _ _ => rfl)) (pa_cons (pv 3) pa_nil)))) pa_nil)))
      (pss_cons (ps_if (PW.pt (pw_or (pt_cmpR op_notN (pe_cal c5 hr4 rfl (pa_cons (pv 2) pa_nil)) pe_non (nomark _)) (pw_or1 (pt_cmpR op_notN (pe_cal c6 hr9 rfl (pa_cons (pv 2) (pa_cons (pv 4) pa_nil))) pe_non (nomark _))))) (pss_one (ps_raiseC rfl (takes_of rfl rfl rfl rfl) R rfl)) pss_nil)
      (pss_cons (ps_if (pt_cmpR (op_neD hr.units) (pe_cal c7 hr2 rfl (pa_cons (pv 2) (pa_cons (pv 4) pa_nil))) (pv 1) (nomark _)) (pss_one (ps_raiseC rfl (takes_of rfl rfl rfl rfl) R rfl)) pss_nil)
      (pss_one (ps_ret (pe_tup (pa_cons (pv 2) (pa_cons (pv 4) pa_nil)))))))))), ?_⟩
    have hfa : ∃ af, fo = .ref af ∧ SqT K H af (fs.map V.int) := dp_ints hfo
    obtain ⟨af, rfl, hf⟩ := hfa
    by_cases hF : ¬ (2 ≤ fs.length ∧ fs.length ≤ 12 ∧ ∀ z ∈ fs, 0 ≤ z ∧ z ≤ 1000000)
    · have kk := k2 fun ⟨bs, ws, ok, _⟩ => hF ⟨ok.few, ok.most, ok.folk⟩
      refine ⟨_, rfl, .inr ⟨_, _, rfl, hfo, ?_⟩⟩
      cases e : folkF (.tuple (fs.map .int)) with
      | none => exact absurd (folkF_ok e) hF
      | some l => exact fun q H1 x1 _ _ => ⟨rfl, true, rfl, iteT (kk H1 x1)⟩
    obtain ⟨hn2, hn12, hfk⟩ := Classical.not_not.mp hF
    refine ⟨_, rfl, .inl ⟨_, fs, rfl, hfo, hn2, hn12, hfk, rfl, false, rfl, iteF ?_⟩⟩
    refine ⟨_, rfl, _, rfl, _, fs.length, rfl, .inr ⟨_, hf, by simp⟩, ar, _, fs.length, rfl, har, by omega, (fun s hs => by have := (hss s hs).1; omega), by omega, by omega, hT T6 (by simp), fun H1 x1 => ?_⟩
    by_cases hR : ¬ rowsB fs.length ss = true
    · have kk := k2 fun ⟨bs, ws, ok, _, e⟩ => hR (by rw [e]; exact arcs_rows (by omega))
      rw [Bool.not_eq_true] at hR
      rw [hR]
      exact ⟨false, rfl, iteT (kk H1 x1)⟩
    have hR := Classical.not_not.mp hR
    rw [hR]
    refine ⟨true, rfl, iteF ?_⟩
    unfold rowsB at hR
    rw [Bool.and_eq_true, List.all_eq_true] at hR
    have hne : ss ≠ [] := fun e => by rw [e] at hR; exact absurd hR.1 (by decide)
    have hlen : ∀ s ∈ ss, (tl s).length = 2 * fs.length - 1 := fun s hs => of_decide_eq_true (hR.2 s hs)
    obtain ⟨last, hlast, hcat⟩ : ∃ last, ss.getLast? = some last ∧ ss.dropLast ++ [last] = ss := ⟨_, List.getLast?_eq_some_getLast hne, List.dropLast_concat_getLast hne⟩
    have hlm : last ∈ ss := List.mem_of_getLast? hlast
    have har1 := x1.sqT har
    have lastI : atI (ss.map V.str) (-1) = some (.str last) := by
      rw [← hcat, List.map_append]
      exact atI_last _ _
    have plus : ("+" : Str) = ⟨#[43]⟩ := ext_tl (by decide +kernel)
    dsimp only [gName, tSeq, List.set, L2.start, List.map, List.length, List.replicate, List.append]
    refine ⟨_, rfl, _, rfl, _, rfl, _, rfl, rSl_init har1 (fun e => hne (List.map_eq_nil_iff.mp e)) fun p1 H2 x2 hp1 => ?_⟩
    rw [← List.map_dropLast] at hp1
    have TT2 := hT.ext (x1.trans x2)
    refine ⟨p1, rfl, ⟨_, hp1⟩, TT2 T7 (by simp), fun H3 hT3 => ?_⟩
    have x3 : Ext H2 H3 := Ext.tabbed (TT2 T7 (by simp)) hT3
    have hil : ss.dropLast.length ≤ 100 := by rw [List.length_dropLast]; omega
    refine g_tupF (Pw := fun i ys H6 => DpAll K H6 ys (((ss.dropLast.take i).map (placesOf 43)).map lotD) ∧ Ext H3 H6) (fun _ _ => src_tup fun H6 e => (x3.trans e.2).sqT hp1) (by rw [List.length_map]; exact Nat.le_of_lt (small1000 (by omega))) (fun _ => rfl) ⟨by rw [List.take_zero]; exact .nil, .refl _⟩
      (fun i ys H6 e => by rw [dpAll_len e.1, List.length_map, List.length_map, List.length_take]; omega) (fun i ys H6 C hp6 hi k3 => ?_) fun ys H6 hp6 p hp => ?_
    · obtain ⟨hd6, x6⟩ := hp6
      rw [List.length_map] at hi
      have eg : (ss.dropLast.map V.str).getD i .non = .str ss.dropLast[i] := by rw [List.getD_eq_getElem?_getD, List.getElem?_map, List.getElem?_eq_getElem hi]; rfl
      have hm : ss.dropLast[i] ∈ ss := List.dropLast_subset _ (List.getElem_mem hi)
      refine ⟨_, rfl, ss.dropLast[i], 43, ?_, by have := hlen _ hm; omega, TT2.ext (x3.trans x6) T5 (by simp), fun q H7 x7 _ hq => k3 _ H7 ⟨?_, x6.trans x7⟩⟩
      · show [(ss.dropLast.map V.str).getD i .non, V.str "+"] = [V.str ss.dropLast[i], V.str ⟨#[43]⟩]
        rw [eg, plus]
      · rw [List.take_add_one, List.getElem?_eq_getElem hi, List.map_append, List.map_append]
        exact dpAll_app (dpAll_ext x7 hd6) (.cons (.tup (SqT.of hq) (dpAll_lot _)) .nil)
    obtain ⟨hd6, x6⟩ := hp6
    rw [List.length_map, List.take_length] at hd6
    refine ⟨by show 2 ≤ sizeLine; decide, fun al hal => ?_⟩
    have hfo6 := dp_ext (((x1.trans x2).trans x3).trans (x6.trans (Ext.new (o := .tup ys) hp))) hfo
    have hland : Dp K (upd (upd H6 p (.tup ys)) al (.tup [.ref af, .ref p])) (.ref al) (.tuple [.tuple (fs.map .int), .tuple ((ss.dropLast.map (placesOf 43)).map lotD)]) :=
      dp_new hal (.cons hfo6 (.cons (dp_new hp hd6) .nil))
    have x7 : Ext H (upd (upd H6 p (.tup ys)) al (.tup [.ref af, .ref p])) := (((x1.trans x2).trans x3).trans (x6.trans (.new hp))).trans (.new hal)
    clear hd6 hfo6 hal hp x6 hT3 x3 hp1 x2 TT2 har1
    generalize upd (upd H6 p (.tup ys)) al (.tup [.ref af, .ref p]) = H7 at hland x7 ⊢
    have har7 := x7.sqT har
    have T7' := hT.ext x7
    dsimp only [gName, tSeq, List.set]
    have lc12 : ("abcdefghijkl" : Str).cps.size = 12 := by decide +kernel
    refine ⟨_, rfl, fun D hD => ?_⟩
    refine lc_it walk_str (fun i H8 => ∃ as : List V, H8 D = some (.lst as) ∧ DpAll K H8 as ((((List.range i).filter fun k => decide ((97 + k) ∈ tl last)).map fun k => placesOf (97 + k) last).map lotD) ∧ Ext H7 H8) ⟨[], upd_same, .nil, .new hD⟩ (fun _ _ _ _ => trivial) (fun i x H8 H8' hi ⟨as, e8, hd8, x8⟩ hy => ?_) (fun H8 ⟨as, e8, hd8, x8⟩ => ?_)
    · obtain ⟨rfl, cc, hcc, rfl⟩ := hy
      rw [lc12] at hi
      have ecc : cc = 97 + i := by
        have h1 := let_at hi
        have h2 : ("abcdefghijkl" : Str).cps.toList[i]? = some cc := by simpa using hcc
        rw [h1] at h2
        exact (Option.some.inj h2).symm
      subst ecc
      have x78 := x7.trans x8
      have hal8 := dpAll_len hd8
      rw [List.length_map, List.length_map] at hal8
      have hfl := List.length_filter_le (fun k => decide ((97 + k) ∈ tl last)) (List.range i)
      rw [List.length_range] at hfl
      refine ⟨rfl, _, rfl, _, rfl, _, rfl, ar, _, _, _, rfl, rfl, x8.sqT har7, lastI, _, last, rfl, rfl, _, rfl, ?_⟩
      have filt := filt_snoc (fun k => decide ((97 + k) ∈ tl last)) (List.range i) i
      rw [List.range_succ, filt]
      refine ite2 (fun z => ?_) (fun z => ?_)
      · rw [if_pos z]
        refine ⟨_, rfl, _, rfl, ar, _, _, _, rfl, rfl, x8.sqT har7, lastI, _, rfl, last, 97 + i, rfl, by have := hlen _ hlm; omega, T7'.ext x8 T5 (by simp), fun q H9 x9 _ hq => ?_⟩
        have e9 := x9.lst e8
        refine ⟨as, e9, small1000 (by omega), as ++ [.ref q], upd_same, ?_, (x8.trans x9).write hD⟩
        have x10 : ExtS [D] H9 (upd H9 D (.lst (as ++ [.ref q]))) := (ExtS.refl [D] _).write (.inr ⟨by simp, _, e9⟩)
        have nl : ∀ u : List Nat, noL (lotD u) = true := fun u => noLs_map _ (fun _ => rfl) u
        rw [List.map_append, List.map_append]
        exact dpAll_app (dpAll_extS x10 (noLs_map _ nl _) (dpAll_ext x9 hd8)) (.cons (dp_extS x10 (nl _) (.tup (SqT.of hq) (dpAll_lot _))) .nil)
      · rw [if_neg z, List.append_nil]
        exact ⟨as, e8, hd8, x8⟩
    rw [lc12] at hd8
    have hus : ∀ u ∈ (lettersOf last).map (fun k => placesOf (97 + k) last), u.Pairwise (· < ·) ∧ u.length < 64 := fun u hu => by
      obtain ⟨k, _, rfl⟩ := List.mem_map.mp hu
      have := placesOf_len (97 + k) last
      have := hlen _ hlm
      exact ⟨placesOf_asc _ _, by omega⟩
    have hul : ((lettersOf last).map (fun k => placesOf (97 + k) last)).length ≤ 12 := by
      rw [List.length_map]
      have := List.length_filter_le (fun k => decide ((97 + k) ∈ tl last)) (List.range 12)
      rwa [List.length_range] at this
    refine ⟨D, as, (lettersOf last).map (fun k => placesOf (97 + k) last), rfl, e8, hd8, hus, by omega, fun zs qz H10 x10 _ hperm huniq hz => ?_⟩
    have x710 := x8.trans x10
    have hland10 := dp_ext x710 hland
    have T10 := T7'.ext x710
    have har10 := x710.sqT har7
    have x010 := x7.trans x710
    clear hland hd8 e8 x8 x10 x710 T7' har7 hD
    have ss4 : ∀ {Hx : Hp}, Tabs [T1, T2, T3, T4, T5, T6, T7] Hx → Tabs [T1, T2, T3, T4] Hx := fun {Hx} T Pt h => T Pt (by simp at h ⊢; rcases h with h | h | h | h <;> simp [h])
    dsimp only [gName, tSeq, List.set]
    by_cases G : ∃ bs ws, IsPic fs ss bs ws
    · obtain ⟨bs, ws, ok, PO, ess⟩ := G
      have kk := k1 bs ws ⟨ok, PO, ess⟩
      obtain ⟨e1, e2⟩ := arcs_split (n := fs.length) (own := ownOf ws) (bs := bs)
      have el : last = rowS fs.length (ownOf ws) := by
        rw [ess, e2] at hlast
        exact (Option.some.inj hlast).symm
      have ebs : (ss.dropLast.map (placesOf 43)).map lotD = bs.map fun (b : Nat × Nat) => PyData.tuple [.int (b.1 : Int), .int (b.2 : Int)] := by
        rw [ess, e1, read_bords ok.bord, bord_eq]
      rw [ebs] at hland10
      have hland10 : Dp K H10 (.ref al) (landD fs bs) := hland10
      have eus : (lettersOf last).map (fun k => placesOf (97 + k) last) = ws := by rw [el]; exact letters_row PO (by omega)
      rw [eus] at huniq
      have ezs := huniq (fun u hu => (PO.w.lots u hu).ne) PO.asc
      rw [ezs] at hz
      refine ⟨_, rfl, .inl ⟨_, fs, bs, rfl, hland10, ok, rfl, false, rfl, iteF ?_⟩⟩
      refine ⟨_, rfl, _, rfl, .inl ⟨_, _, fs, bs, ws, rfl, hland10, ok, hz, PO, ss4 T10, fun H11 x11 => ⟨rfl, false, rfl, iteF ?_⟩⟩⟩
      refine ⟨_, rfl, _, rfl, _, _, fs, bs, ws, rfl, dp_ext x11 hland10, ok, dp_ext x11 hz, PO, fun qa H12 x12 _ hqa => ?_⟩
      have x1112 := x11.trans x12
      refine ⟨_, rfl, .tuple ((arcsL fs.length (ownOf ws) bs).map .str), .tuple (ss.map .str), .tup (SqT.of hqa) (dpAll_strs _), .tup (x1112.sqT har10) (dpAll_strs ss), (sh_strs (arcs_strOk PO (by omega))).shaped (by decide), (sh_strs fun s hs => (hss s hs).2).shaped (by decide), false, ?_, iteF ?_⟩
      · have : PyData.eqv (.tuple ((arcsL fs.length (ownOf ws) bs).map .str)) (.tuple (ss.map .str)) = true := by
          rw [PyData.eqv, eqvAll_strs, ess, decide_eq_true rfl]
        rw [this]
        rfl
      refine ⟨_, rfl, _, rfl, by show 2 ≤ sizeLine; decide, fun q hq => kk q _ ((x010.trans x1112).trans (.new hq)) (dp_new hq (.cons (dp_ext x1112 hland10) (.cons (dp_ext x1112 hz) .nil)))⟩
    · have kk := k2 G
      refine ⟨_, rfl, .inr ⟨_, _, rfl, hland10, ?_, ?_⟩⟩
      · intro x y e ds e2
        injection e with e
        injection e with e3 e4
        injection e4 with e4 _
        rw [e2] at e4
        injection e4 with e4
        rw [← e4, List.length_map, List.length_map]
        omega
      cases eL : landF (.tuple [.tuple (fs.map .int), .tuple ((ss.dropLast.map (placesOf 43)).map lotD)]) with
      | some l => exact fun q H11 x11 _ _ => ⟨rfl, true, rfl, iteT (kk H11 (x010.trans x11))⟩
      | none =>
        obtain ⟨bs, ebs, ok⟩ := landF_ok eL
        rw [ebs] at hland10
        have hland10 : Dp K H10 (.ref al) (landD fs bs) := hland10
        refine ⟨rfl, false, rfl, iteF ?_⟩
        have hzl : zs.length ≤ 12 := by rw [hperm.length_eq]; exact hul
        have hsm : smD (planD zs) = true := by
          show smD (.tuple (zs.map lotD)) = true
          rw [smD, List.length_map, smD_lots zs fun u hu => by have := (hus u (hperm.mem_iff.mp hu)).2; omega, decide_eq_true (by omega)]
          rfl
        refine ⟨_, rfl, _, rfl, .inr ⟨_, _, fs, bs, _, rfl, hland10, ok, hz, hsm, ss4 T10, fun H11 x11 => ?_⟩⟩
        cases eP : planF fs.length bs (planD zs) with
        | some i => exact ⟨rfl, true, rfl, iteT (kk H11 (x010.trans x11))⟩
        | none =>
          have PO := planF_ok hn12 eP
          refine ⟨rfl, false, rfl, iteF ?_⟩
          refine ⟨_, rfl, _, rfl, _, _, fs, bs, zs, rfl, dp_ext x11 hland10, ok, dp_ext x11 hz, PO, fun qa H12 x12 _ hqa => ?_⟩
          have x1112 := x11.trans x12
          refine ⟨_, rfl, .tuple ((arcsL fs.length (ownOf zs) bs).map .str), .tuple (ss.map .str), .tup (SqT.of hqa) (dpAll_strs _), .tup (x1112.sqT har10) (dpAll_strs ss), (sh_strs (arcs_strOk PO (by omega))).shaped (by decide), (sh_strs fun s hs => (hss s hs).2).shaped (by decide), true, ?_, iteT (kk H12 (x010.trans x1112))⟩
          have : PyData.eqv (.tuple ((arcsL fs.length (ownOf zs) bs).map .str)) (.tuple (ss.map .str)) = false := by
            rw [PyData.eqv, eqvAll_strs, decide_eq_false]
            intro e
            exact G ⟨bs, zs, ok, PO, e.symm⟩
          rw [this]
          rfl
end
end Wd

set_option Elab.async false
set_option linter.all false
set_option maxRecDepth 100000
set_option maxHeartbeats 4000000
namespace Wd
open PySem PySem.Spec PyProof.Rows L2 Bx Gx














































section
variable {P : Program} {w : World} {K : PySem.W.Frag} {mg : Str → Option Value} {base : Heap}
open TL
/-! ### arcs, known exactly -/
def spArcsOfX (K : PySem.W.Frag) : Sp := fun vs H Q _ => ∃ (l v : V) (fs : List Int) (bs : List (Nat × Nat)) (ws : List (List Nat)), vs = [l, v] ∧ Dp K H l (landD fs bs) ∧ LandOk fs bs ∧ Dp K H v (planD ws) ∧ PlanOk fs.length bs ws ∧
  ∀ q H', Ext H H' → H q = none → XTup H' q ((arcsL fs.length (ownOf ws) bs).map V.str) → Q (.ref q) H'
theorem ok_arcs_ofX {f : Addr} {fd : FuncData} (F : Fun K "arcs_of" "arcs_of" st_arcs_of f fd) (B : Bl mg) (LT : Lets mg) (c1 : Cal P w K mg base 1 "ward_row" ["plan"] (spWardRow K)) : FnOk P w K mg base CX0 2 f fd ["land", "plan"] (spArcsOfX K) := by
  refine F.ok sc_arcs_of (fun vs H Q E h => ?_) (fun cdv A outer s H vs Q E hr h => ?_)
  · obtain ⟨l, v, fs, bs, ws, rfl, _⟩ := h
    rfl
  · obtain ⟨l, v, fs, bs, ws, rfl, hl, ok, hv, PO, k⟩ := h
    obtain ⟨tL, eL⟩ := LT.ex
    have nd := sc_arcs_of.nd
    refine ⟨_, pss_cons (ps_set (i := 2) nd rfl (Or.inr rfl) (pe_cal c1 hr rfl (pa_cons (pv 1) pa_nil)))
      (pss_cons (ps_set (i := 3) nd rfl (Or.inl rfl) (pe_callB call_len (by rfl) B.len PySem.boot_len (pa_cons (pe_ix ix_tup (pv 0) pe_int (fun _ _ => rfl)) pa_nil)))
      (pss_cons (ps_set (i := 4) nd rfl (Or.inl rfl) (pe_lst pa_nil))
      (pss_cons (ps_for PassesOwn.never rfl (pi_tup (pe_ix ix_tup (pv 0) pe_int (fun _ _ => rfl))) (pg_tup (by rfl) (pgs_cons (pg_name (i := 5) nd rfl (Or.inl rfl)) (pgs_cons (pg_name (i := 6) nd rfl (Or.inl rfl)) pgs_nil)))
        (pss_cons (ps_set (i := 7) nd rfl (Or.inl rfl) (pe_ifExp (pt_cmpR op_eq (pe_dget (hu_of hr) (pv 2) (pv 5) (fun _ _ => rfl)) (pe_dget (hu_of hr) (pv 2) (pv 6) (fun _ _ => rfl)) (nomark _)) pe_str pe_str))
        (pss_one (ps_expr (pe_bm PySem.F.plainAttrs_list PySem.F.slot_list_append PySem.F.type_list_append mt_append (pv 4) (pa_cons
          (pe_op op_add_str (pe_op op_add_str (pe_op op_add_str (pe_op op_add_str (pe_op op_repS pe_str (pv 5)) pe_str) (pe_op op_repS (pv 7) (pe_op op_sub (pe_op op_mul pe_int (pe_op op_sub (pv 6) (pv 5))) pe_int))) pe_str)
            (pe_op op_repS pe_str (pe_op op_sub (pe_op op_sub (pv 3) pe_int) (pv 6)))) pa_nil))))))
      (pss_cons (ps_expr (pe_bm PySem.F.plainAttrs_list PySem.F.slot_list_append PySem.F.type_list_append mt_append (pv 4) (pa_cons (pe_join pe_str
          (pe_lc (own := [("place", 8)]) (g := gName 8) (by rfl) nd (pi_range1 rfl B.range (pa_cons (pv 3) pa_nil)) (blkOk_by (own := [("place", 8)]) (N := aoN) (sc := defScope st_arcs_of) (by decide +kernel))
            (fun _ _ _ _ _ => pg_name (i := 8) nd rfl (Or.inl rfl)) (fun _ _ _ _ _ => pts_nil)
            (fun _ _ _ _ _ => pe_ix ix_str (pe_glob rfl eL (v := .str "abcdefghijkl") ⟨_, rfl⟩) (pe_dget (hu_of hr) (pv 2) (pv 8) (fun _ _ => rfl)) (fun _ _ => rfl)))) pa_nil)))
      (pss_one (ps_ret (pe_tupleOfX rfl B.tuple (pv 4)))))))), ?_⟩
    have h12 := ok.most
    have h2' := ok.few
    have hbl := bs_len ok.most ok.bord ok.asc
    obtain ⟨a, af, vb, rfl, h1, h2, h3⟩ := dp_land hl
    obtain ⟨ab, xs, rfl, h4, h5⟩ := dp_tup h3
    have hxl := dpAll_len h5
    rw [List.length_map] at hxl
    refine ⟨_, rfl, v, ws, fs.length, rfl, hv, PO.w, fun d kvs H1 x1 hd0 hd R => ?_⟩
    have hrow := row_own PO R
    dsimp only [gName, tSeq, List.set, L2.start, List.map, List.length, List.replicate, List.append]
    refine ⟨_, rfl, a, _, _, _, rfl, rfl, x1.sqT h1, atI_nat (j := 0) rfl, _, fs.length, rfl, .inr ⟨_, x1.sqT h2, by simp⟩, ?_⟩
    dsimp only [gName, tSeq, List.set]
    refine ⟨Nat.zero_le _, fun ql hql => ?_⟩
    dsimp only [gName, tSeq, List.set]
    have x2 : Ext H (upd H1 ql (.lst [])) := x1.trans (.new hql)
    have hqlH := x1.free hql
    have hdql : d ≠ ql := ne_of_none hd hql
    have hd2 : (upd H1 ql (.lst [])) d = some (.dK kvs) := by rw [upd_ne hdql]; exact hd
    refine ⟨_, rfl, a, _, _, _, rfl, rfl, x2.sqT h1, atI_nat (j := 1) rfl, ab, rfl, ⟨_, x2.sqT h4⟩, for_tup (K := K) (a := ab) (xs := xs) (fun i σ H2 => ∃ o5 o6 o7 : Option V, σ = [some (.ref a), some v, some (.ref d), some (.int (fs.length : Int)), some (.ref ql), o5, o6, o7, none] ∧ Ext H H2 ∧ H2 d = some (.dK kvs) ∧ H2 ql = some (.lst (((bs.take i).map (arcS fs.length (ownOf ws))).map V.str)))
      ⟨_, _, _, rfl, x2, hd2, upd_same⟩ (fun i σ H2 _ ⟨_, _, _, _, x, _, _⟩ => x.sqT h4) ?_ ?_⟩
    · rintro i y σ H2 hy ⟨o5, o6, o7, rfl, x3, hd3, hq3⟩
      have hi : i < bs.length := by
        have := (List.getElem?_eq_some_iff.mp hy).1
        omega
      obtain ⟨dy, hdy, hpy⟩ := dpAll_get' h5 hy
      rw [List.getElem?_map, List.getElem?_eq_getElem hi] at hdy
      have hdy := (Option.some.inj hdy).symm
      subst hdy
      obtain ⟨t, rfl, hSt⟩ := dp_pair hpy
      have hBi := ok.bord bs[i] (List.getElem_mem hi)
      have etk : bs.take (i + 1) = bs.take i ++ [bs[i]] := by
        rw [List.take_add_one, List.getElem?_eq_getElem hi]
        rfl
      rw [etk]
      generalize bs[i] = b at hSt hBi hpy
      have v1 := hrow b.1 (by omega)
      have v2 := hrow b.2 (by omega)
      refine ⟨t, _, rfl, x3.sqT hSt, rfl, _, _, rfl, _, _, rfl, rfl, ?_⟩
      dsimp only [gName, tSeq, List.set]
      refine ⟨_, rfl, _, rfl, d, _, rfl, by rw [← v1]; exact DGet.k (k := Sum.inl (b.1 : Int)) hd3, _, rfl, _, rfl, d, _, rfl, by rw [← v2]; exact DGet.k (k := Sum.inl (b.2 : Int)) hd3, rfl, _, rfl, ?_⟩
      have dots : tl ".." = [46, 46] := by decide +kernel
      have plusL : tl "+" = [43] := by decide +kernel
      have plus1 : ("+" : Str).length = 1 := by decide +kernel
      have len_add : ∀ x y : Str, (x ++ y).length = x.length + y.length := fun x y => by rw [str_len, tl_append, List.length_append, ← str_len, ← str_len]
      refine ite2 (fun z => ?_) (fun z => ?_)
      · have z2 : ownOf ws b.1 = ownOf ws b.2 := by
          have := V.int.inj (of_decide_eq_true z)
          omega
        have hz : tl "-" = [if ownOf ws b.1 = ownOf ws b.2 then 45 else 61] := by rw [if_pos z2]; decide +kernel
        generalize ("-" : Str) = zs at hz ⊢
        dsimp only [gName, tSeq, List.set]
        refine ⟨_, rfl, .inl ⟨rfl, _, SqL.of hq3⟩, _, rfl, _, b.1, rfl, rfl, by omega, by decide +kernel, fun u1 hu1 => ?_⟩
        have l1 : u1.length ≤ 24 := by
          rw [str_len, hu1, dots, flat_two, List.length_replicate]
          omega
        refine ⟨_, _, rfl, rfl, by rw [plus1, sizeLine_eq]; omega, ?_⟩
        refine ⟨_, rfl, _, rfl, _, rfl, _, _, rfl, rfl, _, _, rfl, rfl, .inl ⟨by decide, by decide⟩, _, _, rfl, rfl, zs, 2 * (b.2 - b.1) - 1, rfl, congrArg V.int (by omega), by omega, by rw [str_len, hz]; show 1 ≤ 100; decide, fun u2 hu2 => ?_⟩
        rw [hz, flat_one] at hu2
        have l2 : u2.length ≤ 24 := by
          rw [str_len, hu2, List.length_replicate]
          omega
        refine ⟨_, _, rfl, rfl, by rw [len_add, plus1, sizeLine_eq]; omega, _, _, rfl, rfl, by rw [len_add, len_add, plus1, sizeLine_eq]; omega, ?_⟩
        refine ⟨_, rfl, _, _, rfl, rfl, _, rfl, _, _, rfl, rfl, _, fs.length - 1 - b.2, rfl, congrArg V.int (by omega), by omega, by decide +kernel, fun u3 hu3 => ?_⟩
        rw [dots, flat_two] at hu1 hu3
        have l3 : u3.length ≤ 24 := by
          rw [str_len, hu3, List.length_replicate]
          omega
        refine ⟨_, _, rfl, rfl, by rw [len_add, len_add, len_add, plus1, sizeLine_eq]; omega, ?_⟩
        have eu : u1 ++ "+" ++ u2 ++ "+" ++ u3 = arcS fs.length (ownOf ws) b := ext_tl (by
          rw [tl_append, tl_append, tl_append, tl_append, hu1, hu2, hu3, plusL, tl_arcS]
          exact arc_eq (own := ownOf ws) hBi.1 hBi.2)
        refine ⟨ql, _, _, rfl, rfl, hq3, by rw [List.length_map, List.length_map, List.length_take]; exact small1000 (by omega), ?_⟩
        rw [eu]
        refine ⟨_, _, _, rfl, x3.write hqlH, by rw [upd_ne hdql]; exact hd3, ?_⟩
        rw [upd_same, List.map_append, List.map_append]
        rfl
      · have z2 : ¬ ownOf ws b.1 = ownOf ws b.2 := fun e => by
          rw [e, decide_eq_true rfl] at z
          exact z rfl
        have hz : tl "=" = [if ownOf ws b.1 = ownOf ws b.2 then 45 else 61] := by rw [if_neg z2]; decide +kernel
        generalize ("=" : Str) = zs at hz ⊢
        dsimp only [gName, tSeq, List.set]
        refine ⟨_, rfl, .inl ⟨rfl, _, SqL.of hq3⟩, _, rfl, _, b.1, rfl, rfl, by omega, by decide +kernel, fun u1 hu1 => ?_⟩
        have l1 : u1.length ≤ 24 := by
          rw [str_len, hu1, dots, flat_two, List.length_replicate]
          omega
        refine ⟨_, _, rfl, rfl, by rw [plus1, sizeLine_eq]; omega, ?_⟩
        refine ⟨_, rfl, _, rfl, _, rfl, _, _, rfl, rfl, _, _, rfl, rfl, .inl ⟨by decide, by decide⟩, _, _, rfl, rfl, zs, 2 * (b.2 - b.1) - 1, rfl, congrArg V.int (by omega), by omega, by rw [str_len, hz]; show 1 ≤ 100; decide, fun u2 hu2 => ?_⟩
        rw [hz, flat_one] at hu2
        have l2 : u2.length ≤ 24 := by
          rw [str_len, hu2, List.length_replicate]
          omega
        refine ⟨_, _, rfl, rfl, by rw [len_add, plus1, sizeLine_eq]; omega, _, _, rfl, rfl, by rw [len_add, len_add, plus1, sizeLine_eq]; omega, ?_⟩
        refine ⟨_, rfl, _, _, rfl, rfl, _, rfl, _, _, rfl, rfl, _, fs.length - 1 - b.2, rfl, congrArg V.int (by omega), by omega, by decide +kernel, fun u3 hu3 => ?_⟩
        rw [dots, flat_two] at hu1 hu3
        have l3 : u3.length ≤ 24 := by
          rw [str_len, hu3, List.length_replicate]
          omega
        refine ⟨_, _, rfl, rfl, by rw [len_add, len_add, len_add, plus1, sizeLine_eq]; omega, ?_⟩
        have eu : u1 ++ "+" ++ u2 ++ "+" ++ u3 = arcS fs.length (ownOf ws) b := ext_tl (by
          rw [tl_append, tl_append, tl_append, tl_append, hu1, hu2, hu3, plusL, tl_arcS]
          exact arc_eq (own := ownOf ws) hBi.1 hBi.2)
        refine ⟨ql, _, _, rfl, rfl, hq3, by rw [List.length_map, List.length_map, List.length_take]; exact small1000 (by omega), ?_⟩
        rw [eu]
        refine ⟨_, _, _, rfl, x3.write hqlH, by rw [upd_ne hdql]; exact hd3, ?_⟩
        rw [upd_same, List.map_append, List.map_append]
        rfl
    · rintro σ H2 ⟨o5, o6, o7, rfl, x3, hd3, hq3⟩
      rw [hxl, List.take_length] at hq3
      refine ⟨_, rfl, .inl ⟨rfl, _, SqL.of hq3⟩, ⟨_, rfl⟩, _, rfl, _, rfl, by omega, by omega, fun D hD => ?_⟩
      refine lc_range (lo := 0) (n := (fs.length : Int).toNat) (fun j H4 => H4 D = some (.lst (((List.range j).map (letS (ownOf ws))).map V.str)) ∧ Ext H2 H4) ⟨upd_same, .new hD⟩ (fun j H4 hj ⟨e4, x4⟩ => ?_) fun H4 ⟨e4, x4⟩ => ?_
      · rw [Int.toNat_natCast] at hj
        rw [Int.zero_add]
        refine ⟨rfl, ?_⟩
        dsimp only [tYes]
        rw [if_pos rfl]
        have v1 := hrow j hj
        have hd4 : H4 d = some (.dK kvs) := x4.keep _ _ hd3 fun z => z
        refine ⟨_, rfl, _, rfl, d, _, rfl, by rw [← v1]; exact DGet.k (k := Sum.inl (j : Int)) hd4, _, _, 97 + ownOf ws j, rfl, rfl, by decide +kernel, atI_nat (let_at (own_lt PO hj)), _, e4, by rw [List.length_map, List.length_map, List.length_range]; exact small1000 (by omega), ?_, x4.write hD⟩
        rw [upd_same, List.range_succ, List.map_append, List.map_append]
        rfl
      · rw [Int.toNat_natCast] at e4
        have hq4 := x4.lst hq3
        refine ⟨_, D, _, rfl, rfl, .inl (SqL.of e4), ?_, ?_⟩
        · have := join_len (s := " ") (ys := (List.range fs.length).map (letS (ownOf ws))) (m := 1) fun y hy => by
            obtain ⟨p, _, rfl⟩ := List.mem_map.mp hy
            exact Nat.le_refl 1
          rw [List.length_map, List.length_range] at this ⊢
          have e1 : (" " : Str).length = 1 := by decide +kernel
          rw [e1]
          omega
        refine ⟨ql, _, _, rfl, rfl, hq4, by rw [List.length_map, List.length_map]; exact Nat.lt_of_le_of_lt hbl (by rw [sizeLine_eq]; decide), ?_⟩
        refine ⟨_, rfl, ql, _, rfl, SqL.of upd_same, fun q o hq ho1 ho2 => ?_⟩
        refine k q _ (((x3.trans x4).write hqlH).trans (.new hq)) (((x3.trans x4).write hqlH).free hq) ?_
        have e := XTup.new (H := upd H4 ql (.lst ((bs.map (arcS fs.length (ownOf ws))).map V.str ++ [.str (Txt.join " " ((List.range fs.length).map (letS (ownOf ws))))]))) (p := q) (xs := (bs.map (arcS fs.length (ownOf ws))).map V.str ++ [.str (Txt.join " " ((List.range fs.length).map (letS (ownOf ws))))]) ho1 ho2
        have ea : (arcsL fs.length (ownOf ws) bs).map V.str = (bs.map (arcS fs.length (ownOf ws))).map V.str ++ [.str (Txt.join " " ((List.range fs.length).map (letS (ownOf ws))))] := by
          rw [arcsL, List.map_append, join_eq]
          rfl
        rw [ea]
        exact e
def spArcsX (K : PySem.W.Frag) (T1 T2 T3 T4 : Addr) : Sp := fun vs H Q _ => ∃ (l v : V) (fs : List Int) (bs : List (Nat × Nat)) (ws : List (List Nat)), vs = [l, v] ∧ Dp K H l (landD fs bs) ∧ LandOk fs bs ∧ Dp K H v (planD ws) ∧ PlanOk fs.length bs ws ∧ Tabs [T1, T2, T3, T4] H ∧
  ∀ q H', Ext H H' → H q = none → XTup H' q ((arcsL fs.length (ownOf ws) bs).map V.str) → Q (.ref q) H'
theorem ok_arcsX {f T1 T2 T3 T4 : Addr} {fd : FuncData} (F : Fun K "arcs" "arcs" st_arcs f fd) (c1 : Cal P w K mg base 5 "check_land" ["land"] (spFaultLand K)) (c2 : Cal P w K mg base 10 "check_plan" ["land", "plan"] (spFaultPlan K T1 T2 T3 T4)) (c3 : Cal P w K mg base 2 "arcs_of" ["land", "plan"] (spArcsOfX K)) :
    FnOk P w K mg base CX0 11 f fd ["land", "plan"] (spArcsX K T1 T2 T3 T4) := by
  refine F.ok sc_arcs (fun vs H Q E h => ?_) (fun cdv A outer s H vs Q E hr h => ?_)
  · obtain ⟨l, v, fs, bs, ws, rfl, _⟩ := h
    rfl
  · obtain ⟨l, v, fs, bs, ws, rfl, hl, ok, hv, PO, hT, k⟩ := h
    refine ⟨_, pss_cons (ps_expr (pe_cal c1 (hr.mono (by decide)) rfl (pa_cons (pv 0) pa_nil))) (pss_cons (ps_expr (pe_cal c2 hr rfl (pa_cons (pv 0) (pa_cons (pv 1) pa_nil))))
      (pss_one (ps_ret (pe_cal c3 (hr.mono (by decide)) rfl (pa_cons (pv 0) (pa_cons (pv 1) pa_nil)))))), ?_⟩
    refine ⟨_, rfl, _, fs, bs, rfl, hl, ok, ?_⟩
    refine ⟨_, rfl, _, rfl, l, v, fs, bs, ws, rfl, hl, ok, hv, PO, hT, fun H1 x1 => ?_⟩
    exact ⟨_, rfl, _, rfl, l, v, fs, bs, ws, rfl, dp_ext x1 hl, ok, dp_ext x1 hv, PO, fun q H2 x2 hq0 hq => k q H2 (x1.trans x2) (x1.free hq0) hq⟩
/-! ### _law_told -/
def spLTold (K : PySem.W.Frag) (T1 T2 T3 T4 T5 T6 T7 : Addr) : Sp := fun vs H Q _ => ∃ (fo : V) (ar : Addr) (fs : List Int) (ss : List Str), vs = [fo, .ref ar] ∧ Dp K H fo (.tuple (fs.map .int)) ∧ 1 ≤ fs.length ∧ fs.length ≤ 100 ∧ SqT K H ar (ss.map V.str) ∧ ss.length ≤ 100 ∧ (∀ s ∈ ss, (tl s).length ≤ 100 ∧ PyData.strOk s = true) ∧ Tabs [T1, T2, T3, T4, T5, T6, T7] H ∧
  (∀ bs ws, IsPic fs ss bs ws → ∀ q H', Ext H H' → Dp K H' (.ref q) (.tuple [landD fs bs, planD ws]) → Q (.ref q) H') ∧ ((¬ ∃ bs ws, IsPic fs ss bs ws) → ∀ H', Ext H H' → Q .non H')
theorem sc_law_told : FnScope ["folk", "rows", "found"] ["folk", "rows"] (defScope st__law_told) := ⟨rfl, rfl, rfl, by decide +kernel, rfl, by decide +kernel, by decide +kernel⟩
def tTold (sp : Sp) : WX → TS := fun W => tAsg (tCallS sp (WE W) (tCons (tVar 0) (tCons (tVar 1) tNil))) (gName 2)
theorem ok_law_told {f CR CW T1 T2 T3 T4 T5 T6 T7 : Addr} {fd : FuncData} (F : Fun K "_law_told" "_law_told" st__law_told f fd) (R : Xc K mg "InvalidPart" CR) (gW : mg "WardError" = some (.ref CW)) (eR : PySem.W.exmOne K (.ref CR) (.ref CR) = some true)
    (c1 : CalX P w K mg base 12 "arcs_told" ["folk", "rows"] (spTold K CR T1 T2 T3 T4 T5 T6 T7)) : FnOk P w K mg base CX0 13 f fd ["folk", "rows"] (spLTold K T1 T2 T3 T4 T5 T6 T7) := by
  refine F.ok sc_law_told (fun vs H Q E h => ?_) (fun cdv A outer s H vs Q E hr h => ?_)
  · obtain ⟨fo, ar, fs, ss, rfl, _⟩ := h
    rfl
  · obtain ⟨fo, ar, fs, ss, rfl, hfo, hf1, hf2, har, hsl, hss, hT, k1, k2⟩ := h
    have nd := sc_law_told.nd
    refine ⟨_, pss_cons (ps_set (i := 2) nd rfl (Or.inl rfl) (pe_tup (pa_cons pe_str pa_nil)))
      (pss_cons (ps_try_many (tb := tTold (spTold K CR T1 T2 T3 T4 T5 T6 T7)) rfl rfl takes_none5 (fun W pn xe tk _ => pss_one (ps_set (i := 2) nd rfl (Or.inl rfl) (pe_calS c1 hr tk rfl (pa_cons (pv 0) (pa_cons (pv 1) pa_nil)))))
        (HdsOk.cons (c := .ref CR) ⟨rfl, by decide, .inl R.g⟩ (fun a oe cls d pn _ _ => pss_one (ps_set (i := 2) nd rfl (Or.inl rfl) pe_non)) (HdsOk.cons (c := .ref CW) ⟨rfl, by decide, .inl gW⟩ (fun a oe cls d pn _ _ => pss_one (ps_set (i := 2) nd rfl (Or.inl rfl) (pe_tup (pa_cons pe_str pa_nil)))) HdsOk.nil)))
      (pss_one (ps_ret (pv 2)))), ?_⟩
    refine ⟨by show 1 ≤ sizeLine; decide, fun t ht => ?_⟩
    have x1 : Ext H (upd H t (.tup [.str (Str.ofString "other")])) := .new ht
    generalize upd H t (.tup [.str (Str.ofString "other")]) = H1 at x1 ⊢
    dsimp only [gName, tSeq, List.set, L2.start, List.map, List.length, List.replicate, List.append]
    refine ⟨_, rfl, _, rfl, fo, ar, fs, ss, rfl, dp_ext x1 hfo, hf1, hf2, x1.sqT har, hsl, hss, hT.ext x1, fun bs ws h q H2 x2 hq => ?_, fun h H2 x2 => ?_⟩
    · exact ⟨_, rfl, k1 bs ws h q H2 (x1.trans x2) hq⟩
    · exact ⟨true, eR, fun _ a ha => ⟨_, rfl, k2 h H2 (x1.trans x2)⟩, fun z => nomatch z⟩
end
end Wd

set_option Elab.async false
set_option linter.all false
set_option maxRecDepth 100000
set_option maxHeartbeats 4000000
namespace Wd
open PySem PySem.Spec PyProof.Rows L2 Bx Gx














































section
variable {P : Program} {w : World} {K : PySem.W.Frag} {mg : Str → Option Value} {base : Heap}
open TL
/-! ### _law_spoilt -/
theorem first_at {z : Str} : ∀ {ss : List Str}, z ∈ ss → ∃ j : Nat, ss[j]? = some z ∧ ∀ m : Nat, m < j → ss[m]? ≠ some z
  | [], h => by cases h
  | s :: ss, h => by
    by_cases e : s = z
    · exact ⟨0, by rw [e]; rfl, fun m hm => absurd hm (Nat.not_lt_zero m)⟩
    · obtain ⟨j, h1, h2⟩ := first_at (ss := ss) ((List.mem_cons.mp h).resolve_left fun q => e q.symm)
      refine ⟨j + 1, by rw [List.getElem?_cons_succ]; exact h1, fun m hm => ?_⟩
      cases m with
      | zero => exact fun q => e (Option.some.inj q)
      | succ m => rw [List.getElem?_cons_succ]; exact h2 m (by omega)
/-- rows: texts, not too many, not too long -/
def RowsT (K : PySem.W.Frag) (L M : Nat) (H : Hp) (a : Addr) : Prop := ∃ ss : List Str, SqT K H a (ss.map V.str) ∧ ss.length ≤ L ∧ ∀ s ∈ ss, (tl s).length ≤ M ∧ PyData.strOk s = true
theorem RowsT.extS {S : List Addr} {L M : Nat} {H H' : Hp} {a : Addr} (h : RowsT K L M H a) (x : ExtS S H H') : RowsT K L M H' a := let ⟨ss, h1, h2⟩ := h; ⟨ss, x.sqT h1, h2⟩
theorem RowsT.ext {L M : Nat} {H H' : Hp} {a : Addr} (h : RowsT K L M H a) (x : Ext H H') : RowsT K L M H' a := let ⟨ss, h1, h2⟩ := h; ⟨ss, x.sqT h1, h2⟩
theorem RowsT.up {L L' M : Nat} {H : Hp} {a : Addr} (h : RowsT K L M H a) (z : L ≤ L') : RowsT K L' M H a := let ⟨ss, h1, h2, h3⟩ := h; ⟨ss, h1, Nat.le_trans h2 z, h3⟩
theorem xtup_extS {S : List Addr} {H H' : Hp} {p : Addr} {xs : List V} (h : XTup H p xs) (x : ExtS S H H') : XTup H' p xs := by
  obtain ⟨o, e, e2, e3⟩ := h.ex
  exact ⟨o, x.keep _ _ e (fun z => z) (fun z => z.elim), e2, e3⟩
theorem RowsT.upto {L M : Nat} {H : Hp} {a : Addr} {e : Nat} {Q : VK} (h : RowsT K L M H a) (k : ∀ p H', Ext H H' → RowsT K e M H' p → Q (.ref p) H') : rSlA K (.ref a) none (some (e : Int)) H Q := by
  obtain ⟨ss, h1, h2, h3⟩ := h
  have e0 := HT.sIx_nat (ss.map V.str).length (ss.map V.str).length e
  refine ⟨a, _, rfl, h1, fun z => k a H (.refl H) ⟨ss, h1, by rw [e0, List.length_map] at z; omega, h3⟩, fun _ p hp => k p _ (.new hp) ⟨ss.take (min e ss.length), SqT.of ?_, ?_, fun s hs => h3 s (List.mem_of_mem_take hs)⟩⟩
  · rw [upd_same]
    congr 2
    unfold cutV
    rw [e0, List.length_map]
    show ((ss.map V.str).drop 0).take (min e ss.length - 0) = _
    rw [List.drop_zero, Nat.sub_zero, List.map_take]
  · rw [List.length_take]
    omega
theorem RowsT.rest {L M : Nat} {H : Hp} {a : Addr} {e : Nat} {Q : VK} (h : RowsT K L M H a) (k : ∀ p H', Ext H H' → RowsT K (L - e) M H' p → Q (.ref p) H') : rSlA K (.ref a) (some (e : Int)) none H Q := by
  obtain ⟨ss, h1, h2, h3⟩ := h
  have e0 := HT.sIx_nat (ss.map V.str).length 0 e
  refine ⟨a, _, rfl, h1, fun z => k a H (.refl H) ⟨ss, h1, by rw [e0, List.length_map] at z; omega, h3⟩, fun _ p hp => k p _ (.new hp) ⟨ss.drop (min e ss.length), SqT.of ?_, ?_, fun s hs => h3 s (List.mem_of_mem_drop hs)⟩⟩
  · rw [upd_same]
    congr 2
    unfold cutV
    rw [e0, List.length_map]
    show ((ss.map V.str).drop (min e ss.length)).take (ss.length - min e ss.length) = _
    rw [← List.map_drop, List.take_of_length_le (by rw [List.length_map, List.length_drop]; exact Nat.le_refl _)]
  · rw [List.length_drop]
    omega
theorem RowsT.cat {L L' M : Nat} {H : Hp} {a b : Addr} {Q : VK} (h : RowsT K L M H a) (h' : RowsT K L' M H b) (hL : L + L' ≤ 1000) (k : ∀ p H', Ext H H' → RowsT K (L + L') M H' p → Q (.ref p) H') : rCatA K (.ref a) (.ref b) H Q := by
  obtain ⟨ss, h1, h2, h3⟩ := h
  obtain ⟨ts, g1, g2, g3⟩ := h'
  refine ⟨a, b, _, _, rfl, rfl, h1, g1, by rw [List.length_map, List.length_map, sizeLine_eq]; omega, fun _ => k b H (.refl H) ⟨ts, g1, by omega, g3⟩, fun _ _ => k a H (.refl H) ⟨ss, h1, by omega, h3⟩, fun _ _ p hp => k p _ (.new hp) ⟨ss ++ ts, SqT.of ?_, by rw [List.length_append]; omega, fun s hs => ?_⟩⟩
  · rw [upd_same, List.map_append]
  · rcases List.mem_append.mp hs with z | z
    · exact h3 s z
    · exact g3 s z
theorem tx_cut {z : Str} {lo hi : Option Int} {M : Nat} (h : (tl z).length ≤ M ∧ PyData.strOk z = true) : (tl (L2.cutS z lo hi)).length ≤ M ∧ PyData.strOk (L2.cutS z lo hi) = true := by
  refine ⟨?_, strOk_list fun x hx => strOk_mem h.2 (List.mem_of_mem_drop (List.mem_of_mem_take hx))⟩
  have := L2.cutS_length z lo hi
  rw [str_len, str_len] at this
  omega
theorem tx_add {y z : Str} {M N : Nat} (h : (tl y).length ≤ M ∧ PyData.strOk y = true) (h' : (tl z).length ≤ N ∧ PyData.strOk z = true) : (tl (y ++ z)).length ≤ M + N ∧ PyData.strOk (y ++ z) = true :=
  ⟨by rw [tl_append, List.length_append]; omega, strOk_append h.2 h'.2⟩
def spSpoilt (K : PySem.W.Frag) : Sp := fun vs H Q _ => ∃ (sp gr ar : Addr) (ss : List Str), vs = [.ref sp, .ref ar] ∧ SpAt H sp gr ∧ XTup H ar (ss.map V.str) ∧ ss ≠ [] ∧ ss.length ≤ 77 ∧ (∀ s ∈ ss, (tl s).length ≤ 40 ∧ PyData.strOk s = true) ∧
  ∀ q H', ExtS [sp, gr] H H' → SpAt H' sp gr → RowsT K 78 100 H' q → Q (.ref q) H'
abbrev spoN : List Str := ["spring", "rows", "k", "j", "way", "row", "at", "sign"]
theorem sc_law_spoilt : FnScope spoN ["spring", "rows"] (defScope st__law_spoilt) := ⟨rfl, rfl, rfl, by decide +kernel, rfl, by decide +kernel, by decide +kernel⟩
theorem ok_law_spoilt {f : Addr} {fd : FuncData} (F : Fun K "_law_spoilt" "_law_spoilt" st__law_spoilt f fd) (B : Bl mg) (c1 : Cal P w K mg base 1 "_law_drop" ["spring", "many"] (spDrop K)) : FnOk P w K mg base CX0 2 f fd ["spring", "rows"] (spSpoilt K) := by
  refine F.ok sc_law_spoilt (fun vs H Q E h => ?_) (fun cdv A outer s H vs Q E hr h => ?_)
  · obtain ⟨sp, gr, ar, ss, rfl, _⟩ := h
    rfl
  · obtain ⟨sp, gr, ar, ss, rfl, S, hX, hne, hsl, hss, k⟩ := h
    have nd := sc_law_spoilt.nd
    refine ⟨_, pss_cons (ps_par (i := 2) (j := 3) (by rfl) nd rfl rfl (by decide) rfl rfl (pa_cons (pe_cal c1 hr rfl (pa_cons (pv 0) (pa_cons (pe_callB call_len (by rfl) B.len PySem.boot_len (pa_cons (pv 1) pa_nil)) pa_nil))) (pa_cons (pe_cal c1 hr rfl (pa_cons (pv 0) (pa_cons (pe_callB call_len (by rfl) B.len PySem.boot_len (pa_cons (pv 1) pa_nil)) pa_nil))) pa_nil)) (by rfl))
      (pss_cons (ps_par (i := 4) (j := 5) (by rfl) nd rfl rfl (by decide) rfl rfl (pa_cons (pe_cal c1 hr rfl (pa_cons (pv 0) (pa_cons pe_int pa_nil))) (pa_cons (pe_ix ix_tup (pv 1) (pe_ix ix_list (pe_lst (pa_cons (pv 2) (pa_cons (pe_op op_sub (pe_callB call_len (by rfl) B.len PySem.boot_len (pa_cons (pv 1) pa_nil)) pe_int) pa_nil))) (pe_cal c1 hr rfl (pa_cons (pv 0) (pa_cons pe_int pa_nil))) (fun _ _ => rfl)) (fun _ _ => rfl)) pa_nil)) (by rfl))
      (pss_cons (ps_set (i := 2) nd rfl (Or.inl rfl) (pe_bmX PySem.F.slot_tuple_index PySem.F.type_tuple_index mt_tup_index (pv 1) (pa_cons (pv 5) pa_nil)))
      (pss_cons (ps_par (i := 6) (j := 7) (by rfl) nd rfl rfl (by decide) rfl rfl (pa_cons (pe_cal c1 hr rfl (pa_cons (pv 0) (pa_cons (pe_op op_add (pe_callB call_len_str (by rfl) B.len PySem.boot_len (pa_cons (pv 5) pa_nil)) pe_int) pa_nil))) (pa_cons (pe_ix ix_str pe_str (pe_cal c1 hr rfl (pa_cons (pv 0) (pa_cons pe_int pa_nil))) (fun _ _ => rfl)) pa_nil)) (by rfl))
      (pss_cons (ps_if (pt_cmpR op_eq (pv 4) pe_int (nomark _))
        (pss_one (ps_set (i := 5) nd rfl (Or.inl rfl) (pe_op op_add_str (pe_op op_add_str (pe_slice L2.sl_str (pv 5) po_none (po_some (pv 6))) (pv 7)) (pe_slice L2.sl_str (pv 5) (po_some (pv 6)) po_none))))
        (pss_one (ps_if (pt_cmpR op_eq (pv 4) pe_int (nomark _))
          (pss_one (ps_set (i := 5) nd rfl (Or.inl rfl) (pe_op op_add_str (pe_slice L2.sl_str (pv 5) po_none (po_some (pv 6))) (pe_slice L2.sl_str (pv 5) (po_some (pe_op op_add (pv 6) pe_int)) po_none))))
          (pss_one (ps_if (pt_cmpR op_lt (pv 4) pe_int (nomark _))
            (pss_one (ps_set (i := 5) nd rfl (Or.inl rfl) (pe_op op_add_str (pe_op op_add_str (pe_slice L2.sl_str (pv 5) po_none (po_some (pv 6))) (pv 7)) (pe_slice L2.sl_str (pv 5) (po_some (pe_op op_add (pv 6) pe_int)) po_none))))
            (pss_one (ps_if (pt_cmpR op_eq (pv 4) pe_int (nomark _))
              (pss_one (ps_ret (pe_op op_catA (pe_slice sl_tupA (pv 1) po_none (po_some (pv 2))) (pe_slice sl_tupA (pv 1) (po_some (pe_op op_add (pv 2) pe_int)) po_none))))
              (pss_one (ps_if (pt_cmpR op_eq (pv 4) pe_int (nomark _))
                (pss_one (ps_ret (pe_op op_catA (pe_op op_catA (pe_slice sl_tupA (pv 1) po_none (po_some (pv 2))) (pe_tup (pa_cons (pe_ix ix_tup (pv 1) (pv 3) (fun _ _ => rfl)) pa_nil))) (pe_slice sl_tupA (pv 1) (po_some (pv 2)) po_none))))
                (pss_one (ps_ret (pe_op op_catA (pe_op op_catA (pe_slice sl_tupA (pv 1) po_none (po_some (pv 2))) (pe_tup (pa_cons (pe_ix ix_tup (pv 1) (pv 3) (fun _ _ => rfl)) pa_nil))) (pe_slice sl_tupA (pv 1) (po_some (pe_op op_add (pv 2) pe_int)) po_none)))))))))))))
      (pss_one (ps_ret (pe_op op_catA (pe_op op_catA (pe_slice sl_tupA (pv 1) po_none (po_some (pv 2))) (pe_tup (pa_cons (pv 5) pa_nil))) (pe_slice sl_tupA (pv 1) (po_some (pe_op op_add (pv 2) pe_int)) po_none)))))))), ?_⟩
    have h1 := hX.sqT (K := K)
    have hl0 := List.length_pos_iff.mpr hne
    refine ⟨_, rfl, _, rfl, _, ss.length, rfl, .inr ⟨_, h1, by simp⟩, sp, gr, ss.length, rfl, S, hl0, by omega, fun n1 H1 hn1 x1 S1 => ?_⟩
    refine ⟨_, rfl, _, rfl, _, ss.length, rfl, .inr ⟨_, x1.sqT h1, by simp⟩, sp, gr, ss.length, rfl, S1, hl0, by omega, fun n2 H2 hn2 x2 S2 => ⟨_, _, rfl, ?_⟩⟩
    dsimp only [gName, tSeq, List.set, L2.start, List.map, List.length, List.replicate, List.append]
    refine ⟨_, rfl, sp, gr, 9, rfl, S2, by decide, by decide, fun n3 H3 hn3 x3 S3 => ?_⟩
    have x13 := (x1.trans x2).trans x3
    refine ⟨_, rfl, _, rfl, _, rfl, _, ss.length, rfl, .inr ⟨_, x13.sqT h1, by simp⟩, _, _, rfl, rfl, by show 2 ≤ sizeLine; decide, fun lw hlw => ?_⟩
    have xw := Ext.new (o := .lst [.int (n1 : Int), .int ((ss.length : Int) - 1)]) hlw
    refine ⟨_, rfl, sp, gr, 2, rfl, S3.ext xw, by decide, by decide, fun n4 H4 hn4 x4 S4 => ?_⟩
    have hlw4 := x4.lst (S3.notin hlw) (upd_same (H := H3) (a := lw) (o := .lst [.int (n1 : Int), .int ((ss.length : Int) - 1)]))
    obtain ⟨i0, hi0, hpick⟩ : ∃ i0 : Nat, i0 < ss.length ∧ ([.int (n1 : Int), .int ((ss.length : Int) - 1)] : List V)[n4]? = some (.int (i0 : Int)) := by
      match n4, hn4 with
      | 0, _ => exact ⟨n1, hn1, rfl⟩
      | 1, _ => exact ⟨ss.length - 1, by omega, by show some (V.int _) = some (V.int _); congr 2; omega⟩
    have x14 := (x13.trans (.of xw)).trans x4
    have hgi : (ss.map V.str)[i0]? = some (.str ss[i0]) := by rw [List.getElem?_map, List.getElem?_eq_getElem hi0]; rfl
    refine ⟨lw, _, _, _, rfl, rfl, SqL.of hlw4, atI_nat hpick, ar, _, _, _, rfl, rfl, x14.sqT h1, atI_nat hgi, ⟨_, _, rfl, ?_⟩⟩
    dsimp only [gName, tSeq, List.set]
    have hrow0 := hss _ (List.getElem_mem hi0)
    have hmem := List.getElem_mem hi0
    generalize ss[i0] = row at hrow0 hmem ⊢
    obtain ⟨j, hj1, hjm⟩ := first_at hmem
    have hjl := (List.getElem?_eq_some_iff.mp hj1).1
    have hX4 := xtup_extS hX x14
    refine ⟨_, rfl, ⟨ar, _, rfl, hX4⟩, _, rfl, ar, ss, row, j, rfl, rfl, hX4.sqT, hj1, hjm, ?_⟩
    dsimp only [gName, tSeq, List.set]
    have zl := str_len row
    refine ⟨_, rfl, _, rfl, _, rfl, by rw [zl, sizeLine_eq]; omega, _, _, rfl, rfl, sp, gr, row.length + 1, rfl, S4, by omega, by omega, fun n6 H6 hn6 x6 S6 => ?_⟩
    refine ⟨_, rfl, sp, gr, 9, rfl, S6, by decide, by decide, fun n7 H7 hn7 x7' S7 => ?_⟩
    have sl9 : ("+-=. abcz" : Str).cps.toList.length = 9 := by decide +kernel
    have sok : ∀ x ∈ ("+-=. abcz" : Str).cps.toList, x < 1114112 := by decide +kernel
    have hs7 : n7 < ("+-=. abcz" : Str).cps.toList.length := by omega
    refine ⟨_, _, ("+-=. abcz" : Str).cps.toList[n7], rfl, rfl, by decide +kernel, atI_nat (List.getElem?_eq_getElem hs7), ⟨_, _, rfl, ?_⟩⟩
    have hsg := sok _ (List.getElem_mem hs7)
    generalize ("+-=. abcz" : Str).cps.toList[n7] = c at hsg ⊢
    dsimp only [gName, tSeq, List.set]
    have x7 := (x14.trans x6).trans x7'
    have hsign : (tl (⟨#[c]⟩ : Str)).length ≤ 1 ∧ PyData.strOk ⟨#[c]⟩ = true := ⟨Nat.le_refl 1, strOk_list (l := [c]) fun x hx => by rw [List.mem_singleton.mp hx]; exact hsg⟩
    have hR : RowsT K 77 100 H7 ar := ⟨ss, x7.sqT h1, hsl, fun s hs => ⟨by have := (hss s hs).1; omega, (hss s hs).2⟩⟩
    have h7 := x7.sqT h1
    have hj2 : (ss.map V.str)[n2]? = some (.str ss[n2]) := by rw [List.getElem?_map, List.getElem?_eq_getElem hn2]; rfl
    clear hX hX4 hlw hlw4 hpick xw x13 x14 S S1 S2 S3 S4 S6 hmem hgi sl9 sok hs7
    have cutT : ∀ lo hi, (L2.cutS row lo hi).length ≤ 40 := fun lo hi => by
      have := (tx_cut (lo := lo) (hi := hi) hrow0).1
      rwa [← str_len] at this
    have s1 : (⟨#[c]⟩ : Str).length = 1 := rfl
    have len_add : ∀ x y : Str, (x ++ y).length = x.length + y.length := fun x y => by rw [str_len, tl_append, List.length_append, ← str_len, ← str_len]
    have zsz : row.length ≤ sizeLine := by rw [zl, sizeLine_eq]; omega
    refine ⟨_, rfl, rfl, _, rfl, ite2 (fun _ => ?_) (fun _ => ?_)⟩
    · refine ⟨_, rfl, _, rfl, _, rfl, row, rfl, zsz, _, rfl, _, _, rfl, rfl, by have := cutT none (some (n6 : Int)); rw [s1, sizeLine_eq]; omega, ?_⟩
      refine ⟨_, rfl, _, rfl, _, rfl, ?_⟩
      dsimp only [tNoPart]
      refine ⟨row, rfl, zsz, _, _, rfl, rfl, by have := cutT none (some (n6 : Int)); have := cutT (some (n6 : Int)) none; rw [len_add, s1, sizeLine_eq]; omega, ?_⟩
      dsimp only [gName, tSeq, List.set]
      have hrow := tx_add (tx_add (tx_cut (lo := none) (hi := some (n6 : Int)) hrow0) hsign) (tx_cut (lo := some (n6 : Int)) (hi := none) hrow0)
      replace hrow : _ ≤ 100 ∧ _ := ⟨Nat.le_trans hrow.1 (by decide), hrow.2⟩
      generalize L2.cutS row none (some (n6 : Int)) ++ ⟨#[c]⟩ ++ L2.cutS row (some (n6 : Int)) none = row' at hrow ⊢
      refine ⟨_, rfl, _, rfl, _, rfl, hR.upto fun p1 Ha xa hpa => ?_⟩
      refine ⟨_, rfl, by show 1 ≤ sizeLine; decide, fun t ht => ?_⟩
      have ht' : RowsT K 1 100 (upd Ha t (.tup [.str (row')])) t := ⟨[row'], SqT.of upd_same, Nat.le_refl _, fun s hs => by rw [List.mem_singleton.mp hs]; exact hrow⟩
      refine RowsT.cat (hpa.ext (.new ht)) ht' (by omega) fun p2 Hb xb hpb => ?_
      refine ⟨_, rfl, _, rfl, _, _, rfl, rfl, _, rfl, ?_⟩
      dsimp only [tNoPart]
      rw [show ((j : Nat) : Int) + 1 = ((j + 1 : Nat) : Int) from rfl]
      refine ((hR.ext ((xa.trans (.new ht)).trans xb)).rest (e := j + 1) fun p3 Hc xc hpc => ?_)
      refine RowsT.cat (hpb.ext xc) hpc (by omega) fun q Hd xd hq => ?_
      have xall := (((xa.trans (.new ht)).trans xb).trans xc).trans xd
      exact k q Hd (x7.trans (.of xall)) (S7.ext xall) (hq.up (by omega))
    refine ⟨_, rfl, rfl, _, rfl, ite2 (fun _ => ?_) (fun _ => ?_)⟩
    · refine ⟨_, rfl, _, rfl, _, rfl, row, rfl, zsz, ?_⟩
      refine ⟨_, rfl, _, rfl, _, _, rfl, rfl, _, rfl, ?_⟩
      dsimp only [tNoPart]
      refine ⟨row, rfl, zsz, _, _, rfl, rfl, by have := cutT none (some (n6 : Int)); have := cutT (some ((n6 : Int) + 1)) none; rw [sizeLine_eq]; omega, ?_⟩
      dsimp only [gName, tSeq, List.set]
      have hrow := tx_add (tx_cut (lo := none) (hi := some (n6 : Int)) hrow0) (tx_cut (lo := some ((n6 : Int) + 1)) (hi := none) hrow0)
      replace hrow : _ ≤ 100 ∧ _ := ⟨Nat.le_trans hrow.1 (by decide), hrow.2⟩
      generalize L2.cutS row none (some (n6 : Int)) ++ L2.cutS row (some ((n6 : Int) + 1)) none = row' at hrow ⊢
      refine ⟨_, rfl, _, rfl, _, rfl, hR.upto fun p1 Ha xa hpa => ?_⟩
      refine ⟨_, rfl, by show 1 ≤ sizeLine; decide, fun t ht => ?_⟩
      have ht' : RowsT K 1 100 (upd Ha t (.tup [.str (row')])) t := ⟨[row'], SqT.of upd_same, Nat.le_refl _, fun s hs => by rw [List.mem_singleton.mp hs]; exact hrow⟩
      refine RowsT.cat (hpa.ext (.new ht)) ht' (by omega) fun p2 Hb xb hpb => ?_
      refine ⟨_, rfl, _, rfl, _, _, rfl, rfl, _, rfl, ?_⟩
      dsimp only [tNoPart]
      rw [show ((j : Nat) : Int) + 1 = ((j + 1 : Nat) : Int) from rfl]
      refine ((hR.ext ((xa.trans (.new ht)).trans xb)).rest (e := j + 1) fun p3 Hc xc hpc => ?_)
      refine RowsT.cat (hpb.ext xc) hpc (by omega) fun q Hd xd hq => ?_
      have xall := (((xa.trans (.new ht)).trans xb).trans xc).trans xd
      exact k q Hd (x7.trans (.of xall)) (S7.ext xall) (hq.up (by omega))
    refine ⟨_, rfl, _, _, rfl, rfl, _, rfl, ite2 (fun _ => ?_) (fun _ => ?_)⟩
    · refine ⟨_, rfl, _, rfl, _, rfl, row, rfl, zsz, _, rfl, _, _, rfl, rfl, by have := cutT none (some (n6 : Int)); rw [s1, sizeLine_eq]; omega, ?_⟩
      refine ⟨_, rfl, _, rfl, _, _, rfl, rfl, _, rfl, ?_⟩
      dsimp only [tNoPart]
      refine ⟨row, rfl, zsz, _, _, rfl, rfl, by have := cutT none (some (n6 : Int)); have := cutT (some ((n6 : Int) + 1)) none; rw [len_add, s1, sizeLine_eq]; omega, ?_⟩
      dsimp only [gName, tSeq, List.set]
      have hrow := tx_add (tx_add (tx_cut (lo := none) (hi := some (n6 : Int)) hrow0) hsign) (tx_cut (lo := some ((n6 : Int) + 1)) (hi := none) hrow0)
      replace hrow : _ ≤ 100 ∧ _ := ⟨Nat.le_trans hrow.1 (by decide), hrow.2⟩
      generalize L2.cutS row none (some (n6 : Int)) ++ ⟨#[c]⟩ ++ L2.cutS row (some ((n6 : Int) + 1)) none = row' at hrow ⊢
      refine ⟨_, rfl, _, rfl, _, rfl, hR.upto fun p1 Ha xa hpa => ?_⟩
      refine ⟨_, rfl, by show 1 ≤ sizeLine; decide, fun t ht => ?_⟩
      have ht' : RowsT K 1 100 (upd Ha t (.tup [.str (row')])) t := ⟨[row'], SqT.of upd_same, Nat.le_refl _, fun s hs => by rw [List.mem_singleton.mp hs]; exact hrow⟩
      refine RowsT.cat (hpa.ext (.new ht)) ht' (by omega) fun p2 Hb xb hpb => ?_
      refine ⟨_, rfl, _, rfl, _, _, rfl, rfl, _, rfl, ?_⟩
      dsimp only [tNoPart]
      rw [show ((j : Nat) : Int) + 1 = ((j + 1 : Nat) : Int) from rfl]
      refine ((hR.ext ((xa.trans (.new ht)).trans xb)).rest (e := j + 1) fun p3 Hc xc hpc => ?_)
      refine RowsT.cat (hpb.ext xc) hpc (by omega) fun q Hd xd hq => ?_
      have xall := (((xa.trans (.new ht)).trans xb).trans xc).trans xd
      exact k q Hd (x7.trans (.of xall)) (S7.ext xall) (hq.up (by omega))
    have hrow := hss _ (List.getElem_mem hn2)
    replace hrow : (tl ss[n2]).length ≤ 100 ∧ PyData.strOk ss[n2] = true := ⟨by have := hrow.1; omega, hrow.2⟩
    refine ⟨_, rfl, rfl, _, rfl, ite2 (fun _ => ?_) (fun _ => ?_)⟩
    · refine ⟨_, rfl, _, rfl, _, rfl, hR.upto fun p1 Ha xa hpa => ?_⟩
      refine ⟨_, rfl, _, rfl, _, _, rfl, rfl, _, rfl, ?_⟩
      dsimp only [tNoPart]
      rw [show ((j : Nat) : Int) + 1 = ((j + 1 : Nat) : Int) from rfl]
      refine ((hR.ext xa).rest (e := j + 1) fun p3 Hc xc hpc => ?_)
      refine RowsT.cat (hpa.ext xc) hpc (by omega) fun q Hd xd hq => ?_
      have xall := (xa.trans xc).trans xd
      exact k q Hd (x7.trans (.of xall)) (S7.ext xall) (hq.up (by omega))
    refine ⟨_, rfl, rfl, _, rfl, ite2 (fun _ => ?_) (fun _ => ?_)⟩
    · skip
      refine ⟨_, rfl, _, rfl, _, rfl, hR.upto fun p1 Ha xa hpa => ?_⟩
      refine ⟨_, rfl, _, rfl, ar, _, _, _, rfl, rfl, xa.sqT h7, atI_nat hj2, by show 1 ≤ sizeLine; decide, fun t ht => ?_⟩
      have ht' : RowsT K 1 100 (upd Ha t (.tup [.str (ss[n2])])) t := ⟨[ss[n2]], SqT.of upd_same, Nat.le_refl _, fun s hs => by rw [List.mem_singleton.mp hs]; exact hrow⟩
      refine RowsT.cat (hpa.ext (.new ht)) ht' (by omega) fun p2 Hb xb hpb => ?_
      refine ⟨_, rfl, _, rfl, _, rfl, ?_⟩
      dsimp only [tNoPart]
      refine ((hR.ext ((xa.trans (.new ht)).trans xb)).rest (e := j) fun p3 Hc xc hpc => ?_)
      refine RowsT.cat (hpb.ext xc) hpc (by omega) fun q Hd xd hq => ?_
      have xall := (((xa.trans (.new ht)).trans xb).trans xc).trans xd
      exact k q Hd (x7.trans (.of xall)) (S7.ext xall) (hq.up (by omega))
    · skip
      refine ⟨_, rfl, _, rfl, _, rfl, hR.upto fun p1 Ha xa hpa => ?_⟩
      refine ⟨_, rfl, _, rfl, ar, _, _, _, rfl, rfl, xa.sqT h7, atI_nat hj2, by show 1 ≤ sizeLine; decide, fun t ht => ?_⟩
      have ht' : RowsT K 1 100 (upd Ha t (.tup [.str (ss[n2])])) t := ⟨[ss[n2]], SqT.of upd_same, Nat.le_refl _, fun s hs => by rw [List.mem_singleton.mp hs]; exact hrow⟩
      refine RowsT.cat (hpa.ext (.new ht)) ht' (by omega) fun p2 Hb xb hpb => ?_
      refine ⟨_, rfl, _, rfl, _, _, rfl, rfl, _, rfl, ?_⟩
      dsimp only [tNoPart]
      rw [show ((j : Nat) : Int) + 1 = ((j + 1 : Nat) : Int) from rfl]
      refine ((hR.ext ((xa.trans (.new ht)).trans xb)).rest (e := j + 1) fun p3 Hc xc hpc => ?_)
      refine RowsT.cat (hpb.ext xc) hpc (by omega) fun q Hd xd hq => ?_
      have xall := (((xa.trans (.new ht)).trans xb).trans xc).trans xd
      exact k q Hd (x7.trans (.of xall)) (S7.ext xall) (hq.up (by omega))
end
end Wd

set_option Elab.async false
set_option linter.all false
set_option maxRecDepth 100000
set_option maxHeartbeats 4000000
namespace Wd
open PySem PySem.Spec PyProof.Rows L2 Bx Gx














































section
open TL
/-! ### what the law itself reads from rows -/
def spots (s : Str) : List Nat := (List.range (tl s).length).filter fun i => decide ((tl s)[i]? = some 43)
def prS (s : Str) : Nat × Nat := ((spots s).getD 0 0 / 2, (spots s).getD 1 0 / 2)
def okS (s : Str) : Prop := (spots s).length = 2 ∧ (spots s).getD 0 0 % 2 + (spots s).getD 1 0 % 2 = 0
theorem spots_mem {s : Str} {q : Nat} : q ∈ spots s ↔ (tl s)[q]? = some 43 := by
  unfold spots
  rw [List.mem_filter, List.mem_range, decide_eq_true_eq]
  exact ⟨fun h => h.2, fun h => ⟨(List.getElem?_eq_some_iff.mp h).1, h⟩⟩
theorem spots_asc (s : Str) : (spots s).Pairwise (· < ·) := List.pairwise_lt_range.filter _
theorem arc_spots {n : Nat} {own : Nat → Nat} {b : Nat × Nat} (h1 : b.1 < b.2) (h2 : b.2 < n) : spots (arcS n own b) = [2 * b.1, 2 * b.2] := by
  refine Mk.asc_ext (spots_asc _) (List.pairwise_cons.mpr ⟨fun x hx => by rw [List.mem_singleton.mp hx]; omega, List.pairwise_singleton _ _⟩) fun q => ?_
  simp only [List.mem_cons, List.not_mem_nil, or_false]
  rw [spots_mem]
  show (arcL n own b)[q]? = some 43 ↔ _
  unfold arcL
  rw [List.getElem?_map]
  have hc : arcC own b q = 43 ↔ (q = 2 * b.1 ∨ q = 2 * b.2) := by
    unfold arcC
    split
    · simp only [true_iff]; assumption
    · split
      · split <;> simp <;> omega
      · simp; omega
  constructor
  · intro h
    cases e : (List.range (2 * n - 1))[q]? with
    | none => rw [e] at h; cases h
    | some i =>
      rw [e] at h
      obtain ⟨hq, ei⟩ := List.getElem?_eq_some_iff.mp e
      rw [List.getElem_range] at ei
      subst ei
      exact hc.mp (Option.some.inj h)
  · intro h
    rw [List.getElem?_range (by omega)]
    exact congrArg some (hc.mpr h)
theorem arc_okS {n : Nat} {own : Nat → Nat} {b : Nat × Nat} (h1 : b.1 < b.2) (h2 : b.2 < n) : okS (arcS n own b) ∧ prS (arcS n own b) = b := by
  unfold okS prS
  rw [arc_spots h1 h2]
  refine ⟨⟨rfl, ?_⟩, ?_⟩
  · show 2 * b.1 % 2 + 2 * b.2 % 2 = 0
    omega
  · show (2 * b.1 / 2, 2 * b.2 / 2) = b
    rw [Nat.mul_div_cancel_left _ (by decide), Nat.mul_div_cancel_left _ (by decide)]
theorem prS_ok {s : Str} {n : Nat} (hl : (tl s).length = 2 * n - 1) (h : okS s) : (prS s).1 < (prS s).2 ∧ (prS s).2 < n := by
  obtain ⟨h1, h2⟩ := h
  have asc := spots_asc s
  have hm : ∀ q ∈ spots s, q < 2 * n - 1 := fun q hq => by
    have := (List.getElem?_eq_some_iff.mp (spots_mem.mp hq)).1
    omega
  unfold prS
  match e : spots s, h1 with
  | [a, b], _ =>
    rw [e] at h2 asc hm
    have hab : a < b := (List.pairwise_cons.mp asc).1 b (by simp)
    have hb := hm b (by simp)
    have h2 : a % 2 + b % 2 = 0 := h2
    show a / 2 < b / 2 ∧ b / 2 < n
    omega
def wsL (last : Str) : List (List Nat) := ((List.range 12).filter fun k => !(placesOf (97 + k) last).isEmpty).map fun k => placesOf (97 + k) last
theorem wsL_row {n : Nat} {bs : List (Nat × Nat)} {ws : List (List Nat)} (PO : PlanOk n bs ws) (hn : 0 < n) : wsL (rowS n (ownOf ws)) = ws := by
  have e : (List.range 12).filter (fun k => !(placesOf (97 + k) (rowS n (ownOf ws))).isEmpty) = List.range ws.length := Mk.asc_ext (List.pairwise_lt_range.filter _) List.pairwise_lt_range fun q => by
    have := PO.w.few
    rw [List.mem_filter, List.mem_range, List.mem_range, read_row PO hn, List.getD_eq_getElem?_getD]
    constructor
    · rintro ⟨_, h⟩
      cases e : ws[q]? with
      | none => rw [e] at h; cases h
      | some u => exact (List.getElem?_eq_some_iff.mp e).1
    · intro h
      refine ⟨by omega, ?_⟩
      rw [List.getElem?_eq_getElem h]
      have := (PO.w.lots _ (List.getElem_mem h)).ne
      cases e : ws[q] with
      | nil => exact absurd e this
      | cons _ _ => rfl
  unfold wsL
  rw [e]
  refine List.ext_getElem (by rw [List.length_map, List.length_range]) fun k hk hk2 => ?_
  rw [List.getElem_map, List.getElem_range, read_row PO hn, List.getD_eq_getElem?_getD, List.getElem?_eq_getElem hk2]
  rfl
theorem wsL_lot {n : Nat} {last : Str} (hl : (tl last).length = 2 * n - 1) : ∀ u ∈ wsL last, LotOk n u := fun u hu => by
  obtain ⟨k, hk, rfl⟩ := List.mem_map.mp hu
  have h := (List.mem_filter.mp hk).2
  refine ⟨fun e => ?_, fun p hp => ?_, placesOf_asc _ _⟩
  · have h : (!(placesOf (97 + k) last).isEmpty) = true := h
    rw [e] at h
    cases h
  · have := (placesOf_lt hp).1
    omega
theorem wsL_len (last : Str) : (wsL last).length ≤ 12 := by
  unfold wsL
  rw [List.length_map]
  have := List.length_filter_le (fun k => !(placesOf (97 + k) last).isEmpty) (List.range 12)
  rwa [List.length_range] at this
theorem wsL_apart (last : Str) : (wsL last).Pairwise fun u v => ∀ x ∈ u, ∀ y ∈ v, x ≠ y := by
  unfold wsL
  rw [List.pairwise_map]
  refine (List.pairwise_lt_range.filter _).imp fun {a b} h x hx y hy e => ?_
  subst e
  have h1 := (placesOf_lt hx).2
  have h2 := (placesOf_lt hy).2
  rw [h1] at h2
  have := Option.some.inj h2
  omega
theorem nd_of_len {α : Type} [DecidableEq α] : ∀ {l m : List α}, m.Nodup → (∀ x ∈ m, x ∈ l) → l.length ≤ m.length → l.Nodup
  | [], _, _, _, _ => .nil
  | x :: l, m, hm, hs, hl => by
    have hx : x ∉ l := fun hx => by
      have : m.length ≤ l.length := hm.length_le_of_subset fun y hy => by
        rcases List.mem_cons.mp (hs y hy) with e | e
        · rw [e]; exact hx
        · exact e
      rw [List.length_cons] at hl
      omega
    refine List.nodup_cons.mpr ⟨hx, nd_of_len (hm.erase x) (fun y hy => ?_) ?_⟩
    · obtain ⟨h1, h2⟩ := hm.mem_erase_iff.mp hy
      exact (List.mem_cons.mp (hs y h2)).resolve_left h1
    · rw [List.length_cons] at hl
      by_cases hxm : x ∈ m
      · rw [List.length_erase_of_mem hxm]
        omega
      · rw [List.erase_of_not_mem hxm]
        omega
theorem wsL_ok {n : Nat} {bs : List (Nat × Nat)} {last : Str} (hn : n ≤ 12) (h0 : 0 < n) (hl : (tl last).length = 2 * n - 1) (hang : ∀ u ∈ wsL last, Hangs bs u)
    (hs : ((wsL last).map lotD).Pairwise fun d e => PySem.W.dataLt e d = false) (hsum : ((wsL last).map List.length).sum = n) : PlanOk n bs (wsL last) := by
  have lots := wsL_lot hl
  have ap := wsL_apart last
  have asc : (wsL last).Pairwise hdLt := by
    rw [List.pairwise_map] at hs
    refine List.Pairwise.imp_of_mem (fun {u v} hu hv h => ?_) (hs.and ap)
    obtain ⟨h1, h2⟩ := h
    have hu1 := (lots u hu).ne
    have hv1 := (lots v hv).ne
    have hne : u.headD 0 ≠ v.headD 0 := by
      match u, hu1, v, hv1 with
      | a :: r, _, b :: t, _ => exact h2 a List.mem_cons_self b List.mem_cons_self
    rw [lt_lots hv1 hu1 hne.symm, decide_eq_false_iff_not] at h1
    show u.headD 0 < v.headD 0
    omega
  have hfl : (wsL last).flatten.Nodup := by
    unfold List.Nodup
    rw [List.pairwise_flatten]
    exact ⟨fun u hu => (lots u hu).asc.imp fun h => Nat.ne_of_lt h, ap⟩
  have hall : ∀ p, p < n → p ∈ (wsL last).flatten := fun p hp => Classical.byContradiction fun hnp => by
    have : (p :: (wsL last).flatten).length ≤ n := Mk.nodup_le n _ (List.nodup_cons.mpr ⟨hnp, hfl⟩) fun x hx => by
      rcases List.mem_cons.mp hx with e | e
      · rw [e]; exact hp
      · obtain ⟨u, hu, hxu⟩ := List.mem_flatten.mp e
        exact (lots u hu).lt x hxu
    rw [List.length_cons, List.length_flatten, hsum] at this
    omega
  refine ⟨⟨wsL_len last, lots, hn, fun i j a b u v hu hv ha hb e => ?_⟩, fun e => ?_, fun u hu => ?_, asc, fun p hp => ?_⟩
  · obtain ⟨hi, rfl⟩ := List.getElem?_eq_some_iff.mp hu
    obtain ⟨hj, rfl⟩ := List.getElem?_eq_some_iff.mp hv
    have ap := List.pairwise_iff_getElem.mp ap
    rcases Nat.lt_trichotomy i j with z | z | z
    · exact absurd e (ap i j hi hj z a ha b hb)
    · exact z
    · exact absurd e.symm (ap j i hj hi z b hb a ha)
  · have := hall 0 h0
    rw [e] at this
    cases this
  · have lo := lots u hu
    obtain ⟨l, hl2⟩ := pcs_ex bs n (Mk.mask u) (Mk.mask_lt lo.asc lo.lt)
    exact ⟨l, hl2, (hangs_len lo.asc lo.ne hl2).mpr (hang u hu)⟩
  · obtain ⟨u, hu, hpu⟩ := List.mem_flatten.mp (hall p hp)
    exact ⟨u, hu, hpu⟩
/-- every other sign, code by code -/
theorem filterMap_all {α β : Type} {f : α → Option β} {g : α → β} : ∀ {l : List α}, (∀ x ∈ l, f x = some (g x)) → l.filterMap f = l.map g
  | [], _ => rfl
  | x :: l, h => by
    rw [List.filterMap_cons, h x List.mem_cons_self, List.map_cons]
    exact congrArg _ (filterMap_all fun y hy => h y (List.mem_cons_of_mem _ hy))
theorem tl_even (z : Str) : tl (Tu.evenS z) = (List.range (((tl z).length + 1) / 2)).map fun i => (tl z).getD (2 * i) 0 := by
  have e : z.length = (tl z).length := str_len z
  show (List.range ((z.length + 1) / 2)).filterMap (fun i => (tl z)[2 * i]?) = _
  rw [e]
  refine filterMap_all fun i hi => ?_
  have hi := List.mem_range.mp hi
  rw [List.getD_eq_getElem?_getD, List.getElem?_eq_getElem (by omega)]
  rfl
theorem even_get {z : Str} {n i : Nat} (hl : (tl z).length = 2 * n - 1) (hi : i < n) : (tl (Tu.evenS z))[i]? = some ((tl z).getD (2 * i) 0) := by
  rw [tl_even, List.getElem?_map, List.getElem?_range (by omega)]
  rfl
theorem even_code {z : Str} {n i c : Nat} (hl : (tl z).length = 2 * n - 1) (hi : i < n) : ((tl z).getD (2 * i) 0 = c) ↔ atP c z i = true := by
  unfold atP
  rw [decide_eq_true_eq, List.getD_eq_getElem?_getD, List.getElem?_eq_getElem (by omega)]
  simp
theorem even_letter {z : Str} {n k : Nat} (hl : (tl z).length = 2 * n - 1) (h0 : 0 < n) : decide ((97 + k) ∈ tl (Tu.evenS z)) = !(placesOf (97 + k) z).isEmpty := by
  rw [Bool.eq_iff_iff, decide_eq_true_eq]
  have en : ((tl z).length + 1) / 2 = n := by omega
  rw [tl_even, en]
  constructor
  · intro h
    obtain ⟨i, hi, e⟩ := List.mem_map.mp h
    have hi := List.mem_range.mp hi
    have : i ∈ placesOf (97 + k) z := List.mem_filter.mpr ⟨List.mem_range.mpr (by omega), (even_code hl hi).mp e⟩
    cases e : placesOf (97 + k) z with
    | nil => rw [e] at this; cases this
    | cons _ _ => rfl
  · intro h
    cases e : placesOf (97 + k) z with
    | nil => rw [e] at h; cases h
    | cons p r =>
      have hp : p ∈ placesOf (97 + k) z := by rw [e]; exact List.mem_cons_self
      have h1 := (placesOf_lt hp).1
      have h2 := (List.mem_filter.mp hp).2
      exact List.mem_map.mpr ⟨p, List.mem_range.mpr (by omega), (even_code hl (by omega)).mpr h2⟩
end
end Wd

set_option Elab.async false
set_option linter.all false
set_option maxRecDepth 100000
set_option maxHeartbeats 4000000
namespace Wd
open PySem PySem.Spec PyProof.Rows L2 Bx Gx














































section
variable {P : Program} {w : World} {K : PySem.W.Frag} {mg : Str → Option Value} {base : Heap}
/-! ### near_wards -/
theorem pa_addr {H : Hp} {vs : List V} {ps : List (Nat × Nat)} (h : Pa H vs ps) : ∃ as : List Addr, vs = as.map V.ref ∧ as.length = ps.length ∧ ∀ p ∈ as.zip (ps.map Tu.keyN), H p.1 = some (.tup (p.2.map V.int)) := by
  induction h with
  | nil => exact ⟨[], rfl, rfl, fun p hp => nomatch hp⟩
  | @cons t b vs ps e _ ih =>
    obtain ⟨as, e1, e2, e3⟩ := ih
    refine ⟨t :: as, by rw [e1]; rfl, by rw [List.length_cons, List.length_cons, e2], fun p hp => ?_⟩
    rw [List.map_cons, List.zip_cons_cons] at hp
    rcases List.mem_cons.mp hp with rfl | hp
    · exact e
    · exact e3 p hp
theorem zip_fst {α β : Type} {as : List α} {bs : List β} (h : as.length = bs.length) : (as.zip bs).map (·.1) = as := List.map_fst_zip (Nat.le_of_eq h)
theorem dp_pairs {H : Hp} : ∀ {N : List (Addr × List Int)} {cs : List (Nat × Nat)}, (∀ p ∈ N, H p.1 = some (.tup (p.2.map V.int))) → N.map (·.2) = cs.map Tu.keyN → DpAll K H (N.map fun q => V.ref q.1) (cs.map fun (b : Nat × Nat) => .tuple [.int (b.1 : Int), .int (b.2 : Int)])
  | [], [], _, _ => .nil
  | [], _ :: _, _, e => nomatch e
  | _ :: _, [], _, e => nomatch e
  | p :: N, c :: cs, tn, e => by
    rw [List.map_cons, List.map_cons] at e
    injection e with h1 h2
    have h3 := tn p List.mem_cons_self
    rw [h1] at h3
    exact .cons (.tup (SqT.of h3) (.cons (.int _) (.cons (.int _) .nil))) (dp_pairs (fun q hq => tn q (List.mem_cons_of_mem _ hq)) h2)
/-- tuple(sorted(set(xs))) of pairs of places -/
theorem set_sort {H : Hp} {l : Addr} {vs : List V} {ps : List (Nat × Nat)} (hl : SqL K H l vs) (hP : Pa H vs ps) (hb : ∀ p ∈ ps, p.1 < p.2 ∧ p.2 < 12) {Q : VK}
    (hQ : ∀ (cs : List (Nat × Nat)) q H', Ext H H' → H q = none → Tu.AscP cs → (∀ p, p ∈ cs ↔ p ∈ ps) → Dp K H' (.ref q) (bordD cs) → Q (.ref q) H') :
    Tu.rSetD K P w Tu.pairs12 [.ref l] H fun x1 H1 => Tu.rSortD K P w [x1] H1 fun x2 H2 => kTup K x2 H2 Q := by
  obtain ⟨as, rfl, ea, ht⟩ := pa_addr hP
  have ez : ((as.zip (ps.map Tu.keyN)).map fun p => V.ref p.1) = as.map V.ref := by
    rw [← zip_fst (as := as) (bs := ps.map Tu.keyN) (by rw [List.length_map]; exact ea), List.map_map, zip_fst (by rw [List.length_map]; exact ea)]
    rfl
  have ek : ∀ p ∈ as.zip (ps.map Tu.keyN), ∃ b ∈ ps, p.2 = Tu.keyN b := fun p hp => by
    obtain ⟨b, hb, e⟩ := List.mem_map.mp (List.of_mem_zip hp).2
    exact ⟨b, hb, e.symm⟩
  refine ⟨l, as.zip (ps.map Tu.keyN), rfl, by rw [ez]; exact hl, fun p hp => SqT.of (ht p hp), fun p hp => ?_, fun a L ha hsub hall hnd => ?_⟩
  · obtain ⟨b, hbm, e⟩ := ek p hp
    rw [e]
    exact Tu.pairs_mem (hb b hbm).1 (hb b hbm).2
  · have x1 : Ext H (upd H a (Tu.SetO P w a L)) := .new ha
    have tu : ∀ p ∈ L, (upd H a (Tu.SetO P w a L)) p.1 = some (.tup (p.2.map V.int)) := fun p hp => x1.tup (ht p (hsub p hp))
    refine ⟨a, L, rfl, upd_same, fun p hp => SqT.of (tu p hp), fun p hp => ?_, fun N b pm pw hbn => ?_⟩
    · obtain ⟨c, _, e⟩ := ek p (hsub p hp)
      rw [e]
      rfl
    · obtain ⟨cs, e1, e2, e3⟩ := Tu.out_pairs ea hsub hall pm pw
      refine .inl ⟨b, _, rfl, SqL.of upd_same, fun q hq => ?_⟩
      have x2 : Ext (upd H a (Tu.SetO P w a L)) (upd (upd H a (Tu.SetO P w a L)) b (.lst (N.map fun q => V.ref q.1))) := .new hbn
      refine hQ cs q _ (x1.trans (x2.trans (.new hq))) (x1.free (x2.free hq)) e2 e3 (dp_new hq ?_)
      have tn : ∀ p ∈ N, (upd (upd H a (Tu.SetO P w a L)) b (.lst (N.map fun q => V.ref q.1))) p.1 = some (.tup (p.2.map V.int)) := fun p hp => x2.tup (tu p (pm.mem_iff.mp hp))
      generalize upd (upd H a (Tu.SetO P w a L)) b (.lst (N.map fun q => V.ref q.1)) = H9 at tn
      exact dp_pairs tn e1
/-- the two wards of a border -/
def prOf (ws : List (List Nat)) (b : Nat × Nat) : Nat × Nat := (min (ownOf ws b.1) (ownOf ws b.2), max (ownOf ws b.1) (ownOf ws b.2))
def cutOf (ws : List (List Nat)) (bs : List (Nat × Nat)) : List (Nat × Nat) := bs.filter fun b => decide (ownOf ws b.1 ≠ ownOf ws b.2)
theorem cut_pr {n : Nat} {bs : List (Nat × Nat)} {ws : List (List Nat)} (PO : PlanOk n bs ws) (hB : Mk.Bs n bs) : ∀ p ∈ (cutOf ws bs).map (prOf ws), p.1 < p.2 ∧ p.2 < 12 := fun p hp => by
  obtain ⟨b, hb, rfl⟩ := List.mem_map.mp hp
  have h1 := List.mem_filter.mp hb
  have h2 := of_decide_eq_true h1.2
  have h3 := hB b h1.1
  obtain ⟨u, e1, _⟩ := own_get PO (p := b.1) (by omega)
  obtain ⟨v, e2, _⟩ := own_get PO (p := b.2) (by omega)
  have l1 := (List.getElem?_eq_some_iff.mp e1).1
  have l2 := (List.getElem?_eq_some_iff.mp e2).1
  have l3 := PO.w.few
  show min _ _ < max _ _ ∧ max _ _ < 12
  omega
theorem cut_len {n : Nat} {bs : List (Nat × Nat)} (ws : List (List Nat)) (hb : bs.length ≤ n) : (cutOf ws bs).length ≤ n := Nat.le_trans (List.length_filter_le _ _) hb
def spNearW (K : PySem.W.Frag) (T1 T2 T3 T4 T6 : Addr) : Sp := fun vs H Q _ => ∃ (l v : V) (fs : List Int) (bs : List (Nat × Nat)) (ws : List (List Nat)), vs = [l, v] ∧ Dp K H l (landD fs bs) ∧ LandOk fs bs ∧ Dp K H v (planD ws) ∧ PlanOk fs.length bs ws ∧ Tabs [T1, T2, T3, T4, T6] H ∧
  ∀ q (cs : List (Nat × Nat)) H', Ext H H' → H q = none → Dp K H' (.ref q) (bordD cs) → Tu.AscP cs → (∀ p, p ∈ cs ↔ p ∈ (cutOf ws bs).map (prOf ws)) → Q (.ref q) H'
abbrev nwN : List Str := ["land", "plan", "row", "low", "high", "near"]
end
end Wd

set_option Elab.async false
set_option linter.all false
set_option maxRecDepth 100000
set_option maxHeartbeats 4000000
namespace Wd
open PySem PySem.Spec PyProof.Rows L2 Bx Gx














































section
variable {P : Program} {w : World} {K : PySem.W.Frag} {mg : Str → Option Value} {base : Heap}
open TL
/-! ### _law_due -/
theorem eqvAll_pairs : ∀ (a b : List (Nat × Nat)), PyData.eqvAll (a.map fun (b : Nat × Nat) => PyData.tuple [.int (b.1 : Int), .int (b.2 : Int)]) (b.map fun (b : Nat × Nat) => PyData.tuple [.int (b.1 : Int), .int (b.2 : Int)]) = decide (a = b)
  | [], [] => rfl
  | [], _ :: _ => rfl
  | _ :: _, [] => rfl
  | x :: a, y :: b => by
    rw [List.map_cons, List.map_cons, PyData.eqvAll, eqvAll_pairs a b]
    obtain ⟨x1, x2⟩ := x
    obtain ⟨y1, y2⟩ := y
    rw [Bool.eq_iff_iff]
    simp [PyData.eqv, PyData.eqvAll]
    omega
theorem eqvAll_lots : ∀ (a b : List (List Nat)), PyData.eqvAll (a.map lotD) (b.map lotD) = decide (a = b)
  | [], [] => rfl
  | [], _ :: _ => rfl
  | _ :: _, [] => rfl
  | x :: a, y :: b => by
    rw [List.map_cons, List.map_cons, PyData.eqvAll, eqvAll_lots a b, eqv_lots]
    rw [Bool.eq_iff_iff]
    simp
theorem set_len {H : Hp} {l : Addr} {vs : List V} {ps : List (Nat × Nat)} (hl : SqL K H l vs) (hP : Pa H vs ps) (hb : ∀ p ∈ ps, p.1 < p.2 ∧ p.2 < 12) {C : VK}
    (hQ : ∀ a (L : List (Addr × List Int)), H a = none → (L.length = ps.length → ps.Nodup) → (ps.Nodup → L.length = ps.length) → C (.ref a) (upd H a (Tu.SetO P w a L))) : Tu.rSetD K P w Tu.pairs12 [.ref l] H C := by
  obtain ⟨ads, rfl, ea, ht⟩ := pa_addr hP
  have ez : ((ads.zip (ps.map Tu.keyN)).map fun p => V.ref p.1) = ads.map V.ref := by
    rw [← zip_fst (as := ads) (bs := ps.map Tu.keyN) (by rw [List.length_map]; exact ea), List.map_map, zip_fst (by rw [List.length_map]; exact ea)]
    rfl
  have ek : ∀ p ∈ ads.zip (ps.map Tu.keyN), ∃ b ∈ ps, p.2 = Tu.keyN b := fun p hp => by
    obtain ⟨b, hb, e⟩ := List.mem_map.mp (List.of_mem_zip hp).2
    exact ⟨b, hb, e.symm⟩
  have keyi : ∀ a b : Nat × Nat, Tu.keyN a = Tu.keyN b → a = b := fun a b e => by
    unfold Tu.keyN at e
    simp only [List.cons.injEq, and_true] at e
    exact Prod.ext (by omega) (by omega)
  have kmap : (ads.zip (ps.map Tu.keyN)).map (·.2) = ps.map Tu.keyN := List.map_snd_zip (by rw [List.length_map]; omega)
  refine ⟨l, ads.zip (ps.map Tu.keyN), rfl, by rw [ez]; exact hl, fun p hp => SqT.of (ht p hp), fun p hp => ?_, fun a L ha hsub hall hnd => ?_⟩
  · obtain ⟨b, hbm, e⟩ := ek p hp
    rw [e]
    exact Tu.pairs_mem (hb b hbm).1 (hb b hbm).2
  have hsub2 : ∀ x ∈ L.map (·.2), x ∈ ps.map Tu.keyN := fun x hx => by
    obtain ⟨q, hq, rfl⟩ := List.mem_map.mp hx
    rw [← kmap]
    exact List.mem_map.mpr ⟨q, hsub q hq, rfl⟩
  have hall2 : ∀ x ∈ ps.map Tu.keyN, x ∈ L.map (·.2) := fun x hx => by
    rw [← kmap] at hx
    obtain ⟨q, hq, rfl⟩ := List.mem_map.mp hx
    exact hall q hq
  refine hQ a L ha (fun e => ?_) fun hn => ?_
  · have hkn : (ps.map Tu.keyN).Nodup := nd_of_len hnd hsub2 (by rw [List.length_map, List.length_map]; omega)
    unfold List.Nodup at hkn
    rw [List.pairwise_map] at hkn
    exact hkn.imp fun {a b} h e => h (by rw [e])
  · have hkn : (ps.map Tu.keyN).Nodup := by
      unfold List.Nodup
      rw [List.pairwise_map]
      exact hn.imp fun {a b} h e => h (keyi a b e)
    have h1 := hkn.length_le_of_subset (l₂ := L.map (·.2)) fun x hx => hall2 x hx
    have h2 := hnd.length_le_of_subset (l₂ := ps.map Tu.keyN) fun x hx => hsub2 x hx
    rw [List.length_map, List.length_map] at h1 h2
    omega
theorem sum_lens : ∀ us : List (List Nat), (us.map fun u => (u.length : Int)).sum = (((us.map List.length).sum : Nat) : Int)
  | [] => rfl
  | u :: r => by rw [List.map_cons, List.sum_cons, sum_lens r, List.map_cons, List.sum_cons]; omega
def spDue (K : PySem.W.Frag) : Sp := fun vs H Q _ => ∃ (fo : V) (ar : Addr) (fs : List Int) (ss : List Str), vs = [fo, .ref ar] ∧ Dp K H fo (.tuple (fs.map .int)) ∧ (2 ≤ fs.length ∧ fs.length ≤ 12 ∧ ∀ z ∈ fs, 0 ≤ z ∧ z ≤ 1000000) ∧ SqT K H ar (ss.map V.str) ∧ ss.length ≤ 78 ∧ (∀ s ∈ ss, (tl s).length ≤ 100 ∧ PyData.strOk s = true) ∧
  (∀ bs ws, IsPic fs ss bs ws → ∀ q H', Ext H H' → Dp K H' (.ref q) (.tuple [landD fs bs, planD ws]) → Q (.ref q) H') ∧ ((¬ ∃ bs ws, IsPic fs ss bs ws) → ∀ H', Ext H H' → Q .non H')
abbrev dueN : List Str := ["folk", "rows", "borders", "many", "row", "at", "spots", "letters", "letter", "k", "wards", "land", "ward"]
theorem sc_law_due : FnScope dueN ["folk", "rows"] (defScope st__law_due) := ⟨rfl, rfl, rfl, by decide +kernel, rfl, by decide +kernel, by decide +kernel⟩
abbrev scW : Scope := { kind := .function, names := [(".0", .local), ("letter", .cell), ("tuple", .globalImplicit), ("range", .globalImplicit), ("letters", .cell), ("many", .cell)], isGenerator := false, isCoroutine := false, more := [] }
theorem ok_law_due {f : Addr} {fd : FuncData} (F : Fun K "_law_due" "_law_due" st__law_due f fd) (B : Bl mg) (c2 : Cal P w K mg base 2 "_law_reached" ["land", "lot", "place"] (spLReached K)) (c3 : Cal P w K mg base 2 "_law_arcs" ["land", "plan"] (spLArcs K)) : FnOk P w K mg base CX0 3 f fd ["folk", "rows"] (spDue K) := by
  refine F.ok sc_law_due (fun vs H Q E h => ?_) (fun cdv A outer s H vs Q E hr h => ?_)
  · obtain ⟨fo, ar, fs, ss, rfl, _⟩ := h
    rfl
  · obtain ⟨fo, ar, fs, ss, rfl, hfo, ⟨hn2, hn12, hfk⟩, har, hsl, hss, k1, k2⟩ := h
    have nd := sc_law_due.nd
    have hu64 := Nat.lt_trans (Nat.lt_succ_self _) (u65 hr)
    refine ⟨_, pss_cons (ps_asg (pe_tup (pa_cons (pe_lst pa_nil) (pa_cons (pe_callB call_len (by rfl) B.len PySem.boot_len (pa_cons (pv 0) pa_nil)) pa_nil))) (pg_tup (by rfl) (pgs_cons (pg_name (i := 2) nd rfl (Or.inl rfl)) (pgs_cons (pg_name (i := 3) nd rfl (Or.inr rfl)) pgs_nil))))
      (pss_cons (ps_if (PW.pt (pw_or (pt_cmpR (op_eqD hr.units) (pv 1) (pe_tup pa_nil) (nomark _)) (pw_or1 (pt_cmpR (op_neD hr.units)
          (pe_lc (own := [("row", 4)]) (g := gName 4) (by rfl) nd (pi_tup (pv 1)) (blkOk_by (own := [("row", 4)]) (N := dueN) (sc := defScope st__law_due) (by decide +kernel))
            (fun _ _ _ _ _ => pg_name (i := 4) nd rfl (Or.inl rfl)) (fun _ _ _ _ _ => pts_one (pt_cmpR op_ne (pe_callB call_len_str (by rfl) B.len PySem.boot_len (pa_cons (pv 4) pa_nil)) (pe_op op_sub (pe_op op_mul pe_int (pv 3)) pe_int) (by rfl))) (fun _ _ _ _ _ => pv 4))
          (pe_lst pa_nil) (nomark _))))) (pss_one (ps_ret pe_non)) pss_nil)
      (pss_cons (ps_for PassesOwn.never rfl (pi_tup (pe_slice sl_tupA (pv 1) po_none (po_some (pe_un un_neg pe_int)))) (pg_name (i := 4) nd rfl (Or.inr rfl))
        (pss_cons (ps_setLc (i := 6) (own := [("at", 5)]) (g := gName 5) (by rfl) nd rfl rfl (sw_true rfl rfl rfl (by decide +kernel)) (pi_range1 rfl B.range (pa_cons (pe_callB call_len_str (by rfl) B.len PySem.boot_len (pa_cons (pv 4) pa_nil)) pa_nil)) (blkOk_by (own := [("at", 5)]) (N := dueN) (sc := defScope st__law_due) (by decide +kernel))
            (fun _ _ _ _ _ => pg_name (i := 5) nd rfl (Or.inl rfl)) (fun _ _ _ _ _ => pts_one (pt_cmpR op_eq (pe_ix ix_str (pv 4) (pv 5) (fun _ _ => rfl)) pe_str (by rfl))) (fun _ _ _ _ _ => pv 5))
        (pss_cons (ps_if (PW.pt (pw_or (pt_cmpR op_ne (pe_callB call_len (by rfl) B.len PySem.boot_len (pa_cons (pv 6) pa_nil)) pe_int (nomark _))
            (pw_or1 (pt_cmpR op_gt (pe_op op_add (pe_op op_mod (pe_ix ix_list (pv 6) pe_int (fun _ _ => rfl)) pe_int) (pe_op op_mod (pe_ix ix_list (pv 6) pe_int (fun _ _ => rfl)) pe_int)) pe_int (nomark _))))) (pss_one (ps_ret pe_non)) pss_nil)
        (pss_one (ps_expr (pe_bm PySem.F.plainAttrs_list PySem.F.slot_list_append PySem.F.type_list_append mt_append (pv 2) (pa_cons
            (pe_tup (pa_cons (pe_op op_fdiv (pe_ix ix_list (pv 6) pe_int (fun _ _ => rfl)) pe_int) (pa_cons (pe_op op_fdiv (pe_ix ix_list (pv 6) pe_int (fun _ _ => rfl)) pe_int) pa_nil))) pa_nil)))))))
      (pss_cons (ps_set (i := 7) nd rfl (Or.inr rfl) (Tu.pe_even (pe_ix ix_tup (pv 1) (pe_un un_neg pe_int) (fun _ _ => rfl))))
      (pss_cons (ps_setLc (i := 10) (own := [("letter", 8)]) (g := gName 8) (by rfl) nd rfl rfl (sw_true rfl rfl rfl (by decide +kernel)) (pi_str pe_str) (blkOk_by (own := [("letter", 8)]) (N := dueN) (sc := defScope st__law_due) (by decide +kernel))
          (fun _ _ _ _ _ => pg_name (i := 8) nd rfl (Or.inr rfl)) (fun _ _ _ _ _ => pts_one (pt_cmpR op_in_sign (pv 8) (pv 7) (by rfl)))
          (fun _ _ _ _ _ => pe_tupleOfK (K := K) rfl rfl B.tuple (pe_lc (own := [("k", 9)]) (g := gName 9) (by rfl) nd (pi_range1 rfl B.range (pa_cons (pv 3) pa_nil)) (blkOk_by (own := [("k", 9)]) (N := dueN) (sc := scW) (by decide +kernel))
            (fun _ _ _ _ _ => pg_name (i := 9) nd rfl (Or.inl rfl)) (fun _ _ _ _ _ => pts_one (pt_cmpR op_eq (pe_ix ix_str (pv 7) (pv 9) (fun _ _ => rfl)) (pv 8) (by rfl))) (fun _ _ _ _ _ => pv 9))))
      (pss_cons (ps_set (i := 11) nd rfl (Or.inr rfl) (pe_tup (pa_cons (pv 0) (pa_cons (pe_tupleOf rfl B.tuple (pv 2)) pa_nil))))
      (pss_cons (ps_if (PW.pt (pw_or (pt_cmpR (op_neD hr.units) (pv 2) (pe_callB cr_sortedPO (by rfl) B.sorted (by decide +kernel) (pa_cons (pv 2) pa_nil)) (nomark _))
          (pw_or1 (pt_cmpR op_ne (pe_callB call_len (by rfl) B.len PySem.boot_len (pa_cons (pv 2) pa_nil)) (pe_callB Tu.cr_lenD (by rfl) B.len PySem.boot_len (pa_cons (pe_callTy (Tu.cr_setD (Tu.pairs_dom _ _) (by rfl) hu64) rfl B.set (by decide +kernel) (pa_cons (pv 2) pa_nil)) pa_nil)) (nomark _))))) (pss_one (ps_ret pe_non)) pss_nil)
      (pss_cons (ps_if (PW.pt (pw_or (pt_cmpR (op_neD hr.units)
          (pe_lc (own := [("ward", 12)]) (g := gName 12) (by rfl) nd (pi_list (pv 10)) (blkOk_by (own := [("ward", 12)]) (N := dueN) (sc := defScope st__law_due) (by decide +kernel))
            (fun _ _ _ _ _ => pg_name (i := 12) nd rfl (Or.inl rfl)) (fun _ _ _ _ _ => pts_one (pt_cmpR (op_neDK (K := K) rfl hr.units) (pe_cal c2 hr rfl (pa_cons (pv 11) (pa_cons (pv 12) (pa_cons (pe_ix (ix_tupK (K := K) rfl) (pv 12) pe_int (fun _ _ => rfl)) pa_nil)))) (pv 12) (by rfl))) (fun _ _ _ _ _ => pv 12)) (pe_lst pa_nil) (nomark _))
          (pw_or (pt_cmpR (op_neD hr.units) (pe_callB (cr_sortDt hu64) (by rfl) B.sorted (by decide +kernel) (pa_cons (pv 10) pa_nil)) (pv 10) (nomark _))
          (pw_or1 (pt_cmpR op_ne (pe_callB (cr_sum rfl) (by rfl) B.sum (by decide +kernel) (pa_cons (pe_lc (own := [("ward", 12)]) (g := gName 12) (by rfl) nd (pi_list (pv 10)) (blkOk_by (own := [("ward", 12)]) (N := dueN) (sc := defScope st__law_due) (by decide +kernel))
            (fun _ _ _ _ _ => pg_name (i := 12) nd rfl (Or.inl rfl)) (fun _ _ _ _ _ => pts_nil) (fun _ _ _ _ _ => pe_callB (call_lenK (K := K) rfl) (by rfl) B.len PySem.boot_len (pa_cons (pv 12) pa_nil))) pa_nil)) (pv 3) (nomark _)))))) (pss_one (ps_ret pe_non)) pss_nil)
      (pss_one (ps_ret (pe_ifExp (pt_cmpR (op_eqD hr.units) (pe_cal c3 hr rfl (pa_cons (pv 11) (pa_cons (pe_tupleOf rfl B.tuple (pv 10)) pa_nil))) (pv 1) (nomark _)) (pe_tup (pa_cons (pv 11) (pa_cons (pe_tupleOf rfl B.tuple (pv 10)) pa_nil))) pe_non)))))))))), ?_⟩
    obtain ⟨af, rfl, hf⟩ := dp_ints hfo
    refine ⟨Nat.zero_le _, fun ql hql => ⟨_, rfl, _, fs.length, rfl, .inr ⟨_, (Ext.new hql).sqT hf, by simp⟩, by show 2 ≤ sizeLine; decide, fun t0 ht0 => ⟨t0, _, rfl, SqT.of upd_same, rfl, ?_⟩⟩⟩
    dsimp only [gName, tSeq, List.set, L2.start, List.map, List.length, List.replicate, List.append]
    refine ⟨_, _, rfl, _, _, rfl, rfl, ?_⟩
    have x0 : Ext H (upd (upd H ql (.lst [])) t0 (.tup [.ref ql, .int (fs.length : Int)])) := (Ext.new hql).trans (.new ht0)
    have eq0 : (upd (upd H ql (.lst [])) t0 (.tup [.ref ql, .int (fs.length : Int)])) ql = some (.lst []) := (Ext.new ht0).lst upd_same
    generalize upd (upd H ql (.lst [])) t0 (.tup [.ref ql, .int (fs.length : Int)]) = H0 at x0 eq0 ⊢
    clear ht0
    dsimp only [gName, tSeq, List.set]
    have har0 := x0.sqT har
    have shS : SeqAt.shaped (.tuple (ss.map .str)) = true := (sh_strs fun s hs => (hss s hs).2).shaped (by decide)
    -- rows == ()
    refine ⟨_, rfl, by show 0 ≤ sizeLine; exact Nat.zero_le _, fun te hte => ?_⟩
    have x1 := x0.trans (Ext.new (o := .tup []) hte)
    have eq1 := (Ext.new (o := .tup []) hte).lst eq0
    refine ⟨.tuple (ss.map .str), .tuple [], .tup (x1.sqT har) (dpAll_strs ss), .tup (SqT.of upd_same) .nil, shS, by decide, _, rfl, ?_⟩
    generalize upd H0 te (.tup []) = H1 at x1 eq1 ⊢
    clear hte eq0 x0 har0
    by_cases hne : ss = []
    · have kk := k2 fun ⟨bs, ws, _, _, e⟩ => by
        have := (arcs_split (n := fs.length) (own := ownOf ws) (bs := bs)).2
        rw [← e, hne] at this
        cases this
      subst hne
      exact iteT (kk _ x1)
    have e0 : PyData.eqv (.tuple (ss.map .str)) (.tuple []) = false := by
      cases ss with
      | nil => exact absurd rfl hne
      | cons _ _ => rfl
    rw [e0]
    refine iteF ?_
    -- the rows' lengths
    refine ⟨_, rfl, ar, rfl, ⟨_, x1.sqT har⟩, fun D hD => ?_⟩
    refine lc_tup (K := K) (a := ar) (xs := ss.map V.str) (fun i H2 => H2 D = some (.lst (((ss.take i).filter fun s => !decide ((tl s).length = 2 * fs.length - 1)).map V.str)) ∧ Ext H1 H2) ⟨upd_same, .new hD⟩ (fun i H2 _ ⟨_, x2⟩ => (x1.trans x2).sqT har) (fun i y H2 hy ⟨e2, x2⟩ => ?_) (fun H2 ⟨e2, x2⟩ => ?_)
    · rw [List.getElem?_map, Option.map_eq_some_iff] at hy
      obtain ⟨s, hs, rfl⟩ := hy
      have hi := (List.getElem?_eq_some_iff.mp hs).1
      have hsb := (hss s (List.mem_of_getElem? hs)).1
      have zl := str_len s
      have hfl := List.length_filter_le (fun s => !decide ((tl s).length = 2 * fs.length - 1)) (ss.take i)
      rw [List.length_take] at hfl
      refine ⟨rfl, _, rfl, _, rfl, by rw [zl, sizeLine_eq]; omega, _, rfl, _, _, rfl, rfl, .inl ⟨by decide, by decide⟩, _, _, rfl, rfl, rfl, _, rfl, ?_⟩
      have e : decide (V.int (s.length : Int) = V.int (2 * (fs.length : Int) - 1)) = decide ((tl s).length = 2 * fs.length - 1) := by
        rw [zl]
        apply decide_eq_decide.mpr
        constructor
        · intro h
          injection h with h
          omega
        · intro h
          congr 1
          omega
      rw [e]
      have etk : (ss.take (i + 1)).filter (fun s => !decide ((tl s).length = 2 * fs.length - 1)) = (ss.take i).filter (fun s => !decide ((tl s).length = 2 * fs.length - 1)) ++ (if (!decide ((tl s).length = 2 * fs.length - 1)) = true then [s] else []) := by
        rw [List.take_add_one, hs, List.filter_append]
        congr 1
        by_cases z : (!decide ((tl s).length = 2 * fs.length - 1)) = true
        · rw [if_pos z]
          exact List.filter_cons_of_pos z
        · rw [if_neg z]
          exact List.filter_cons_of_neg z
      rw [etk]
      refine ite2 (fun z => ?_) (fun z => ?_)
      · rw [if_pos z]
        refine ⟨_, rfl, _, e2, by rw [List.length_map]; exact small1000 (by omega), ?_, x2.write hD⟩
        rw [upd_same, List.map_append]
        rfl
      · rw [if_neg z, List.append_nil]
        exact ⟨e2, x2⟩
    rw [List.length_map, List.take_length] at e2
    have eq2 := x2.lst eq1
    refine ⟨Nat.zero_le _, fun te2 hte2 => ?_⟩
    have x3 := (x1.trans x2).trans (Ext.new (o := .lst []) hte2)
    have eq3 := (Ext.new (o := .lst []) hte2).lst eq2
    have shB : ∀ l : List Str, (∀ s ∈ l, s ∈ ss) → SeqAt.shaped (.list (l.map .str)) = true := fun l hl => (Sh.lst (n := 1) fun d hd => by
      obtain ⟨s, hs, rfl⟩ := List.mem_map.mp hd
      exact ⟨by simp [PyData.canLay0, (hss s (hl s hs)).2], by simp [PyData.depth]⟩).shaped (by decide)
    refine ⟨.list ((ss.filter fun s => !decide ((tl s).length = 2 * fs.length - 1)).map .str), .list [], .lst (SqL.of ((Ext.new hte2).lst e2)) (dpAll_strs _), .lst (SqL.of upd_same) .nil, shB _ (fun s hs => (List.mem_filter.mp hs).1), by decide, _, rfl, ?_⟩
    generalize upd H2 te2 (.lst []) = H3 at x3 eq3 ⊢
    clear hte2 e2 x2 hD x1 eq1 eq2
    cases eb : ss.filter fun s => !decide ((tl s).length = 2 * fs.length - 1) with
    | cons s r =>
      have hs : s ∈ ss.filter fun s => !decide ((tl s).length = 2 * fs.length - 1) := by rw [eb]; exact List.mem_cons_self
      have hs2 := (List.mem_filter.mp hs)
      have kk := k2 fun ⟨bs, ws, _, _, e⟩ => by
        have hr := arcs_rows (n := fs.length) (own := ownOf ws) (bs := bs) (by omega)
        rw [← e] at hr
        unfold rowsB at hr
        rw [Bool.and_eq_true, List.all_eq_true] at hr
        have := hr.2 s hs2.1
        have h2 := hs2.2
        rw [this] at h2
        cases h2
      exact iteT (kk _ x3)
    | nil =>
    refine iteF ?_
    have hlen : ∀ s ∈ ss, (tl s).length = 2 * fs.length - 1 := fun s hs => Classical.byContradiction fun c => by
      have : s ∈ ss.filter fun s => !decide ((tl s).length = 2 * fs.length - 1) := List.mem_filter.mpr ⟨hs, by rw [decide_eq_false c]; rfl⟩
      rw [eb] at this
      cases this
    clear eb
    obtain ⟨last, hlast, hcat⟩ : ∃ last, ss.getLast? = some last ∧ ss.dropLast ++ [last] = ss := ⟨_, List.getLast?_eq_some_getLast hne, List.dropLast_concat_getLast hne⟩
    have hlm : last ∈ ss := List.mem_of_getLast? hlast
    have lastI : atI (ss.map V.str) (-1) = some (.str last) := by
      rw [← hcat, List.map_append]
      exact atI_last _ _
    have plus : ("+" : Str) = ⟨#[43]⟩ := ext_tl (by decide +kernel)
    have hG : ∀ bs ws, IsPic fs ss bs ws → (∀ s ∈ ss.dropLast, okS s) ∧ ss.dropLast.map prS = bs ∧ wsL last = ws := fun bs ws ⟨ok, PO, e⟩ => by
      obtain ⟨e1, e2⟩ := arcs_split (n := fs.length) (own := ownOf ws) (bs := bs)
      rw [← e] at e1 e2
      rw [hlast] at e2
      refine ⟨fun s hs => ?_, ?_, ?_⟩
      · rw [e1] at hs
        obtain ⟨b, hb, rfl⟩ := List.mem_map.mp hs
        exact (arc_okS (ok.bord b hb).1 (ok.bord b hb).2).1
      · rw [e1, List.map_map]
        exact (List.map_congr_left fun b hb => (arc_okS (own := ownOf ws) (ok.bord b hb).1 (ok.bord b hb).2).2).trans (List.map_id _)
      · rw [Option.some.inj e2]
        exact wsL_row PO (by omega)
    have hdl : ss.dropLast.length ≤ 77 := by rw [List.length_dropLast]; omega
    -- the borders
    refine ⟨_, rfl, _, rfl, _, rfl, rSl_init (x3.sqT har) (fun e => hne (List.map_eq_nil_iff.mp e)) fun p1 H4 x4 hp1 => ?_⟩
    rw [← List.map_dropLast] at hp1
    have x34 := x3.trans x4
    have eq4 := x4.lst eq3
    refine ⟨p1, rfl, ⟨_, hp1⟩, for_tup (K := K) (a := p1) (xs := ss.dropLast.map V.str) (fun i σ H5 => ∃ (o4 o6 : Option V) (as : List V), σ = [some (.ref af), some (.ref ar), some (.ref ql), some (.int (fs.length : Int)), o4, none, o6, none, none, none, none, none, none] ∧ Ext H H5 ∧ SqT K H5 p1 (ss.dropLast.map V.str) ∧ H5 ql = some (.lst as) ∧ Pa H5 as ((ss.dropLast.take i).map prS) ∧ ∀ s ∈ ss.dropLast.take i, okS s)
      ⟨_, _, [], rfl, x34, hp1, eq4, by rw [List.take_zero]; exact .nil, fun s hs => by rw [List.take_zero] at hs; cases hs⟩ (fun i σ H5 _ ⟨_, _, _, _, _, h, _⟩ => h) ?_ ?_⟩
    · rintro i y σ H5 hy ⟨o4, o6, as, rfl, x5, hp5, eq5, hP, hok⟩
      rw [List.getElem?_map, Option.map_eq_some_iff] at hy
      obtain ⟨s, hs, rfl⟩ := hy
      have hi := (List.getElem?_eq_some_iff.mp hs).1
      have hsm : s ∈ ss.dropLast := List.mem_of_getElem? hs
      have hsl' := hlen s (List.dropLast_subset _ hsm)
      have zl := str_len s
      have hal := hP.len
      rw [List.length_map, List.length_take] at hal
      dsimp only [gName, tSeq, List.set]
      refine ⟨_, rfl, _, rfl, by rw [zl, sizeLine_eq]; omega, _, rfl, by omega, by omega, fun D hD => ?_⟩
      refine lc_range (lo := 0) (n := ((s.length : Nat) : Int).toNat) (fun j H6 => H6 D = some (.lst (vsN ((List.range j).filter fun q => decide ((tl s)[q]? = some 43)))) ∧ Ext H5 H6) ⟨upd_same, .new hD⟩ (fun j H6 hj ⟨e6, x6⟩ => ?_) fun H6 ⟨e6, x6⟩ => ?_
      · rw [Int.toNat_natCast, zl] at hj
        rw [Int.zero_add]
        have hg : (tl s)[j]? = some (tl s)[j] := List.getElem?_eq_getElem hj
        have hfl := List.length_filter_le (fun q => decide ((tl s)[q]? = some 43)) (List.range j)
        rw [List.length_range] at hfl
        refine ⟨rfl, _, rfl, _, rfl, _, _, (tl s)[j], rfl, rfl, by rw [zl, sizeLine_eq]; omega, atI_nat hg, rfl, _, rfl, ?_⟩
        have e : decide (V.str ⟨#[(tl s)[j]]⟩ = V.str "+") = decide ((tl s)[j]? = some 43) := by
          rw [plus, hg]
          apply decide_eq_decide.mpr
          constructor
          · intro h
            injection h with h
            injection h with h
            have := congrArg Array.toList h
            exact congrArg some (List.head_eq_of_cons_eq this)
          · intro h
            rw [Option.some.inj h]
        rw [e, List.range_succ, filt_snoc]
        refine ite2 (fun z => ?_) (fun z => ?_)
        · rw [if_pos z]
          refine ⟨_, rfl, _, e6, by rw [vsN_len0]; exact small1000 (by omega), ?_, x6.write hD⟩
          rw [upd_same]
          show _ = some (HO.lst (List.map _ (_ ++ _)))
          rw [List.map_append]
          rfl
        · rw [if_neg z, List.append_nil]
          exact ⟨e6, x6⟩
      rw [Int.toNat_natCast, zl] at e6
      have e6 : H6 D = some (.lst (vsN (spots s))) := e6
      dsimp only [gName, tSeq, List.set]
      have noG : ¬ okS s → ∀ H', Ext H H' → Q .non H' := fun c => k2 fun ⟨bs, ws, h⟩ => c ((hG bs ws h).1 s hsm)
      refine ⟨_, rfl, _, (spots s).length, rfl, .inl ⟨_, SqL.of e6, by rw [vsN_len0]⟩, rfl, _, rfl, ?_⟩
      have e1 : (!decide (V.int ((spots s).length : Int) = V.int 2)) = !decide ((spots s).length = 2) := by
        congr 1
        apply decide_eq_decide.mpr
        constructor
        · intro h
          injection h with h
          omega
        · intro h
          rw [h]
          rfl
      rw [e1]
      by_cases c1 : ¬ (spots s).length = 2
      · rw [decide_eq_false c1]
        exact iteT (noG (fun h => c1 h.1) _ (x5.trans x6))
      have c1 := Classical.not_not.mp c1
      rw [decide_eq_true c1]
      refine iteF ?_
      have g0 : (vsN (spots s))[0]? = some (.int (((spots s).getD 0 0 : Nat) : Int)) := by
        rw [vsN_at (show 0 < (spots s).length by omega), List.getD_eq_getElem?_getD, List.getElem?_eq_getElem (show 0 < (spots s).length by omega)]
        rfl
      have g1 : (vsN (spots s))[1]? = some (.int (((spots s).getD 1 0 : Nat) : Int)) := by
        rw [vsN_at (show 1 < (spots s).length by omega), List.getD_eq_getElem?_getD, List.getElem?_eq_getElem (show 1 < (spots s).length by omega)]
        rfl
      refine ⟨_, rfl, D, _, _, _, rfl, rfl, SqL.of e6, atI_nat (j := 0) g0, _, _, rfl, rfl, by show (0 : Int) < 2; decide, _, rfl, D, _, _, _, rfl, rfl, SqL.of e6, atI_nat (j := 1) g1, _, _, rfl, rfl, by show (0 : Int) < 2; decide, _, _, rfl, rfl, _, _, rfl, rfl, _, rfl, ?_⟩
      by_cases c2 : ¬ okS s
      · have hp : 0 < (spots s).getD 0 0 % 2 + (spots s).getD 1 0 % 2 := by
          by_cases z : (spots s).getD 0 0 % 2 + (spots s).getD 1 0 % 2 = 0
          · exact absurd ⟨c1, z⟩ c2
          · omega
        have e2 : decide ((0 : Int) < (((spots s).getD 0 0 : Nat) : Int) % 2 + (((spots s).getD 1 0 : Nat) : Int) % 2) = true := decide_eq_true (by omega)
        rw [e2]
        exact iteT (noG c2 _ (x5.trans x6))
      have c2 := Classical.not_not.mp c2
      have e2 : decide ((0 : Int) < (((spots s).getD 0 0 : Nat) : Int) % 2 + (((spots s).getD 1 0 : Nat) : Int) % 2) = false := decide_eq_false (by have := c2.2; omega)
      rw [e2]
      refine iteF ?_
      have eq6 := x6.lst eq5
      have hql5 : H ql = none := hql
      refine ⟨_, rfl, .inl ⟨rfl, _, SqL.of eq6⟩, _, rfl, D, _, _, _, rfl, rfl, SqL.of e6, atI_nat (j := 0) g0, _, _, rfl, rfl, ⟨by decide, by decide⟩, _, rfl, D, _, _, _, rfl, rfl, SqL.of e6, atI_nat (j := 1) g1, _, _, rfl, rfl, ⟨by decide, by decide⟩, by show 2 ≤ sizeLine; decide, fun t ht => ?_⟩
      have x7 := Ext.new (o := .tup [.int ((((spots s).getD 0 0 : Nat) : Int) / 2), .int ((((spots s).getD 1 0 : Nat) : Int) / 2)]) ht
      refine ⟨ql, _, _, rfl, rfl, x7.lst eq6, small1000 (by omega), ?_⟩
      have htq : t ≠ ql := (ne_of_none (x7.lst eq6 |> fun _ => eq6) ht).symm
      have x57 := ((x5.trans x6).trans x7)
      have hpq : ∀ {a : Addr} {xs : List V} {Hx : Hp}, Hx ql = some (.lst as) → Hx a = some (.tup xs) → a ≠ ql := fun h1 h2 e => by rw [e, h1] at h2; cases h2
      refine ⟨_, _, _, rfl, x57.write hql5, ?_, upd_same, ?_, fun s' hs' => ?_⟩
      · have xs5 : ExtS [ql] H5 (upd (upd H6 t (.tup [.int ((((spots s).getD 0 0 : Nat) : Int) / 2), .int ((((spots s).getD 1 0 : Nat) : Int) / 2)])) ql (.lst (as ++ [.ref t]))) := (ExtS.of (x6.trans x7)).write (.inr ⟨by simp, _, eq5⟩)
        exact xs5.sqT hp5
      · rw [List.take_add_one, hs, List.map_append]
        refine Pa.snoc (hP.mono fun t' xs' h' => ?_) ?_
        · have h7 := (x6.trans x7).tup h'
          rw [upd_ne (hpq (x7.lst eq6) h7)]
          exact h7
        · rw [upd_ne htq, upd_same]
          show some (HO.tup [V.int ((((spots s).getD 0 0 : Nat) : Int) / 2), V.int ((((spots s).getD 1 0 : Nat) : Int) / 2)]) = some (HO.tup [V.int (((spots s).getD 0 0 / 2 : Nat) : Int), V.int (((spots s).getD 1 0 / 2 : Nat) : Int)])
          rw [Int.natCast_ediv, Int.natCast_ediv]
          rfl
      · rw [List.take_add_one, hs] at hs'
        rcases List.mem_append.mp hs' with z | z
        · exact hok s' z
        · have : s' = s := by simpa using z
          rw [this]
          exact c2
    · rintro σ H5 ⟨o4, o6, as, rfl, x5, hp5, eq5, hP, hok⟩
      rw [List.length_map, List.take_length] at hP hok
      clear hp5 hp1 x4 eq4 x34 x3 eq3
      have har5 := x5.sqT har
      dsimp only [gName, tSeq, List.set]
      have lastl := hlen last hlm
      have zl := str_len last
      refine ⟨_, rfl, _, rfl, ar, _, _, _, rfl, rfl, har5, lastI, last, rfl, by rw [zl]; omega, ?_⟩
      dsimp only [gName, tSeq, List.set]
      -- wards
      have lc12 : ("abcdefghijkl" : Str).cps.size = 12 := by decide +kernel
      have evl : (tl (Tu.evenS last)).length = fs.length := by
        rw [tl_even, List.length_map, List.length_range]
        omega
      have evl2 := str_len (Tu.evenS last)
      refine ⟨_, rfl, fun D hD => ?_⟩
      refine lc_it walk_str (fun i H8 => ∃ ws : List V, H8 D = some (.lst ws) ∧ DpAll K H8 ws ((((List.range i).filter fun k => !(placesOf (97 + k) last).isEmpty).map fun k => placesOf (97 + k) last).map lotD) ∧ Ext H5 H8) ⟨[], upd_same, .nil, .new hD⟩ (fun _ _ _ _ => trivial) (fun i x H8 H8' hi ⟨ws, e8, hd8, x8⟩ hy => ?_) (fun H8 ⟨ws, e8, hd8, x8⟩ => ?_)
      · obtain ⟨rfl, cc, hcc, rfl⟩ := hy
        rw [lc12] at hi
        have ecc : cc = 97 + i := by
          have h1 := let_at hi
          have h2 : ("abcdefghijkl" : Str).cps.toList[i]? = some cc := by simpa using hcc
          rw [h1] at h2
          exact (Option.some.inj h2).symm
        subst ecc
        have hal8 := dpAll_len hd8
        rw [List.length_map, List.length_map] at hal8
        have hfl := List.length_filter_le (fun k => !(placesOf (97 + k) last).isEmpty) (List.range i)
        rw [List.length_range] at hfl
        refine ⟨rfl, _, rfl, _, rfl, _, Tu.evenS last, rfl, rfl, _, rfl, ?_⟩
        have el := even_letter (k := i) lastl (by omega)
        have filt := filt_snoc (fun k => !(placesOf (97 + k) last).isEmpty) (List.range i) i
        rw [List.range_succ, filt]
        show if decide ((97 + i) ∈ tl (Tu.evenS last)) = true then _ else _
        rw [el]
        refine ite2 (fun z => ?_) (fun z => ?_)
        · rw [if_pos z]
          refine ⟨_, rfl, _, rfl, by omega, by omega, fun D2 hD2 => ?_⟩
          refine lc_range (lo := 0) (n := (fs.length : Int).toNat) (fun j H9 => H9 D2 = some (.lst (vsN ((List.range j).filter (atP (97 + i) last)))) ∧ Ext H8' H9) ⟨upd_same, .new hD2⟩ (fun j H9 hj ⟨e9, x9⟩ => ?_) fun H9 ⟨e9, x9⟩ => ?_
          · rw [Int.toNat_natCast] at hj
            rw [Int.zero_add]
            have hfl2 := List.length_filter_le (atP (97 + i) last) (List.range j)
            rw [List.length_range] at hfl2
            refine ⟨rfl, _, rfl, _, rfl, _, _, (tl last).getD (2 * j) 0, rfl, rfl, by rw [evl2, sizeLine_eq]; omega, atI_nat (even_get lastl hj), _, rfl, rfl, _, rfl, ?_⟩
            have e : decide (V.str ⟨#[(tl last).getD (2 * j) 0]⟩ = V.str ⟨#[97 + i]⟩) = atP (97 + i) last j := by
              rw [Bool.eq_iff_iff, decide_eq_true_eq, ← even_code lastl hj]
              constructor
              · intro h
                injection h with h
                injection h with h
                have := congrArg Array.toList h
                exact List.head_eq_of_cons_eq this
              · intro h
                rw [h]
            rw [e, List.range_succ, filt_snoc]
            refine ite2 (fun z => ?_) (fun z => ?_)
            · rw [if_pos z]
              refine ⟨_, rfl, _, e9, by rw [vsN_len0]; exact small1000 (by omega), ?_, x9.write hD2⟩
              rw [upd_same]
              show _ = some (HO.lst (List.map _ (_ ++ _)))
              rw [List.map_append]
              rfl
            · rw [if_neg z, List.append_nil]
              exact ⟨e9, x9⟩
          rw [Int.toNat_natCast] at e9
          have ep : (List.range fs.length).filter (atP (97 + i) last) = placesOf (97 + i) last := by
            unfold placesOf
            rw [show ((tl last).length + 1) / 2 = fs.length from by omega]
          rw [ep] at e9
          refine .inl ⟨D2, _, rfl, SqL.of e9, fun q hq => ?_⟩
          have x10 := x9.trans (Ext.new (o := .tup (vsN (placesOf (97 + i) last))) hq)
          have e10 := x10.lst e8
          refine ⟨ws, e10, small1000 (by omega), ws ++ [.ref q], upd_same, ?_, (x8.trans x10).write hD⟩
          have xs : ExtS [D] (upd H9 q (.tup (vsN (placesOf (97 + i) last)))) (upd (upd H9 q (.tup (vsN (placesOf (97 + i) last)))) D (.lst (ws ++ [.ref q]))) := (ExtS.refl [D] _).write (.inr ⟨by simp, _, e10⟩)
          have nl : ∀ u : List Nat, noL (lotD u) = true := fun u => noLs_map _ (fun _ => rfl) u
          rw [List.map_append, List.map_append]
          exact dpAll_app (dpAll_extS xs (noLs_map _ nl _) (dpAll_ext x10 hd8)) (.cons (dp_extS xs (nl _) (.tup (SqT.of upd_same) (dpAll_lot _))) .nil)
        · rw [if_neg z, List.append_nil]
          exact ⟨ws, e8, hd8, x8⟩
      rw [lc12] at hd8
      have hd8 : DpAll K H8 ws ((wsL last).map lotD) := hd8
      have x08 := x5.trans x8
      have eq8 := x8.lst eq5
      have P8 : Pa H8 as (ss.dropLast.map prS) := hP.mono (fun t xs h => x8.tup h)
      have hbl : ∀ b ∈ ss.dropLast.map prS, b.1 < b.2 ∧ b.2 < fs.length := fun b hb => by
        obtain ⟨s, hs, rfl⟩ := List.mem_map.mp hb
        exact prS_ok (hlen s (List.dropLast_subset _ hs)) (hok s hs)
      have hbll : (ss.dropLast.map prS).length ≤ 77 := by rw [List.length_map]; exact hdl
      have hGb : ∀ bs ws, IsPic fs ss bs ws → ss.dropLast.map prS = bs ∧ wsL last = ws := fun bs ws h => (hG bs ws h).2
      have lots := wsL_lot lastl
      have hul := wsL_len last
      generalize hus : wsL last = us at hd8 hGb lots hul
      generalize hbs : ss.dropLast.map prS = bl at P8 hbl hbll hGb
      clear hP hok x5 eq5 har5 x8 hD
      dsimp only [gName, tSeq, List.set]
      -- the land
      refine ⟨_, rfl, _, rfl, .inl ⟨ql, _, rfl, SqL.of eq8, fun qb hqb => ⟨by show 2 ≤ sizeLine; decide, fun al hal => ?_⟩⟩⟩
      have x89 : Ext H8 (upd (upd H8 qb (.tup as)) al (.tup [.ref af, .ref qb])) := (Ext.new hqb).trans (.new hal)
      have hland : Dp K (upd (upd H8 qb (.tup as)) al (.tup [.ref af, .ref qb])) (.ref al) (landD fs bl) := dp_new hal (.cons (dp_ext (x08.trans (.new hqb)) hfo) (.cons (dp_new hqb P8.dp) .nil))
      have x09 := x08.trans x89
      have eq9 := x89.lst eq8
      have P9 : Pa _ as bl := P8.mono (fun t xs h => x89.tup h)
      have e9 := x89.lst e8
      have hd9 := dpAll_ext x89 hd8
      clear hqb hal x89 eq8 P8 e8 hd8 x08
      generalize upd (upd H8 qb (.tup as)) al (.tup [.ref af, .ref qb]) = H9 at hland x09 eq9 P9 e9 hd9 ⊢
      dsimp only [gName, tSeq, List.set]
      have hal := P9.len
      refine ⟨_, rfl, _, rfl, ql, as, kOf H9, rfl, SqL.of eq9, fun x hx => ?_, fun ys p hsrt hstb hp => ?_⟩
      · obtain ⟨t, pp, h1, _, h3⟩ := P9.mem hx
        refine ⟨t, h1, ?_⟩
        rw [h1, h3]
        show _ = some (HO.tup [.int (match H9 t with
          | some (.tup [.int i, .int j]) => (i, j)
          | _ => (0, 0)).1, .int (match H9 t with
          | some (.tup [.int i, .int j]) => (i, j)
          | _ => (0, 0)).2])
        rw [h3]
      obtain ⟨cs, hPc, hpc⟩ := P9.perm hstb.perm.symm
      have x910 := Ext.new (o := .lst ys) hp
      have shP : ∀ l : List (Nat × Nat), SeqAt.shaped (.list (l.map fun (b : Nat × Nat) => PyData.tuple [.int (b.1 : Int), .int (b.2 : Int)])) = true := fun l => (Sh.lst (n := 2) fun d hd => by
        obtain ⟨b, _, rfl⟩ := List.mem_map.mp hd
        exact sh_pair 0 _ _).shaped (by decide)
      refine ⟨.list (bl.map fun (b : Nat × Nat) => PyData.tuple [.int (b.1 : Int), .int (b.2 : Int)]), .list (cs.map fun (b : Nat × Nat) => PyData.tuple [.int (b.1 : Int), .int (b.2 : Int)]), .lst (SqL.of (x910.lst eq9)) (dpAll_ext x910 P9.dp), .lst (SqL.of upd_same) (dpAll_ext x910 hPc.dp), shP _, shP _, _, rfl, ?_⟩
      rw [show PyData.eqv (.list (bl.map fun (b : Nat × Nat) => PyData.tuple [.int (b.1 : Int), .int (b.2 : Int)])) (.list (cs.map fun (b : Nat × Nat) => PyData.tuple [.int (b.1 : Int), .int (b.2 : Int)])) = decide (bl = cs) from by rw [PyData.eqv, eqvAll_pairs]]
      have x010 := x09.trans x910
      have ltu : ∀ a b : Nat × Nat, ltP a b → ltP b a → False := fun a b h1 h2 => by unfold ltP at h1 h2; omega
      have ltn : ∀ l : List (Nat × Nat), l.Pairwise ltP → l.Nodup := fun l h => h.imp fun {a b} h e => by rw [e] at h; unfold ltP at h; omega
      by_cases ec : ¬ bl = cs
      · rw [decide_eq_false ec]
        refine iteT (k2 (fun ⟨bs, ws', h⟩ => ?_) _ x010)
        have hb := (hGb bs ws' h).1
        have hasc := h.1.asc
        rw [← hb] at hasc
        exact ec (perm_uniq ltu hpc hasc (hPc.asc hsrt (hpc.nodup_iff.mp (ltn _ hasc))))
      have ec := Classical.not_not.mp ec
      rw [decide_eq_true ec]
      refine iteF ?_
      have eq10 := x910.lst eq9
      have P10 : Pa _ as bl := P9.mono (fun t xs h => x910.tup h)
      refine ⟨_, rfl, _, as.length, rfl, .inl ⟨_, SqL.of eq10, rfl⟩, _, rfl, ?_⟩
      dsimp only [tNil]
      refine set_len (P := P) (w := w) (SqL.of eq10) P10 (fun b hb => ⟨(hbl b hb).1, by have := (hbl b hb).2; omega⟩) fun a L ha hm1 hm2 => ?_
      refine ⟨a, L, rfl, upd_same, rfl, _, rfl, ?_⟩
      have x1011 := Ext.new (o := Tu.SetO P w a L) ha
      generalize hm : L.length = m at hm1 hm2 ⊢
      generalize upd (upd H9 p (.lst ys)) a (Tu.SetO P w a L) = H11 at x1011 ⊢
      have x011 := x010.trans x1011
      have e1 : (!decide (V.int (as.length : Int) = V.int (m : Int))) = !decide (as.length = m) := by
        congr 1
        apply decide_eq_decide.mpr
        constructor
        · intro h
          injection h with h
          omega
        · intro h
          rw [h]
      rw [e1]
      by_cases el : ¬ as.length = m
      · rw [decide_eq_false el]
        refine iteT (k2 (fun ⟨bs, ws', h⟩ => ?_) _ x011)
        have hb := (hGb bs ws' h).1
        have hasc := h.1.asc
        rw [← hb] at hasc
        have := hm2 (ltn _ hasc)
        omega
      have el := Classical.not_not.mp el
      rw [decide_eq_true el]
      refine iteF ?_
      have hbn : bl.Nodup := hm1 (by omega)
      have hasc : bl.Pairwise ltP := by
        rw [ec]
        exact hPc.asc hsrt (hpc.nodup_iff.mp hbn)
      have okL : LandOk fs bl := ⟨hn2, hn12, hfk, hbl, hasc⟩
      have hland11 := dp_ext (x910.trans x1011) hland
      have e11 := (x910.trans x1011).lst e9
      have hd11 := dpAll_ext (x910.trans x1011) hd9
      clear hbn hm1 hm2 e1 el P10 eq10 P9 eq9 e9 hd9 hland hPc hpc hsrt hstb x1011 x910 x010
      have hxl := dpAll_len hd11
      rw [List.length_map] at hxl
      have nl : ∀ u : List Nat, noL (lotD u) = true := fun u => noLs_map _ (fun _ => rfl) u
      have shL : ∀ l : List (List Nat), SeqAt.shaped (.list (l.map lotD)) = true := fun l => (Sh.lst (n := 2) fun d hd => by
        obtain ⟨u, _, rfl⟩ := List.mem_map.mp hd
        exact sh_lot 0 u).shaped (by decide)
      -- each ward hangs together
      refine ⟨_, rfl, D, rfl, ⟨_, SqL.of e11⟩, fun D3 hD3 => ?_⟩
      refine lc_list (K := K) (a := D) (xs := ws) (fun i H13 => ∃ as' : List V, H13 D3 = some (.lst as') ∧ DpAll K H13 as' (((us.take i).filter fun u => !hangB bl u).map lotD) ∧ Ext H11 H13) ⟨[], upd_same, by rw [List.take_zero]; exact .nil, .new hD3⟩ (fun i H13 _ ⟨_, _, _, x13⟩ => SqL.of (x13.lst e11)) (fun i y H13 hy ⟨as', e13, hd13, x13⟩ => ?_) (fun H13 ⟨as', e13, hd13, x13⟩ => ?_)
      · have hi : i < us.length := by
          have := (List.getElem?_eq_some_iff.mp hy).1
          omega
        obtain ⟨dy, hdy, hpy⟩ := dpAll_get' hd11 hy
        rw [List.getElem?_map, List.getElem?_eq_getElem hi] at hdy
        have hdy := (Option.some.inj hdy).symm
        subst hdy
        have lo := lots _ (List.getElem_mem hi)
        have hal13 := dpAll_len hd13
        rw [List.length_map] at hal13
        have hfl := List.length_filter_le (fun u => !hangB bl u) (us.take i)
        rw [List.length_take] at hfl
        have etk : (us.take (i + 1)).filter (fun u => !hangB bl u) = (us.take i).filter (fun u => !hangB bl u) ++ (if (!hangB bl us[i]) = true then [us[i]] else []) := by
          rw [List.take_add_one, List.getElem?_eq_getElem hi, List.filter_append]
          congr 1
          by_cases z : (!hangB bl us[i]) = true
          · rw [if_pos z]
            exact List.filter_cons_of_pos z
          · rw [if_neg z]
            exact List.filter_cons_of_neg z
        rw [etk]
        generalize us[i] = u at *
        obtain ⟨aw, rfl, hsw⟩ := dp_lot hpy
        obtain ⟨hd0, hm0⟩ : (vsN u)[0]? = some (.int ((u.headD 0 : Nat) : Int)) ∧ u.headD 0 ∈ u := by
          cases u with
          | nil => exact absurd rfl lo.ne
          | cons q r => exact ⟨rfl, List.mem_cons_self⟩
        refine ⟨rfl, _, rfl, _, rfl, _, rfl, aw, _, _, _, rfl, rfl, x13.sqT hsw, atI_nat (j := 0) hd0, .ref al, aw, fs, bl, u, u.headD 0, rfl, dp_ext x13 hland11, hn12, okL.bord, x13.sqT hsw, lo.lt, hm0, fun q H14 r x14 _ hq hpart => ?_⟩
        have x1314 := x13.trans x14
        refine ⟨_, rfl, lotD r, lotD u, .tup (SqT.of hq) (dpAll_lot r), dp_ext x1314 hpy, (sh_lot 0 r).shaped (by decide), (sh_lot 0 u).shaped (by decide), _, rfl, ?_⟩
        have hb : PyData.eqv (lotD r) (lotD u) = hangB bl u := by
          rw [eqv_lots, Bool.eq_iff_iff, decide_eq_true_eq, hangB_iff]
          exact part_hangs lo.asc hm0 hpart
        rw [hb]
        refine ite2 (fun z => ?_) (fun z => ?_)
        · rw [if_pos z]
          have e14 := x14.lst e13
          refine ⟨_, rfl, as', e14, small1000 (by omega), as' ++ [.ref aw], upd_same, ?_, x1314.write hD3⟩
          have xs : ExtS [D3] H14 (upd H14 D3 (.lst (as' ++ [.ref aw]))) := (ExtS.refl [D3] _).write (.inr ⟨by simp, _, e14⟩)
          rw [List.map_append]
          exact dpAll_app (dpAll_extS xs (noLs_map _ nl _) (dpAll_ext x14 hd13)) (.cons (dp_extS xs (nl u) (dp_ext x1314 hpy)) .nil)
        · rw [if_neg z, List.append_nil]
          exact ⟨as', x14.lst e13, dpAll_ext x14 hd13, x1314⟩
      rw [hxl, List.take_length] at hd13
      refine ⟨Nat.zero_le _, fun te3 hte3 => ?_⟩
      have x1314 := x13.trans (Ext.new (o := .lst []) hte3)
      refine ⟨.list ((us.filter fun u => !hangB bl u).map lotD), .list [], .lst (SqL.of ((Ext.new hte3).lst e13)) (dpAll_ext (.new hte3) hd13), .lst (SqL.of upd_same) .nil, shL _, by decide, _, rfl, ?_⟩
      have x014 := x011.trans x1314
      have hland14 := dp_ext x1314 hland11
      have e14 := x1314.lst e11
      have hd14 := dpAll_ext x1314 hd11
      clear hland11 e11 hd11 x011 e13 hd13 x13 x1314 hte3 hD3
      generalize upd H13 te3 (.lst []) = H14 at hland14 e14 hd14 x014 ⊢
      cases eb : us.filter fun u => !hangB bl u with
      | cons u r =>
        have hu : u ∈ us.filter fun u => !hangB bl u := by rw [eb]; exact List.mem_cons_self
        have hu2 := List.mem_filter.mp hu
        refine iteT (k2 (fun ⟨bs, ws', h⟩ => ?_) _ x014)
        obtain ⟨g1, g2⟩ := hGb bs ws' h
        have hm : u ∈ ws' := by rw [← g2]; exact hu2.1
        obtain ⟨l, hl1, hl2⟩ := h.2.1.hang u hm
        have lo := h.2.1.w.lots u hm
        have := hangB_iff.mpr ((hangs_len lo.asc lo.ne hl1).mp hl2)
        rw [g1] at hu2
        have h2 := hu2.2
        rw [this] at h2
        cases h2
      | nil =>
      refine iteF ?_
      have hang : ∀ u ∈ us, Hangs bl u := fun u hu => Classical.byContradiction fun c => by
        have : u ∈ us.filter fun u => !hangB bl u := List.mem_filter.mpr ⟨hu, by
          cases e : hangB bl u with
          | true => exact absurd (hangB_iff.mp e) c
          | false => rfl⟩
        rw [eb] at this
        cases this
      -- in sequence
      refine ⟨_, rfl, D, ws, us.map lotD, rfl, SqL.of e14, hd14, allAlike_lots us, sortable_lots (fun u hu => (lots u hu).ne), by rw [List.length_map]; omega, depth_lots, fun ys2 es p2 hz hpe hpw hp2 => ?_⟩
      obtain ⟨zs, hzs, rfl⟩ := perm_unmap lotD hpe rfl
      have x1415 := Ext.new (o := .lst ys2) hp2
      refine ⟨_, rfl, .list (zs.map lotD), .list (us.map lotD), .lst (SqL.of upd_same) (dpAll_ext x1415 hz), .lst (SqL.of (x1415.lst e14)) (dpAll_ext x1415 hd14), shL _, shL _, _, rfl, ?_⟩
      have eqL : PyData.eqv (.list (zs.map lotD)) (.list (us.map lotD)) = decide (zs = us) := by rw [PyData.eqv, eqvAll_lots]
      rw [eqL]
      have x015 := x014.trans x1415
      by_cases ez : ¬ zs = us
      · rw [decide_eq_false ez]
        refine iteT (k2 (fun ⟨bs, ws', h⟩ => ?_) _ x015)
        obtain ⟨g1, g2⟩ := hGb bs ws' h
        have PO := h.2.1
        rw [← g2] at PO
        have := sorted_lots (fun u hu => (PO.w.lots u hu).ne) PO.asc (.refl _) hpe hpw
        exact ez ((List.map_inj_right fun x y e => lotD_inj e).mp this)
      have ez := Classical.not_not.mp ez
      rw [decide_eq_true ez]
      refine iteF ?_
      rw [ez] at hpw
      have hland15 := dp_ext x1415 hland14
      have e15 := x1415.lst e14
      have hd15 := dpAll_ext x1415 hd14
      clear hland14 e14 hd14 x014 x1415 hz eqL hpe
      generalize upd H14 p2 (.lst ys2) = H15 at hland15 e15 hd15 x015 ⊢
      -- all places
      refine ⟨_, rfl, D, rfl, ⟨_, SqL.of e15⟩, fun D4 hD4 => ?_⟩
      refine lc_list (K := K) (a := D) (xs := ws) (fun i H16 => H16 D4 = some (.lst (((us.take i).map fun u => (u.length : Int)).map V.int)) ∧ Ext H15 H16) ⟨by rw [List.take_zero]; exact upd_same, .new hD4⟩ (fun i H16 _ ⟨_, x16⟩ => SqL.of (x16.lst e15)) (fun i y H16 hy ⟨e16, x16⟩ => ?_) (fun H16 ⟨e16, x16⟩ => ?_)
      · have hi : i < us.length := by
          have := (List.getElem?_eq_some_iff.mp hy).1
          omega
        obtain ⟨dy, hdy, hpy⟩ := dpAll_get' hd15 hy
        rw [List.getElem?_map, List.getElem?_eq_getElem hi] at hdy
        have hdy := (Option.some.inj hdy).symm
        subst hdy
        obtain ⟨aw, rfl, hsw⟩ := dp_lot hpy
        refine ⟨rfl, ?_⟩
        dsimp only [tYes]
        rw [if_pos rfl]
        refine ⟨_, rfl, _, us[i].length, rfl, .inr ⟨_, x16.sqT hsw, by rw [vsN_len0]⟩, _, e16, by rw [List.length_map, List.length_map, List.length_take]; exact small1000 (by omega), ?_, x16.write hD4⟩
        rw [upd_same, List.take_add_one, List.getElem?_eq_getElem hi, List.map_append, List.map_append]
        rfl
      rw [hxl, List.take_length] at e16
      refine ⟨D4, us.map fun u => (u.length : Int), rfl, SqL.of e16, ?_⟩
      have esum := sum_lens us
      rw [esum]
      have x016 := x015.trans x16
      refine ⟨_, rfl, rfl, _, rfl, ?_⟩
      have e2 : (!decide (V.int (((us.map List.length).sum : Nat) : Int) = V.int (fs.length : Int))) = !decide ((us.map List.length).sum = fs.length) := by
        congr 1
        apply decide_eq_decide.mpr
        constructor
        · intro h
          injection h with h
          omega
        · intro h
          rw [h]
      rw [e2]
      by_cases en : ¬ (us.map List.length).sum = fs.length
      · rw [decide_eq_false en]
        refine iteT (k2 (fun ⟨bs, ws', h⟩ => ?_) _ x016)
        obtain ⟨g1, g2⟩ := hGb bs ws' h
        have PO := h.2.1
        have ap := wsL_apart last
        rw [hus] at ap
        have hfl : us.flatten.Nodup := by
          unfold List.Nodup
          rw [List.pairwise_flatten]
          exact ⟨fun u hu => (lots u hu).asc.imp fun h => Nat.ne_of_lt h, ap⟩
        have h1 := Mk.nodup_le fs.length us.flatten hfl fun x hx => by
          obtain ⟨u, hu, hxu⟩ := List.mem_flatten.mp hx
          exact (lots u hu).lt x hxu
        have h2 := List.nodup_range (n := fs.length) |>.length_le_of_subset (l₂ := us.flatten) fun x hx => by
          obtain ⟨u, hu, hxu⟩ := PO.all x (List.mem_range.mp hx)
          rw [← g2] at hu
          exact List.mem_flatten.mpr ⟨u, hu, hxu⟩
        rw [List.length_range] at h2
        rw [List.length_flatten] at h1 h2
        omega
      have en := Classical.not_not.mp en
      rw [decide_eq_true en]
      refine iteF ?_
      have PO : PlanOk fs.length bl us := by
        rw [← hus] at hang hpw en ⊢
        exact wsL_ok hn12 (by omega) lastl hang hpw en
      have hland16 := dp_ext x16 hland15
      have e16b := x16.lst e15
      have hd16 := dpAll_ext x16 hd15
      have har16 := x016.sqT har
      refine ⟨_, rfl, _, rfl, .inl ⟨D, _, rfl, SqL.of e16b, fun qp hqp => ?_⟩⟩
      have x17 := Ext.new (o := .tup ws) hqp
      have hplan : Dp K (upd H16 qp (.tup ws)) (.ref qp) (planD us) := dp_new hqp hd16
      refine ⟨.ref al, .ref qp, fs, bl, us, rfl, dp_ext x17 hland16, okL, hplan, PO, fun qa H18 x18 _ hqa => ?_⟩
      have x1718 := x17.trans x18
      refine ⟨_, rfl, .tuple ((arcsL fs.length (ownOf us) bl).map .str), .tuple (ss.map .str), .tup (SqT.of hqa) (dpAll_strs _), .tup (x1718.sqT har16) (dpAll_strs ss), (sh_strs (arcs_strOk PO (by omega))).shaped (by decide), shS, _, rfl, ?_⟩
      rw [show PyData.eqv (.tuple ((arcsL fs.length (ownOf us) bl).map .str)) (.tuple (ss.map .str)) = decide (arcsL fs.length (ownOf us) bl = ss) from by rw [PyData.eqv, eqvAll_strs]]
      by_cases ea : arcsL fs.length (ownOf us) bl = ss
      · rw [decide_eq_true ea]
        refine iteT ?_
        have e18 := x1718.lst e16b
        refine ⟨_, rfl, _, rfl, .inl ⟨D, _, rfl, SqL.of e18, fun qr hqr => ⟨by show 2 ≤ sizeLine; decide, fun qz hqz => ?_⟩⟩⟩
        have x19 := (Ext.new (o := .tup ws) hqr).trans (Ext.new (o := .tup [.ref al, .ref qr]) hqz)
        refine k1 bl us ⟨okL, PO, ea.symm⟩ qz _ ((x016.trans x1718).trans x19) (dp_new hqz (.cons (dp_ext (x1718.trans (Ext.new (o := .tup ws) hqr)) hland16) (.cons (dp_new hqr (dpAll_ext x1718 hd16)) .nil)))
      · rw [decide_eq_false ea]
        refine iteF (k2 (fun ⟨bs, ws', h⟩ => ?_) _ (x016.trans x1718))
        obtain ⟨g1, g2⟩ := hGb bs ws' h
        have := h.2.2
        rw [← g1, ← g2] at this
        exact ea this.symm
end
end Wd

set_option Elab.async false
set_option linter.all false
set_option maxRecDepth 100000
set_option maxHeartbeats 4000000
namespace Wd
open PySem PySem.Spec PyProof.Rows L2 Bx Gx














































section
variable {P : Program} {w : World} {K : PySem.W.Frag} {mg : Str → Option Value} {base : Heap}
open TL
/-! ### the law -/
theorem sh_plan (n : Nat) (ws : List (List Nat)) : Sh (n + 3) (planD ws) := .tup fun d hd => by
  obtain ⟨u, _, rfl⟩ := List.mem_map.mp hd
  exact sh_lot n u
theorem sh_land (n : Nat) (fs : List Int) (bs : List (Nat × Nat)) : Sh (n + 4) (landD fs bs) := .tup fun d hd => by
  rcases List.mem_cons.mp hd with e | e
  · rw [e]; exact Sh.intsT (n := n + 1) fs
  · rw [List.mem_singleton.mp e]; exact sh_bord n bs
theorem ne_same {x y : V} {d : PyData} {H : Hp} {Q : VK} {n : Nat} (hx : Dp K H x d) (hy : Dp K H y d) (s : Sh n d) (hn : n ≤ 64) (q : Q (.bl false) H) : rNeD K x y H Q := ⟨d, d, hx, hy, s.shaped hn, s.shaped hn, by rw [PySem.SeqAt.eqv_refl d s.lay]; exact q⟩
theorem pairs_len {bs : List (Nat × Nat)} (h : Tu.AscP bs) (hb : ∀ b ∈ bs, b.1 < b.2 ∧ b.2 < 12) : bs.length ≤ 76 := by
  have nd : (bs.map Tu.keyN).Nodup := by
    rw [List.nodup_iff_pairwise_ne, List.pairwise_map]
    refine List.Pairwise.imp (fun {a b} h e => ?_) h
    injection e with e1 e2
    injection e2 with e2
    omega
  have q := Tu.len_sub (D := Tu.pairs12) nd fun k hk => by
    obtain ⟨b, hbm, rfl⟩ := List.mem_map.mp hk
    exact Tu.pairs_mem (hb b hbm).1 (hb b hbm).2
  rw [List.length_map] at q
  exact Nat.le_trans q Tu.pairs_few
theorem sqCat {H : Hp} {a b : Addr} {ns ms : List Int} {Q : VK} (h : SqT K H a (ns.map V.int)) (h' : SqT K H b (ms.map V.int)) (hl : ns.length + ms.length ≤ 500) (k : ∀ p H', Ext H H' → SqT K H' p ((ns ++ ms).map V.int) → Q (.ref p) H') : rCatA K (.ref a) (.ref b) H Q := by
  refine ⟨a, b, _, _, rfl, rfl, h, h', by rw [List.length_map, List.length_map, sizeLine_eq]; omega, fun e => ?_, fun _ e => ?_, fun _ _ p hp => ?_⟩
  · rw [List.map_eq_nil_iff] at e
    subst e
    exact k b H (.refl H) h'
  · rw [List.map_eq_nil_iff] at e
    subst e
    rw [List.append_nil] at k
    exact k a H (.refl H) h
  · exact k p _ (.new hp) (by rw [List.map_append]; exact SqT.of upd_same)
/-- a def that may raise, where it does not -/
theorem fn_calm {k : Nat} {f : Addr} {fd : FuncData} {ps : List Str} {sp : Sp} (F : FnOk P w K mg base (L2.CX P w) k f fd ps sp) : FnOk P w K mg base CX0 k f fd ps (fun vs H Q _ => sp vs H Q fun _ _ _ => False) :=
  ⟨fun vs H Q E h => F.len vs H Q _ h, fun A outer s H args us vs Q E hr e hb hv h => codeAny_mono (F.run A outer s H args us vs Q (fun _ _ _ => False) hr e hb hv h) fun r s' hq => by
    cases r with
    | error e =>
      obtain ⟨_, _, _, _, _, _, _, _, _, _, _, _, hE⟩ := hq
      exact hE.elim
    | ok fl =>
      cases fl with
      | ret u => exact hq
      | _ => exact False.elim hq⟩
abbrev spToldC (K : PySem.W.Frag) (CR T1 T2 T3 T4 T5 T6 T7 : Addr) : Sp := fun vs H Q _ => spTold K CR T1 T2 T3 T4 T5 T6 T7 vs H Q fun _ _ _ => False
theorem pic_uniq {fs : List Int} {ss : List Str} {bs bs' : List (Nat × Nat)} {ws ws' : List (List Nat)} (h : IsPic fs ss bs ws) (h' : IsPic fs ss bs' ws') : bs' = bs ∧ ws' = ws := by
  obtain ⟨ok, PO, e⟩ := h
  obtain ⟨ok', PO', e'⟩ := h'
  have hn := ok.few
  obtain ⟨a1, a2⟩ := arcs_split (n := fs.length) (own := ownOf ws) (bs := bs)
  obtain ⟨b1, b2⟩ := arcs_split (n := fs.length) (own := ownOf ws') (bs := bs')
  rw [← e] at a1 a2
  rw [← e'] at b1 b2
  have rd : ∀ {own : Nat → Nat} {l : List (Nat × Nat)}, Mk.Bs fs.length l → (l.map (arcS fs.length own)).map prS = l := fun {own l} hb => by
    rw [List.map_map]
    exact (List.map_congr_left fun b hb' => (arc_okS (own := own) (hb b hb').1 (hb b hb').2).2).trans (List.map_id _)
  refine ⟨?_, ?_⟩
  · rw [← rd (own := ownOf ws) ok.bord, ← rd (own := ownOf ws') ok'.bord, ← a1, ← b1]
  · rw [a2] at b2
    have := Option.some.inj b2
    rw [← letters_row PO (by omega), ← letters_row PO' (by omega), this]
theorem own_uniq {n : Nat} {bs bs' : List (Nat × Nat)} {ws ws' : List (List Nat)} (hn : 0 < n) (PO : PlanOk n bs ws) (PO' : PlanOk n bs' ws') (h : ∀ p, p < n → ownOf ws p = ownOf ws' p) : ws = ws' := by
  have e : rowS n (ownOf ws) = rowS n (ownOf ws') := by
    unfold rowS
    congr 1
    refine List.map_congr_left fun p hp => ?_
    unfold letS
    rw [h p (List.mem_range.mp hp)]
  rw [← letters_row PO hn, ← letters_row PO' hn, e]
theorem square_inj {n : Nat} {bs : List (Nat × Nat)} {ws ws' : List (List Nat)} (hn : 0 < n) (PO : PlanOk n bs ws) (PO' : PlanOk n bs ws') : squareL n (ownOf ws) bs = squareL n (ownOf ws') bs ↔ ws = ws' := by
  refine ⟨fun h => own_uniq hn PO PO' fun p hp => ?_, fun h => by rw [h]⟩
  have h1 := congrArg (fun l => l[p]?) h
  unfold squareL at h1
  simp only [List.getElem?_map, List.getElem?_range hp, Option.map_some, Option.some.injEq] at h1
  have h2 : sqL n (ownOf ws) bs p = sqL n (ownOf ws') bs p := congrArg tl h1
  have h3 := congrArg (fun l => l[p]?) h2
  unfold sqL at h3
  simp only [List.getElem?_map, List.getElem?_range hp, Option.map_some, Option.some.injEq] at h3
  unfold sqC at h3
  rw [if_pos rfl, if_pos rfl] at h3
  omega
theorem arcs_inj {n : Nat} {bs : List (Nat × Nat)} {ws ws' : List (List Nat)} (hn : 0 < n) (PO : PlanOk n bs ws) (PO' : PlanOk n bs ws') : arcsL n (ownOf ws) bs = arcsL n (ownOf ws') bs ↔ ws = ws' := by
  refine ⟨fun h => ?_, fun h => by rw [h]⟩
  have a2 := (arcs_split (n := n) (own := ownOf ws) (bs := bs)).2
  have b2 := (arcs_split (n := n) (own := ownOf ws') (bs := bs)).2
  rw [h, b2] at a2
  rw [← letters_row PO hn, ← letters_row PO' hn, Option.some.inj a2]
theorem eqv_plans (a b : List (List Nat)) : PyData.eqv (planD a) (planD b) = decide (a = b) := by
  show PyData.eqv (.tuple (a.map lotD)) (.tuple (b.map lotD)) = _
  rw [PyData.eqv, eqvAll_lots]
theorem eqv_pics (a b : List Str) : PyData.eqv (.tuple (a.map .str)) (.tuple (b.map .str)) = decide (a = b) := by
  rw [PyData.eqv, eqvAll_strs]
theorem squares_ok {n : Nat} {bs : List (Nat × Nat)} {ws : List (List Nat)} (PO : PlanOk n bs ws) : ∀ s ∈ squareL n (ownOf ws) bs, PyData.strOk s = true := fun s hs => by
  obtain ⟨i, hi, rfl⟩ := List.mem_map.mp hs
  refine strOk_list fun x hx => ?_
  obtain ⟨j, hj, rfl⟩ := List.mem_map.mp hx
  have := own_lt PO (List.mem_range.mp hi)
  unfold sqC
  split
  · omega
  · split
    · split <;> omega
    · omega
theorem sh_pl (fs : List Int) (bs : List (Nat × Nat)) (ws : List (List Nat)) : Sh 5 (.tuple [landD fs bs, planD ws]) := .tup fun d hd => by
  rcases List.mem_cons.mp hd with e | e
  · rw [e]; exact sh_land 0 fs bs
  · rw [List.mem_singleton.mp e]; exact (sh_plan 1 ws)
theorem arcs_len {n : Nat} {own : Nat → Nat} {bs : List (Nat × Nat)} (hn : 0 < n) : ∀ s ∈ arcsL n own bs, (tl s).length = 2 * n - 1 := fun s hs => by
  have h := arcs_rows (own := own) (bs := bs) hn
  unfold rowsB at h
  rw [Bool.and_eq_true, List.all_eq_true] at h
  exact of_decide_eq_true (h.2 s hs)
theorem pic_len {fs fs' : List Int} {ss : List Str} {bs bs' : List (Nat × Nat)} {ws ws' : List (List Nat)} (h : IsPic fs ss bs ws) (h' : IsPic fs' ss bs' ws') : fs'.length = fs.length := by
  obtain ⟨ok, _, e⟩ := h
  obtain ⟨ok', _, e'⟩ := h'
  have h1 := ok.few
  have h2 := ok'.few
  have m : rowS fs.length (ownOf ws) ∈ ss := by rw [e, arcsL]; simp
  have l1 := arcs_len (own := ownOf ws) (bs := bs) (by omega : 0 < fs.length) _ (e ▸ m)
  have l2 := arcs_len (own := ownOf ws') (bs := bs') (by omega : 0 < fs'.length) _ (e' ▸ m)
  omega
abbrev lawN : List Str := ["script", "spring", "turn", "land", "plan", "other", "rows", "folk", "again", "bent"]
theorem sc_law : FnScope lawN ["script"] (defScope st_law) := ⟨rfl, rfl, rfl, by decide +kernel, rfl, by decide +kernel, by decide +kernel⟩
def spLaw (K : PySem.W.Frag) (ts : List Addr) : Sp := fun vs H Q _ => ∃ (a : Addr) (ns : List Int), vs = [.ref a] ∧ SqL K H a (ns.map V.int) ∧ ns.length ≤ 63 ∧ Tabs ts H ∧ ∀ H', Q (.bl true) H'
theorem ok_law {f CR T1 T2 T3 T4 T5 T6 T7 : Addr} {fd : FuncData} (F : Fun K "law" "law" st_law f fd) (B : Bl mg) (c1 : Cal P w K mg base 1 "_law_spring" ["script"] (spSpring K)) (c3 : Cal P w K mg base 3 "_law_land" ["spring", "places"] (spLand K)) (c4 : Cal P w K mg base 4 "_law_plan" ["spring", "land"] (spLPlan K))
    (ar1 : Cal P w K mg base 11 "arcs" ["land", "plan"] (spArcsX K T1 T2 T3 T4)) (to1 : Cal P w K mg base 12 "arcs_told" ["folk", "rows"] (spToldC K CR T1 T2 T3 T4 T5 T6 T7)) (to2 : CalK P w K mg base 12 "arcs_told" ["folk", "rows"] ["rows", "folk"] swp (spToldC K CR T1 T2 T3 T4 T5 T6 T7))
    (sq1 : Cal P w K mg base 11 "square" ["land", "plan"] (spSquare K T1 T2 T3 T4)) (lt1 : Cal P w K mg base 13 "_law_told" ["folk", "rows"] (spLTold K T1 T2 T3 T4 T5 T6 T7)) (sp1 : Cal P w K mg base 2 "_law_spoilt" ["spring", "rows"] (spSpoilt K)) (du1 : Cal P w K mg base 3 "_law_due" ["folk", "rows"] (spDue K)) :
    FnOk P w K mg base CX0 14 f fd ["script"] (spLaw K [T1, T2, T3, T4, T5, T6, T7]) := by
  refine F.ok sc_law (fun vs H Q E h => ?_) (fun cdv A outer s H vs Q E hr h => ?_)
  · obtain ⟨a, ns, rfl, _⟩ := h
    rfl
  · obtain ⟨a, ns, rfl, hS, hlen, hT, k⟩ := h
    have hr1 := hr.mono (j := 1) (by decide)
    have hr2 := hr.mono (j := 2) (by decide)
    have hr3 := hr.mono (j := 3) (by decide)
    have hr4 := hr.mono (j := 4) (by decide)
    have hr11 := hr.mono (j := 11) (by decide)
    have hr12 := hr.mono (j := 12) (by decide)
    have nd := sc_law.nd
    refine ⟨_, pss_cons (ps_set (i := 1) nd rfl (Or.inl rfl) (pe_cal c1 hr1 rfl (pa_cons (pv 0) pa_nil)))
      (pss_cons (ps_for PassesOwn.never rfl (pi_range1 rfl B.range (pa_cons pe_int pa_nil)) (pg_name (i := 2) nd rfl (Or.inl rfl))
        (pss_cons (ps_set (i := 3) nd rfl (Or.inl rfl) (pe_cal c3 hr3 rfl (pa_cons (pv 1) (pa_cons pe_int pa_nil))))
        (pss_cons (ps_par (i := 4) (j := 5) (by rfl) nd rfl rfl (by decide) rfl rfl (pa_cons (pe_cal c4 hr4 rfl (pa_cons (pv 1) (pa_cons (pv 3) pa_nil))) (pa_cons (pe_cal c4 hr4 rfl (pa_cons (pv 1) (pa_cons (pv 3) pa_nil))) pa_nil)) (by rfl))
        (pss_cons (ps_set (i := 6) nd rfl (Or.inl rfl) (pe_cal ar1 hr11 rfl (pa_cons (pv 3) (pa_cons (pv 4) pa_nil))))
        (pss_cons (ps_if (PW.pt (pw_or (pt_cmpR (op_neD hr.units) (pe_cal to1 hr12 rfl (pa_cons (pe_ix ix_tup (pv 3) pe_int (fun _ _ => rfl)) (pa_cons (pv 6) pa_nil))) (pe_tup (pa_cons (pv 3) (pa_cons (pv 4) pa_nil))) (nomark _))
            (pw_or1 (pt_cmpR (op_neD hr.units) (pe_calK to2 hr12 rfl (pk_cons (pv 6) (pk_cons (pe_ix ix_tup (pv 3) pe_int (fun _ _ => rfl)) pk_nil))) (pe_tup (pa_cons (pv 3) (pa_cons (pv 4) pa_nil))) (nomark _))))) pss_never pss_nil)
        (pss_cons (ps_if (PW.pt (pw_or (pt_cmpR op_ne (pe_cmpR (op_eqD hr.units) (pe_cal sq1 hr11 rfl (pa_cons (pv 3) (pa_cons (pv 4) pa_nil))) (pe_cal sq1 hr11 rfl (pa_cons (pv 3) (pa_cons (pv 5) pa_nil))) (nomark _)) (pe_cmpR (op_eqD hr.units) (pv 4) (pv 5) (nomark _)) (nomark _))
            (pw_or1 (pt_cmpR op_ne (pe_cmpR (op_eqD hr.units) (pv 6) (pe_cal ar1 hr11 rfl (pa_cons (pv 3) (pa_cons (pv 5) pa_nil))) (nomark _)) (pe_cmpR (op_eqD hr.units) (pv 4) (pv 5) (nomark _)) (nomark _))))) pss_never pss_nil)
        (pss_cons (ps_for PassesOwn.never rfl (pi_list (pe_lst (pa_cons (pe_op op_catA (pe_ix ix_tup (pv 3) pe_int (fun _ _ => rfl)) (pe_tup (pa_cons pe_int pa_nil))) (pa_cons (pe_slice sl_tupA (pe_ix ix_tup (pv 3) pe_int (fun _ _ => rfl)) po_none (po_some (pe_un un_neg pe_int))) pa_nil)))) (pg_name (i := 7) nd rfl (Or.inl rfl))
          (pss_one (ps_if (pt_cmpR op_notN (pe_cal lt1 hr rfl (pa_cons (pv 7) (pa_cons (pv 6) pa_nil))) pe_non (nomark _)) pss_never pss_nil)))
        (pss_one (ps_for PassesOwn.never rfl (pi_range1 rfl B.range (pa_cons pe_int pa_nil)) (pg_name (i := 8) nd rfl (Or.inl rfl))
          (pss_cons (ps_set (i := 9) nd rfl (Or.inl rfl) (pe_cal sp1 hr2 rfl (pa_cons (pv 1) (pa_cons (pv 6) pa_nil))))
          (pss_one (ps_if (pt_cmpR (op_neD hr.units) (pe_cal lt1 hr rfl (pa_cons (pe_ix ix_tup (pv 3) pe_int (fun _ _ => rfl)) (pa_cons (pv 9) pa_nil))) (pe_cal du1 hr3 rfl (pa_cons (pe_ix ix_tup (pv 3) pe_int (fun _ _ => rfl)) (pa_cons (pv 9) pa_nil))) (nomark _)) pss_never pss_nil))))))))))))
      (pss_one (ps_ret pe_bl))), ?_⟩
    refine ⟨_, rfl, a, ns, rfl, hS, hlen, fun sp gr H1 x1 S1 hsp0 hgr0 => ?_⟩
    have T1' : Tabs [T1, T2, T3, T4, T5, T6, T7] H1 := hT.ext x1
    clear hS hT x1 hsp0 hgr0
    refine ⟨_, rfl, by decide, by decide, for_range (lo := 0) (n := (6 : Int).toNat) (fun i σ H2 => ∃ o2 o3 o4 o5 o6 o7 o8 o9 : Option V, σ = [some (.ref a), some (.ref sp), o2, o3, o4, o5, o6, o7, o8, o9] ∧ SpAt H2 sp gr ∧ Tabs [T1, T2, T3, T4, T5, T6, T7] H2)
      ⟨_, _, _, _, _, _, _, _, rfl, S1, T1'⟩ ?_ ?_⟩
    · clear S1 T1'
      rintro i σ H2 hi ⟨o2, o3, o4, o5, o6, o7, o8, o9, rfl, S2, T2'⟩
      refine ⟨_, rfl, sp, gr, 12, rfl, S2, by decide, by decide, fun ld fs bs H3 x3 S3 hld0 hld ok hfs => ?_⟩
      dsimp only [gName, tSeq, List.set]
      have T3' : Tabs [T1, T2, T3, T4, T5, T6, T7] H3 := fun Pt hPt => x3.tabs Pt (T2' Pt hPt)
      clear hld0 x3 S2 T2'
      obtain ⟨al, af, vb, eal, hl1, hl2, hl3⟩ := dp_land hld
      injection eal with eal
      subst eal
      have hn2 := ok.few
      have hn12 := ok.most
      have nlo := noL_land fs bs
      refine ⟨_, rfl, _, rfl, sp, gr, .ref ld, fs, bs, rfl, S3, hld, ok, fun q1 ws1 H4 x4 S4 hq10 hq1 po1 => ?_⟩
      have hld4 := dp_extS x4 nlo hld
      refine ⟨_, rfl, _, rfl, sp, gr, .ref ld, fs, bs, rfl, S4, hld4, ok, fun q2 ws2 H5 x5 S5 hq20 hq2 po2 => ?_⟩
      have hld5 := dp_extS x5 nlo hld4
      have hq15 := dp_extS x5 (noL_plan ws1) hq1
      have hl15 := x5.sqT (x4.sqT hl1)
      have hl25 := x5.sqT (x4.sqT hl2)
      have T5' : Tabs [T1, T2, T3, T4, T5, T6, T7] H5 := fun Pt hPt => x5.tabs Pt (x4.tabs Pt (T3' Pt hPt))
      clear hld hl1 hl2 hl3 S3 S4 T3' x4 x5 hq10 hq20 hld4 hq1
      dsimp only [gName, tSeq, List.set]
      have ss : ∀ {Hx : Hp}, Tabs [T1, T2, T3, T4, T5, T6, T7] Hx → Tabs [T1, T2, T3, T4] Hx := fun {Hx} T Pt h => T Pt (by simp at h ⊢; rcases h with h | h | h | h <;> simp [h])
      refine ⟨_, _, rfl, ?_⟩
      refine ⟨_, rfl, _, rfl, .ref ld, .ref q1, fs, bs, ws1, rfl, hld5, ok, hq15, po1, ss T5', fun qa H6 x6 _ hqa => ?_⟩
      have ho6 := dp_ext x6 hld5
      have hp6 := dp_ext x6 hq15
      have hr6 := dp_ext x6 hq2
      have hl6 := x6.sqT hl15
      have hf6 := x6.sqT hl25
      have S6 := S5.ext x6
      have T6' := T5'.ext x6
      clear hld5 hq15 hq2 hl15 hl25 S5 T5' x6
      have hA6 := hqa.sqT (K := K)
      dsimp only [gName, tSeq, List.set]
      have hn0 : 0 < fs.length := by omega
      have hbl : bs.length ≤ 76 := pairs_len ok.asc fun b hb => ⟨(ok.bord b hb).1, by have := (ok.bord b hb).2; omega⟩
      have hsl : (arcsL fs.length (ownOf ws1) bs).length ≤ 77 := by
        rw [arcsL, List.length_append, List.length_map]
        simp
        omega
      have hlen' := arcs_len (own := ownOf ws1) (bs := bs) hn0
      have hsok := arcs_strOk (bs := bs) po1 hn0
      have hpic : IsPic fs (arcsL fs.length (ownOf ws1) bs) bs ws1 := ⟨ok, po1, rfl⟩
      have hfine : ∀ s ∈ arcsL fs.length (ownOf ws1) bs, (tl s).length ≤ 100 ∧ PyData.strOk s = true := fun s hs => ⟨by rw [hlen' s hs]; omega, hsok s hs⟩
      refine ⟨_, rfl, ld, _, _, _, rfl, rfl, hl6, atI_nat (j := 0) rfl, _, rfl, .ref af, qa, fs, _, rfl, .tup hf6 (dpAll_of_ints fs), by omega, by omega, hA6, by omega, hfine, T6', fun bs' ws' hp q H7 x7 hq => ?_, fun no => absurd ⟨bs, ws1, hpic⟩ no⟩
      obtain ⟨e1, e2⟩ := pic_uniq hpic hp
      rw [e1, e2] at hq
      clear e1 e2 hp bs' ws'
      refine ⟨_, rfl, _, rfl, by show 2 ≤ sizeLine; decide, fun t ht => ne_same (dp_ext (.new ht) hq) (.tup (SqT.of upd_same) (.cons (dp_ext (x7.trans (.new ht)) ho6) (.cons (dp_ext (x7.trans (.new ht)) hp6) .nil))) (sh_pl fs bs ws1) (by decide) ⟨false, rfl, ?_⟩⟩
      have x8 : Ext H6 (upd H7 t (.tup [.ref ld, .ref q1])) := x7.trans (.new ht)
      clear ht hq x7
      generalize upd H7 t (.tup [.ref ld, .ref q1]) = H8 at x8 ⊢
      have ho8 := dp_ext x8 ho6
      have hp8 := dp_ext x8 hp6
      have hr8 := dp_ext x8 hr6
      have hl8 := x8.sqT hl6
      have hf8 := x8.sqT hf6
      have hA8 := x8.sqT hA6
      have hqa8 := hqa.ext x8
      have S8 := S6.ext x8
      have T8' := T6'.ext x8
      clear ho6 hp6 hr6 hl6 hf6 hA6 hqa S6 T6' x8
      dsimp only [tSeq]
      refine ⟨_, rfl, _, rfl, ld, _, _, _, rfl, rfl, hl8, atI_nat (j := 0) rfl, .ref af, qa, fs, _, rfl, .tup hf8 (dpAll_of_ints fs), by omega, by omega, hA8, by omega, hfine, T8', fun bs' ws' hp q H7 x7 hq => ?_, fun no => absurd ⟨bs, ws1, hpic⟩ no⟩
      obtain ⟨e1, e2⟩ := pic_uniq hpic hp
      rw [e1, e2] at hq
      clear e1 e2 hp bs' ws'
      refine ⟨_, rfl, _, rfl, by show 2 ≤ sizeLine; decide, fun t ht => ne_same (dp_ext (.new ht) hq) (.tup (SqT.of upd_same) (.cons (dp_ext (x7.trans (.new ht)) ho8) (.cons (dp_ext (x7.trans (.new ht)) hp8) .nil))) (sh_pl fs bs ws1) (by decide) ⟨false, rfl, iteF ?_⟩⟩
      have x10 : Ext H8 (upd H7 t (.tup [.ref ld, .ref q1])) := x7.trans (.new ht)
      clear ht hq x7
      generalize upd H7 t (.tup [.ref ld, .ref q1]) = H10 at x10 ⊢
      have ho10 := dp_ext x10 ho8
      have hp10 := dp_ext x10 hp8
      have hr10 := dp_ext x10 hr8
      have hl10 := x10.sqT hl8
      have hf10 := x10.sqT hf8
      have hA10 := x10.sqT hA8
      have hqa10 := hqa8.ext x10
      have S10 := S8.ext x10
      have T10' := T8'.ext x10
      clear ho8 hp8 hr8 hl8 hf8 hA8 hqa8 S8 T8' x10
      have so1 := squares_ok (bs := bs) po1
      have so2 := squares_ok (bs := bs) po2
      have so3 := arcs_strOk (bs := bs) po2 hn0
      have dps : ∀ {Hx : Hp} {p : Addr} {l : List Str}, SqT K Hx p (l.map V.str) → Dp K Hx (.ref p) (.tuple (l.map .str)) := fun {Hx p l} h => .tup h (dpAll_strs l)
      refine ⟨_, rfl, _, rfl, .ref ld, .ref q1, fs, bs, ws1, rfl, ho10, ok, hp10, po1, ss T10', fun s1 H11 x11 _ hs1 => ?_⟩
      refine ⟨_, rfl, _, rfl, .ref ld, .ref q2, fs, bs, ws2, rfl, dp_ext x11 ho10, ok, dp_ext x11 hr10, po2, ss (T10'.ext x11), fun s2 H12 x12 _ hs2 => ?_⟩
      have x1012 := x11.trans x12
      refine ⟨_, _, dps (SqT.of (x12.tup hs1)), dps (SqT.of hs2), (sh_strs so1).shaped (by decide), (sh_strs so2).shaped (by decide), ?_⟩
      rw [eqv_pics, show decide (squareL fs.length (ownOf ws1) bs = squareL fs.length (ownOf ws2) bs) = decide (ws1 = ws2) from by rw [Bool.eq_iff_iff, decide_eq_true_iff, decide_eq_true_iff]; exact square_inj hn0 po1 po2]
      refine ⟨_, rfl, _, rfl, _, _, dp_ext x1012 hp10, dp_ext x1012 hr10, (sh_plan 1 ws1).shaped (by decide), (sh_plan 1 ws2).shaped (by decide), ?_⟩
      rw [eqv_plans]
      refine ⟨rfl, ?_⟩
      refine ⟨false, by simp, ?_⟩
      have ho12 := dp_ext x1012 ho10
      have hp12 := dp_ext x1012 hp10
      have hr12 := dp_ext x1012 hr10
      have hl12 := x1012.sqT hl10
      have hf12 := x1012.sqT hf10
      have hA12 := x1012.sqT hA10
      have hqa12 := hqa10.ext x1012
      have S12 := S10.ext x1012
      have T12' := T10'.ext x1012
      clear ho10 hp10 hr10 hl10 hf10 hA10 hqa10 S10 T10' x1012 hs1 hs2 x11 x12
      refine ⟨_, rfl, _, rfl, _, rfl, .ref ld, .ref q2, fs, bs, ws2, rfl, ho12, ok, hr12, po2, ss T12', fun s1 H13 x13 _ hs1 => ?_⟩
      refine ⟨_, _, dps (x13.sqT hA12), dps hs1.sqT, (sh_strs hsok).shaped (by decide), (sh_strs so3).shaped (by decide), ?_⟩
      rw [eqv_pics, show decide (arcsL fs.length (ownOf ws1) bs = arcsL fs.length (ownOf ws2) bs) = decide (ws1 = ws2) from by rw [Bool.eq_iff_iff, decide_eq_true_iff, decide_eq_true_iff]; exact arcs_inj hn0 po1 po2]
      refine ⟨_, rfl, _, rfl, _, _, dp_ext x13 hp12, dp_ext x13 hr12, (sh_plan 1 ws1).shaped (by decide), (sh_plan 1 ws2).shaped (by decide), ?_⟩
      rw [eqv_plans]
      refine ⟨rfl, ⟨false, by simp, iteF ?_⟩⟩
      have ho14 := dp_ext x13 ho12
      have hl14 := x13.sqT hl12
      have hf14 := x13.sqT hf12
      have hA14 := x13.sqT hA12
      have hqa14 := hqa12.ext x13
      have S14 := S12.ext x13
      have T14' := T12'.ext x13
      clear ho12 hp12 hr12 hl12 hf12 hA12 hqa12 S12 T12' hs1 x13
      refine ⟨_, rfl, ld, _, _, _, rfl, rfl, hl14, atI_nat (j := 0) rfl, by show 1 ≤ sizeLine; decide, fun t7 ht7 => ?_⟩
      refine sqCat (ms := [7]) ((Ext.new ht7).sqT hf14) (SqT.of upd_same) (by simp; omega) fun p1 H15 x15 hp1 => ?_
      have y15 : Ext H13 H15 := (Ext.new ht7).trans x15
      refine ⟨_, rfl, ld, _, _, _, rfl, rfl, y15.sqT hl14, atI_nat (j := 0) rfl, _, rfl, ?_⟩
      refine ⟨_, rfl, rSl_init (y15.sqT hf14) (fun e => by rw [List.map_eq_nil_iff] at e; rw [e] at hn0; cases hn0) fun p2 H16 x16 hp2 => ?_⟩
      rw [← List.map_dropLast] at hp2
      refine ⟨by show 2 ≤ sizeLine; decide, fun ql hql => ?_⟩
      have x17 : Ext H13 (upd H16 ql (.lst [.ref p1, .ref p2])) := (y15.trans x16).trans (.new hql)
      have folks : ∀ y ∈ ([.ref p1, .ref p2] : List V), ∃ (pf : Addr) (fs' : List Int), y = .ref pf ∧ SqT K (upd H16 ql (.lst [.ref p1, .ref p2])) pf (fs'.map V.int) ∧ fs'.length ≠ fs.length ∧ 1 ≤ fs'.length ∧ fs'.length ≤ 100 := fun y hy => by
        rcases List.mem_cons.mp hy with e | e
        · exact ⟨p1, _, e, (x16.trans (.new hql)).sqT hp1, by simp, by simp, by simp; omega⟩
        · exact ⟨p2, _, List.mem_singleton.mp e, (Ext.new hql).sqT hp2, by simp; omega, by simp; omega, by simp; omega⟩
      have hql17 : (upd H16 ql (.lst [.ref p1, .ref p2])) ql = some (.lst [.ref p1, .ref p2]) := upd_same
      clear hql hp1 hp2 x16 y15 x15 ht7
      generalize upd H16 ql (.lst [.ref p1, .ref p2]) = H17 at x17 folks hql17 ⊢
      have hl17 := x17.sqT hl14
      have hf17 := x17.sqT hf14
      have hA17 := x17.sqT hA14
      have hqa17 := hqa14.ext x17
      have S17 := S14.ext x17
      have T17' := T14'.ext x17
      clear ho14 hl14 hf14 hA14 hqa14 S14 T14' x17
      refine ⟨ql, rfl, ⟨_, SqL.of hql17⟩, for_list (K := K) (a := ql) (xs := [.ref p1, .ref p2]) (fun t σ H18 => ∃ p7 p8 p9 : Option V, σ = [some (.ref a), some (.ref sp), some (.int (0 + i : Int)), some (.ref ld), some (.ref q1), some (.ref q2), some (.ref qa), p7, p8, p9] ∧ Ext H17 H18)
        ⟨_, _, _, rfl, .refl _⟩ (fun t σ H18 _ ⟨_, _, _, _, x⟩ => SqL.of (x.lst hql17)) ?_ ?_⟩
      · rintro t' y' σ H18 hy' ⟨p7, p8, p9, rfl, x18⟩
        obtain ⟨pf, fs', rfl, g1, g2, g3, g4⟩ := folks y' (List.mem_of_getElem? hy')
        refine ⟨_, rfl, _, rfl, .ref pf, qa, fs', _, rfl, .tup (x18.sqT g1) (dpAll_of_ints fs'), g3, g4, x18.sqT hA17, by omega, hfine, T17'.ext x18, fun bs' ws' hp => absurd (pic_len hpic hp) g2, fun _ H19 x19 => ⟨rfl, ⟨false, rfl, iteF ⟨_, _, _, rfl, x18.trans x19⟩⟩⟩⟩
      · rintro σ H18 ⟨p7, p8, p9, rfl, x18⟩
        have hl18 := x18.sqT hl17
        have hf18 := x18.sqT hf17
        have hqa18 := hqa17.ext x18
        have S18 := S17.ext x18
        have T18' := T17'.ext x18
        clear hl17 hf17 hA17 hqa17 S17 T17' x18 folks hql17
        have hne : arcsL fs.length (ownOf ws1) bs ≠ [] := fun e => by
          have := congrArg List.length e
          rw [arcsL, List.length_append] at this
          simp at this
        refine ⟨_, rfl, by decide, by decide, for_range (lo := 0) (n := (6 : Int).toNat) (fun t σ H19 => ∃ p7 p8 p9 : Option V, σ = [some (.ref a), some (.ref sp), some (.int (0 + i : Int)), some (.ref ld), some (.ref q1), some (.ref q2), some (.ref qa), p7, p8, p9] ∧ ExtS [sp, gr] H18 H19 ∧ SpAt H19 sp gr)
          ⟨_, _, _, rfl, .refl _ _, S18⟩ ?_ ?_⟩
        · rintro t' σ H19 ht' ⟨p7, p8, p9, rfl, x19, S19⟩
          have hqa19 : XTup H19 qa ((arcsL fs.length (ownOf ws1) bs).map V.str) := xtup_extS hqa18 x19
          refine ⟨_, rfl, _, rfl, sp, gr, qa, _, rfl, S19, hqa19, hne, hsl, (fun s hs => ⟨by rw [hlen' s hs]; omega, hsok s hs⟩), fun qs H20 x20 S20 hR => ?_⟩
          have hl20 := x20.sqT (x19.sqT hl18)
          have hf20 := x20.sqT (x19.sqT hf18)
          have T20' : Tabs [T1, T2, T3, T4, T5, T6, T7] H20 := fun Pt hPt => x20.tabs Pt (x19.tabs Pt (T18' Pt hPt))
          have x1820 := x19.trans x20
          obtain ⟨sq, hq1, hq2, hq3⟩ := hR
          clear x19 x20 S19 hqa19
          dsimp only [gName, tSeq, List.set]
          refine ⟨_, rfl, ld, _, _, _, rfl, rfl, hl20, atI_nat (j := 0) rfl, _, rfl, .ref af, qs, fs, sq, rfl, .tup hf20 (dpAll_of_ints fs), by omega, by omega, hq1, by omega, hq3, T20', fun bs' ws' hp q H21 x21 hq => ?_, fun no H21 x21 => ?_⟩
          · refine ⟨_, rfl, ld, _, _, _, rfl, rfl, x21.sqT hl20, atI_nat (j := 0) rfl, _, rfl, .ref af, qs, fs, sq, rfl, .tup (x21.sqT hf20) (dpAll_of_ints fs), ⟨hn2, hn12, ok.folk⟩, x21.sqT hq1, hq2, hq3, fun bs2 ws2 hp2 q2 H22 x22 hq2' => ?_, fun no => absurd ⟨bs', ws', hp⟩ no⟩
            obtain ⟨e1, e2⟩ := pic_uniq hp hp2
            rw [e1, e2] at hq2'
            exact ne_same (dp_ext x22 hq) hq2' (sh_pl fs bs' ws') (by decide) ⟨false, rfl, iteF ⟨_, _, _, rfl, x1820.trans (.of (x21.trans x22)), S20.ext (x21.trans x22)⟩⟩
          · refine ⟨_, rfl, ld, _, _, _, rfl, rfl, x21.sqT hl20, atI_nat (j := 0) rfl, _, rfl, .ref af, qs, fs, sq, rfl, .tup (x21.sqT hf20) (dpAll_of_ints fs), ⟨hn2, hn12, ok.folk⟩, x21.sqT hq1, hq2, hq3, fun bs2 ws2 hp2 => absurd ⟨bs2, ws2, hp2⟩ no, fun _ H22 x22 => ?_⟩
            exact ⟨.none, .none, .non, .non, rfl, rfl, ⟨false, rfl, iteF ⟨_, _, _, rfl, x1820.trans (.of (x21.trans x22)), S20.ext (x21.trans x22)⟩⟩⟩
        · rintro σ H19 ⟨p7, p8, p9, rfl, x19, S19⟩
          exact ⟨_, _, _, _, _, _, _, _, rfl, S19, fun Pt hPt => x19.tabs Pt (T18' Pt hPt)⟩
    · rintro σ H3 ⟨o2, o3, o4, o5, o6, o7, o8, o9, rfl, S3, T3'⟩
      exact k H3
end
end Wd

set_option Elab.async false
set_option linter.all false
set_option maxRecDepth 100000
set_option maxHeartbeats 4000000
namespace Wd
open PySem PySem.Spec PyProof.Rows L2 Bx Gx














































/-! ### the head -/
theorem funC_of {K : PySem.W.Frag} {x qual : Str} {st : Stmt} {p : Str × Option Str} {fd : FuncData} (F : FunD K x qual (defArgs st) (defBody st) (defScope st) [] [] (He.fAd K p) fd) : FunC K x qual st (He.fAd K p) fd (He.codeOf K p) := by
  obtain ⟨oc, od, dV, kV, doc, pm, an, cdv, ct, osl, e, l, c, hd, _⟩ := F.ex
  rcases hd with ⟨_, e2⟩ | ⟨e2, _⟩
  · subst e2
    obtain ⟨c0, rfl⟩ := He.codeIn_ref c
    have ec : He.codeOf K p = c0 := He.codeOf_eq l (by rw [e])
    rw [ec]
    exact ⟨⟨oc, od, kV, doc, pm, an, ct, osl, e, l, c⟩, F.kp⟩
  · exact absurd rfl e2
theorem kb_swp {K : PySem.W.Frag} {x qual : Str} {st : Stmt} {f : Addr} {fd : FuncData} {a b : Str} (F : Fun K x qual st f fd)
    (h : ∀ (kV doc pm : Value) (an : Option Addr) (cdv ct : Value) (u v : Value), bindArgs (PySem.W.fnOf x qual (defArgs st) (defBody st) (defScope st) .none kV doc pm an cdv ct) ⟨[], [(b, v), (a, u)]⟩ = pure [(a, u), (b, v)]) : KBinds K fd [a, b] [b, a] swp swp := by
  obtain ⟨oc, od, kV, doc, pm, an, cdv, ct, osl, rfl, lk, hc⟩ := F.ex
  refine ⟨fun s us ws _ hl => ?_, swp_rel⟩
  match us, ws, hl with
  | [], [v, u], _ => exact .of_eq (h kV doc pm an cdv ct u v)
  | [], [], hl => cases hl
  | [], [_], hl => cases hl
  | [], _ :: _ :: _ :: _, hl => cases hl
  | _ :: _, _, hl => cases hl

def d_is_integer : He.DefD := ⟨("is_integer", none), "is_integer", "is_integer", defArgs st_is_integer, defBody st_is_integer, defScope st_is_integer, [], []⟩
def d_is_place : He.DefD := ⟨("is_place", none), "is_place", "is_place", defArgs st_is_place, defBody st_is_place, defScope st_is_place, [], []⟩
def d_is_ascending : He.DefD := ⟨("is_ascending", none), "is_ascending", "is_ascending", defArgs st_is_ascending, defBody st_is_ascending, defScope st_is_ascending, [], []⟩
def d_is_lot : He.DefD := ⟨("is_lot", none), "is_lot", "is_lot", defArgs st_is_lot, defBody st_is_lot, defScope st_is_lot, [], []⟩
def d_mask_of : He.DefD := ⟨("mask_of", none), "mask_of", "mask_of", defArgs st_mask_of, defBody st_mask_of, defScope st_mask_of, [], []⟩
def d_lot_of : He.DefD := ⟨("lot_of", none), "lot_of", "lot_of", defArgs st_lot_of, defBody st_lot_of, defScope st_lot_of, [], []⟩
def d_whole_mask : He.DefD := ⟨("whole_mask", none), "whole_mask", "whole_mask", defArgs st_whole_mask, defBody st_whole_mask, defScope st_whole_mask, [], []⟩
def d_links_of : He.DefD := ⟨("links_of", none), "links_of", "links_of", defArgs st_links_of, defBody st_links_of, defScope st_links_of, [], []⟩
def d_reached : He.DefD := ⟨("reached", none), "reached", "reached", defArgs st_reached, defBody st_reached, defScope st_reached, [], []⟩
def d_hangs_together : He.DefD := ⟨("hangs_together", none), "hangs_together", "hangs_together", defArgs st_hangs_together, defBody st_hangs_together, defScope st_hangs_together, [], []⟩
def d_is_border : He.DefD := ⟨("is_border", none), "is_border", "is_border", defArgs st_is_border, defBody st_is_border, defScope st_is_border, [], []⟩
def d_fault_of_folk : He.DefD := ⟨("fault_of_folk", none), "fault_of_folk", "fault_of_folk", defArgs st_fault_of_folk, defBody st_fault_of_folk, defScope st_fault_of_folk, [], []⟩
def d_fault_of_borders : He.DefD := ⟨("fault_of_borders", none), "fault_of_borders", "fault_of_borders", defArgs st_fault_of_borders, defBody st_fault_of_borders, defScope st_fault_of_borders, [], []⟩
def d_fault_of_land : He.DefD := ⟨("fault_of_land", none), "fault_of_land", "fault_of_land", defArgs st_fault_of_land, defBody st_fault_of_land, defScope st_fault_of_land, [], []⟩
def d_fault_of_plan : He.DefD := ⟨("fault_of_plan", none), "fault_of_plan", "fault_of_plan", defArgs st_fault_of_plan, defBody st_fault_of_plan, defScope st_fault_of_plan, [], []⟩
def d_check_land : He.DefD := ⟨("check_land", none), "check_land", "check_land", defArgs st_check_land, defBody st_check_land, defScope st_check_land, [], []⟩
def d_check_plan : He.DefD := ⟨("check_plan", none), "check_plan", "check_plan", defArgs st_check_plan, defBody st_check_plan, defScope st_check_plan, [], []⟩
def d_ward_row : He.DefD := ⟨("ward_row", none), "ward_row", "ward_row", defArgs st_ward_row, defBody st_ward_row, defScope st_ward_row, [], []⟩
def d_plan_with : He.DefD := ⟨("plan_with", none), "plan_with", "plan_with", defArgs st_plan_with, defBody st_plan_with, defScope st_plan_with, [], []⟩
def d_sign_of : He.DefD := ⟨("sign_of", none), "sign_of", "sign_of", defArgs st_sign_of, defBody st_sign_of, defScope st_sign_of, [], []⟩
def d_arcs_of : He.DefD := ⟨("arcs_of", none), "arcs_of", "arcs_of", defArgs st_arcs_of, defBody st_arcs_of, defScope st_arcs_of, [], []⟩
def d_arcs : He.DefD := ⟨("arcs", none), "arcs", "arcs", defArgs st_arcs, defBody st_arcs, defScope st_arcs, [], []⟩
def d_square : He.DefD := ⟨("square", none), "square", "square", defArgs st_square, defBody st_square, defScope st_square, [], []⟩
def d_are_rows : He.DefD := ⟨("are_rows", none), "are_rows", "are_rows", defArgs st_are_rows, defBody st_are_rows, defScope st_are_rows, [], []⟩
def d_places_at : He.DefD := ⟨("places_at", none), "places_at", "places_at", defArgs st_places_at, defBody st_places_at, defScope st_places_at, [], []⟩
def d_arcs_told : He.DefD := ⟨("arcs_told", none), "arcs_told", "arcs_told", defArgs st_arcs_told, defBody st_arcs_told, defScope st_arcs_told, [], []⟩
def d__law_spring : He.DefD := ⟨("_law_spring", none), "_law_spring", "_law_spring", defArgs st__law_spring, defBody st__law_spring, defScope st__law_spring, [], []⟩
def d__law_drop : He.DefD := ⟨("_law_drop", none), "_law_drop", "_law_drop", defArgs st__law_drop, defBody st__law_drop, defScope st__law_drop, [], []⟩
def d__law_order : He.DefD := ⟨("_law_order", none), "_law_order", "_law_order", defArgs st__law_order, defBody st__law_order, defScope st__law_order, [], []⟩
def d__law_land : He.DefD := ⟨("_law_land", none), "_law_land", "_law_land", defArgs st__law_land, defBody st__law_land, defScope st__law_land, [], []⟩
def d__law_near : He.DefD := ⟨("_law_near", none), "_law_near", "_law_near", defArgs st__law_near, defBody st__law_near, defScope st__law_near, [], []⟩
def d__law_reached : He.DefD := ⟨("_law_reached", none), "_law_reached", "_law_reached", defArgs st__law_reached, defBody st__law_reached, defScope st__law_reached, [], []⟩
def d__law_pieces : He.DefD := ⟨("_law_pieces", none), "_law_pieces", "_law_pieces", defArgs st__law_pieces, defBody st__law_pieces, defScope st__law_pieces, [], []⟩
def d__law_plan : He.DefD := ⟨("_law_plan", none), "_law_plan", "_law_plan", defArgs st__law_plan, defBody st__law_plan, defScope st__law_plan, [], []⟩
def d__law_owners : He.DefD := ⟨("_law_owners", none), "_law_owners", "_law_owners", defArgs st__law_owners, defBody st__law_owners, defScope st__law_owners, [], []⟩
def d__law_arcs : He.DefD := ⟨("_law_arcs", none), "_law_arcs", "_law_arcs", defArgs st__law_arcs, defBody st__law_arcs, defScope st__law_arcs, [], []⟩
def d__law_told : He.DefD := ⟨("_law_told", none), "_law_told", "_law_told", defArgs st__law_told, defBody st__law_told, defScope st__law_told, [], []⟩
def d__law_due : He.DefD := ⟨("_law_due", none), "_law_due", "_law_due", defArgs st__law_due, defBody st__law_due, defScope st__law_due, [], []⟩
def d__law_spoilt : He.DefD := ⟨("_law_spoilt", none), "_law_spoilt", "_law_spoilt", defArgs st__law_spoilt, defBody st__law_spoilt, defScope st__law_spoilt, [], []⟩
def d_law : He.DefD := ⟨("law", none), "law", "law", defArgs st_law, defBody st_law, defScope st_law, [], []⟩
def fnl : List He.DefD := [d_is_integer, d_is_place, d_is_ascending, d_is_lot, d_mask_of, d_lot_of, d_whole_mask, d_links_of, d_reached, d_hangs_together, d_is_border, d_fault_of_folk, d_fault_of_borders, d_fault_of_land, d_fault_of_plan, d_check_land, d_check_plan, d_ward_row, d_plan_with, d_sign_of, d_arcs_of, d_arcs, d_square, d_are_rows, d_places_at, d_arcs_told, d__law_spring, d__law_drop, d__law_order, d__law_land, d__law_near, d__law_reached, d__law_pieces, d__law_plan, d__law_owners, d__law_arcs, d__law_told, d__law_due, d__law_spoilt, d_law]
def fal : List He.Fa := [.glo "is_integer", .glo "is_place", .glo "is_ascending", .glo "is_lot", .glo "mask_of", .glo "lot_of", .glo "whole_mask", .glo "links_of", .glo "reached", .glo "hangs_together", .glo "is_border", .glo "fault_of_folk", .glo "fault_of_borders", .glo "fault_of_land", .glo "fault_of_plan", .glo "check_land", .glo "check_plan", .glo "ward_row", .glo "plan_with", .glo "sign_of", .glo "arcs_of", .glo "arcs", .glo "square", .glo "are_rows", .glo "places_at", .glo "arcs_told", .glo "_law_spring", .glo "_law_drop", .glo "_law_order", .glo "_law_land", .glo "_law_near", .glo "_law_reached", .glo "_law_pieces", .glo "_law_plan", .glo "_law_owners", .glo "_law_arcs", .glo "_law_told", .glo "_law_due", .glo "_law_spoilt", .glo "law", .free "type", .free "len", .free "all", .free "sum", .free "tuple", .free "list", .free "range", .free "int", .free "bool", .free "str", .free "min", .free "max", .free "sorted", .free "isinstance", .free "set", .int "FEWEST_PLACES" 2, .int "MOST_PLACES" 12, .int "MOST_FOLK" 1000000, .exc "InvalidPart", .glo "InvalidPart", .glo "WardError", .exm "InvalidPart" "InvalidPart" true, .str "LETTERS" "abcdefghijkl"]
def tfl : List He.Defn := [("is_lot", none), ("is_ascending", none), ("mask_of", none), ("lot_of", none), ("places_at", none), ("are_rows", none), ("arcs_told", none)]
theorem facts {l : PySem.W.OpenLaw} {w : World} {K : PySem.W.Frag} {h : Heap} {mg : Str → Option Value} {f : Addr} (X : K.In h) (G : h.Ns mainGlobals mg) (hfa : mg ("law" : Str) = some (.ref f)) (c : He.SaysX fal fnl [] tfl (fun _ => true) w h K) :
    LamX.LawAtS l w K CX0 14 63 "script" mg f h := by
  obtain ⟨e0, D0'⟩ := c.t.d.def_ 0 (d := d_is_integer) rfl
  have D0 : FunD K "is_integer" "is_integer" (defArgs st_is_integer) (defBody st_is_integer) (defScope st_is_integer) [] [] (He.fAd K ("is_integer", none)) e0 := D0'
  have g0 := He.glo_ok X G (c.t.d.fact 0 (f := .glo "is_integer") rfl)
  have b0 := D0.bindsN (ps := ["value", "low", "high"]) fun _ _ _ _ _ _ us hl => match us, hl with | [_, _, _], _ => rfl
  have F0 := He5.fun_of D0
  obtain ⟨e1, D1'⟩ := c.t.d.def_ 1 (d := d_is_place) rfl
  have D1 : FunD K "is_place" "is_place" (defArgs st_is_place) (defBody st_is_place) (defScope st_is_place) [] [] (He.fAd K ("is_place", none)) e1 := D1'
  have g1 := He.glo_ok X G (c.t.d.fact 1 (f := .glo "is_place") rfl)
  have b1 := D1.bindsN (ps := ["land", "value"]) fun _ _ _ _ _ _ us hl => match us, hl with | [_, _], _ => rfl
  have F1 := He5.fun_of D1
  obtain ⟨e2, D2'⟩ := c.t.d.def_ 2 (d := d_is_ascending) rfl
  have D2 : FunD K "is_ascending" "is_ascending" (defArgs st_is_ascending) (defBody st_is_ascending) (defScope st_is_ascending) [] [] (He.fAd K ("is_ascending", none)) e2 := D2'
  have g2 := He.glo_ok X G (c.t.d.fact 2 (f := .glo "is_ascending") rfl)
  have b2 := D2.bindsN (ps := ["row"]) fun _ _ _ _ _ _ us hl => match us, hl with | [_], _ => rfl
  have F2 := He5.fun_of D2
  obtain ⟨e3, D3'⟩ := c.t.d.def_ 3 (d := d_is_lot) rfl
  have D3 : FunD K "is_lot" "is_lot" (defArgs st_is_lot) (defBody st_is_lot) (defScope st_is_lot) [] [] (He.fAd K ("is_lot", none)) e3 := D3'
  have g3 := He.glo_ok X G (c.t.d.fact 3 (f := .glo "is_lot") rfl)
  have b3 := D3.bindsN (ps := ["land", "value"]) fun _ _ _ _ _ _ us hl => match us, hl with | [_, _], _ => rfl
  have F3 := He5.fun_of D3
  obtain ⟨e4, D4'⟩ := c.t.d.def_ 4 (d := d_mask_of) rfl
  have D4 : FunD K "mask_of" "mask_of" (defArgs st_mask_of) (defBody st_mask_of) (defScope st_mask_of) [] [] (He.fAd K ("mask_of", none)) e4 := D4'
  have g4 := He.glo_ok X G (c.t.d.fact 4 (f := .glo "mask_of") rfl)
  have b4 := D4.bindsN (ps := ["lot"]) fun _ _ _ _ _ _ us hl => match us, hl with | [_], _ => rfl
  have F4 := He5.fun_of D4
  obtain ⟨e5, D5'⟩ := c.t.d.def_ 5 (d := d_lot_of) rfl
  have D5 : FunD K "lot_of" "lot_of" (defArgs st_lot_of) (defBody st_lot_of) (defScope st_lot_of) [] [] (He.fAd K ("lot_of", none)) e5 := D5'
  have g5 := He.glo_ok X G (c.t.d.fact 5 (f := .glo "lot_of") rfl)
  have b5 := D5.bindsN (ps := ["mask"]) fun _ _ _ _ _ _ us hl => match us, hl with | [_], _ => rfl
  have F5 := He5.fun_of D5
  obtain ⟨e6, D6'⟩ := c.t.d.def_ 6 (d := d_whole_mask) rfl
  have D6 : FunD K "whole_mask" "whole_mask" (defArgs st_whole_mask) (defBody st_whole_mask) (defScope st_whole_mask) [] [] (He.fAd K ("whole_mask", none)) e6 := D6'
  have g6 := He.glo_ok X G (c.t.d.fact 6 (f := .glo "whole_mask") rfl)
  have b6 := D6.bindsN (ps := ["land"]) fun _ _ _ _ _ _ us hl => match us, hl with | [_], _ => rfl
  have F6 := He5.fun_of D6
  obtain ⟨e7, D7'⟩ := c.t.d.def_ 7 (d := d_links_of) rfl
  have D7 : FunD K "links_of" "links_of" (defArgs st_links_of) (defBody st_links_of) (defScope st_links_of) [] [] (He.fAd K ("links_of", none)) e7 := D7'
  have g7 := He.glo_ok X G (c.t.d.fact 7 (f := .glo "links_of") rfl)
  have b7 := D7.bindsN (ps := ["land"]) fun _ _ _ _ _ _ us hl => match us, hl with | [_], _ => rfl
  have F7 := He5.fun_of D7
  obtain ⟨e8, D8'⟩ := c.t.d.def_ 8 (d := d_reached) rfl
  have D8 : FunD K "reached" "reached" (defArgs st_reached) (defBody st_reached) (defScope st_reached) [] [] (He.fAd K ("reached", none)) e8 := D8'
  have g8 := He.glo_ok X G (c.t.d.fact 8 (f := .glo "reached") rfl)
  have b8 := D8.bindsN (ps := ["links", "start", "mask"]) fun _ _ _ _ _ _ us hl => match us, hl with | [_, _, _], _ => rfl
  have F8 := He5.fun_of D8
  obtain ⟨e9, D9'⟩ := c.t.d.def_ 9 (d := d_hangs_together) rfl
  have D9 : FunD K "hangs_together" "hangs_together" (defArgs st_hangs_together) (defBody st_hangs_together) (defScope st_hangs_together) [] [] (He.fAd K ("hangs_together", none)) e9 := D9'
  have g9 := He.glo_ok X G (c.t.d.fact 9 (f := .glo "hangs_together") rfl)
  have b9 := D9.bindsN (ps := ["links", "mask"]) fun _ _ _ _ _ _ us hl => match us, hl with | [_, _], _ => rfl
  have F9 := He5.fun_of D9
  obtain ⟨e10, D10'⟩ := c.t.d.def_ 10 (d := d_is_border) rfl
  have D10 : FunD K "is_border" "is_border" (defArgs st_is_border) (defBody st_is_border) (defScope st_is_border) [] [] (He.fAd K ("is_border", none)) e10 := D10'
  have g10 := He.glo_ok X G (c.t.d.fact 10 (f := .glo "is_border") rfl)
  have b10 := D10.bindsN (ps := ["value", "many"]) fun _ _ _ _ _ _ us hl => match us, hl with | [_, _], _ => rfl
  have F10 := He5.fun_of D10
  obtain ⟨e11, D11'⟩ := c.t.d.def_ 11 (d := d_fault_of_folk) rfl
  have D11 : FunD K "fault_of_folk" "fault_of_folk" (defArgs st_fault_of_folk) (defBody st_fault_of_folk) (defScope st_fault_of_folk) [] [] (He.fAd K ("fault_of_folk", none)) e11 := D11'
  have g11 := He.glo_ok X G (c.t.d.fact 11 (f := .glo "fault_of_folk") rfl)
  have b11 := D11.bindsN (ps := ["folk"]) fun _ _ _ _ _ _ us hl => match us, hl with | [_], _ => rfl
  have F11 := He5.fun_of D11
  obtain ⟨e12, D12'⟩ := c.t.d.def_ 12 (d := d_fault_of_borders) rfl
  have D12 : FunD K "fault_of_borders" "fault_of_borders" (defArgs st_fault_of_borders) (defBody st_fault_of_borders) (defScope st_fault_of_borders) [] [] (He.fAd K ("fault_of_borders", none)) e12 := D12'
  have g12 := He.glo_ok X G (c.t.d.fact 12 (f := .glo "fault_of_borders") rfl)
  have b12 := D12.bindsN (ps := ["borders", "many"]) fun _ _ _ _ _ _ us hl => match us, hl with | [_, _], _ => rfl
  have F12 := He5.fun_of D12
  obtain ⟨e13, D13'⟩ := c.t.d.def_ 13 (d := d_fault_of_land) rfl
  have D13 : FunD K "fault_of_land" "fault_of_land" (defArgs st_fault_of_land) (defBody st_fault_of_land) (defScope st_fault_of_land) [] [] (He.fAd K ("fault_of_land", none)) e13 := D13'
  have g13 := He.glo_ok X G (c.t.d.fact 13 (f := .glo "fault_of_land") rfl)
  have b13 := D13.bindsN (ps := ["value"]) fun _ _ _ _ _ _ us hl => match us, hl with | [_], _ => rfl
  have F13 := He5.fun_of D13
  obtain ⟨e14, D14'⟩ := c.t.d.def_ 14 (d := d_fault_of_plan) rfl
  have D14 : FunD K "fault_of_plan" "fault_of_plan" (defArgs st_fault_of_plan) (defBody st_fault_of_plan) (defScope st_fault_of_plan) [] [] (He.fAd K ("fault_of_plan", none)) e14 := D14'
  have g14 := He.glo_ok X G (c.t.d.fact 14 (f := .glo "fault_of_plan") rfl)
  have b14 := D14.bindsN (ps := ["land", "value"]) fun _ _ _ _ _ _ us hl => match us, hl with | [_, _], _ => rfl
  have F14 := He5.fun_of D14
  obtain ⟨e15, D15'⟩ := c.t.d.def_ 15 (d := d_check_land) rfl
  have D15 : FunD K "check_land" "check_land" (defArgs st_check_land) (defBody st_check_land) (defScope st_check_land) [] [] (He.fAd K ("check_land", none)) e15 := D15'
  have g15 := He.glo_ok X G (c.t.d.fact 15 (f := .glo "check_land") rfl)
  have b15 := D15.bindsN (ps := ["land"]) fun _ _ _ _ _ _ us hl => match us, hl with | [_], _ => rfl
  have F15 := He5.fun_of D15
  obtain ⟨e16, D16'⟩ := c.t.d.def_ 16 (d := d_check_plan) rfl
  have D16 : FunD K "check_plan" "check_plan" (defArgs st_check_plan) (defBody st_check_plan) (defScope st_check_plan) [] [] (He.fAd K ("check_plan", none)) e16 := D16'
  have g16 := He.glo_ok X G (c.t.d.fact 16 (f := .glo "check_plan") rfl)
  have b16 := D16.bindsN (ps := ["land", "plan"]) fun _ _ _ _ _ _ us hl => match us, hl with | [_, _], _ => rfl
  have F16 := He5.fun_of D16
  obtain ⟨e17, D17'⟩ := c.t.d.def_ 17 (d := d_ward_row) rfl
  have D17 : FunD K "ward_row" "ward_row" (defArgs st_ward_row) (defBody st_ward_row) (defScope st_ward_row) [] [] (He.fAd K ("ward_row", none)) e17 := D17'
  have g17 := He.glo_ok X G (c.t.d.fact 17 (f := .glo "ward_row") rfl)
  have b17 := D17.bindsN (ps := ["plan"]) fun _ _ _ _ _ _ us hl => match us, hl with | [_], _ => rfl
  have F17 := He5.fun_of D17
  obtain ⟨e18, D18'⟩ := c.t.d.def_ 18 (d := d_plan_with) rfl
  have D18 : FunD K "plan_with" "plan_with" (defArgs st_plan_with) (defBody st_plan_with) (defScope st_plan_with) [] [] (He.fAd K ("plan_with", none)) e18 := D18'
  have g18 := He.glo_ok X G (c.t.d.fact 18 (f := .glo "plan_with") rfl)
  have b18 := D18.bindsN (ps := ["wards"]) fun _ _ _ _ _ _ us hl => match us, hl with | [_], _ => rfl
  have F18 := He5.fun_of D18
  obtain ⟨e19, D19'⟩ := c.t.d.def_ 19 (d := d_sign_of) rfl
  have D19 : FunD K "sign_of" "sign_of" (defArgs st_sign_of) (defBody st_sign_of) (defScope st_sign_of) [] [] (He.fAd K ("sign_of", none)) e19 := D19'
  have g19 := He.glo_ok X G (c.t.d.fact 19 (f := .glo "sign_of") rfl)
  have b19 := D19.bindsN (ps := ["land", "row", "one", "other"]) fun _ _ _ _ _ _ us hl => match us, hl with | [_, _, _, _], _ => rfl
  have F19 := He5.fun_of D19
  obtain ⟨e20, D20'⟩ := c.t.d.def_ 20 (d := d_arcs_of) rfl
  have D20 : FunD K "arcs_of" "arcs_of" (defArgs st_arcs_of) (defBody st_arcs_of) (defScope st_arcs_of) [] [] (He.fAd K ("arcs_of", none)) e20 := D20'
  have g20 := He.glo_ok X G (c.t.d.fact 20 (f := .glo "arcs_of") rfl)
  have b20 := D20.bindsN (ps := ["land", "plan"]) fun _ _ _ _ _ _ us hl => match us, hl with | [_, _], _ => rfl
  have F20 := He5.fun_of D20
  obtain ⟨e21, D21'⟩ := c.t.d.def_ 21 (d := d_arcs) rfl
  have D21 : FunD K "arcs" "arcs" (defArgs st_arcs) (defBody st_arcs) (defScope st_arcs) [] [] (He.fAd K ("arcs", none)) e21 := D21'
  have g21 := He.glo_ok X G (c.t.d.fact 21 (f := .glo "arcs") rfl)
  have b21 := D21.bindsN (ps := ["land", "plan"]) fun _ _ _ _ _ _ us hl => match us, hl with | [_, _], _ => rfl
  have F21 := He5.fun_of D21
  obtain ⟨e22, D22'⟩ := c.t.d.def_ 22 (d := d_square) rfl
  have D22 : FunD K "square" "square" (defArgs st_square) (defBody st_square) (defScope st_square) [] [] (He.fAd K ("square", none)) e22 := D22'
  have g22 := He.glo_ok X G (c.t.d.fact 22 (f := .glo "square") rfl)
  have b22 := D22.bindsN (ps := ["land", "plan"]) fun _ _ _ _ _ _ us hl => match us, hl with | [_, _], _ => rfl
  have F22 := He5.fun_of D22
  obtain ⟨e23, D23'⟩ := c.t.d.def_ 23 (d := d_are_rows) rfl
  have D23 : FunD K "are_rows" "are_rows" (defArgs st_are_rows) (defBody st_are_rows) (defScope st_are_rows) [] [] (He.fAd K ("are_rows", none)) e23 := D23'
  have g23 := He.glo_ok X G (c.t.d.fact 23 (f := .glo "are_rows") rfl)
  have b23 := D23.bindsN (ps := ["value", "many"]) fun _ _ _ _ _ _ us hl => match us, hl with | [_, _], _ => rfl
  have F23 := He5.fun_of D23
  obtain ⟨e24, D24'⟩ := c.t.d.def_ 24 (d := d_places_at) rfl
  have D24 : FunD K "places_at" "places_at" (defArgs st_places_at) (defBody st_places_at) (defScope st_places_at) [] [] (He.fAd K ("places_at", none)) e24 := D24'
  have g24 := He.glo_ok X G (c.t.d.fact 24 (f := .glo "places_at") rfl)
  have b24 := D24.bindsN (ps := ["row", "sign"]) fun _ _ _ _ _ _ us hl => match us, hl with | [_, _], _ => rfl
  have F24 := He5.fun_of D24
  obtain ⟨e25, D25'⟩ := c.t.d.def_ 25 (d := d_arcs_told) rfl
  have D25 : FunD K "arcs_told" "arcs_told" (defArgs st_arcs_told) (defBody st_arcs_told) (defScope st_arcs_told) [] [] (He.fAd K ("arcs_told", none)) e25 := D25'
  have g25 := He.glo_ok X G (c.t.d.fact 25 (f := .glo "arcs_told") rfl)
  have b25 := D25.bindsN (ps := ["folk", "rows"]) fun _ _ _ _ _ _ us hl => match us, hl with | [_, _], _ => rfl
  have F25 := He5.fun_of D25
  obtain ⟨e26, D26'⟩ := c.t.d.def_ 26 (d := d__law_spring) rfl
  have D26 : FunD K "_law_spring" "_law_spring" (defArgs st__law_spring) (defBody st__law_spring) (defScope st__law_spring) [] [] (He.fAd K ("_law_spring", none)) e26 := D26'
  have g26 := He.glo_ok X G (c.t.d.fact 26 (f := .glo "_law_spring") rfl)
  have b26 := D26.bindsN (ps := ["script"]) fun _ _ _ _ _ _ us hl => match us, hl with | [_], _ => rfl
  have F26 := He5.fun_of D26
  obtain ⟨e27, D27'⟩ := c.t.d.def_ 27 (d := d__law_drop) rfl
  have D27 : FunD K "_law_drop" "_law_drop" (defArgs st__law_drop) (defBody st__law_drop) (defScope st__law_drop) [] [] (He.fAd K ("_law_drop", none)) e27 := D27'
  have g27 := He.glo_ok X G (c.t.d.fact 27 (f := .glo "_law_drop") rfl)
  have b27 := D27.bindsN (ps := ["spring", "many"]) fun _ _ _ _ _ _ us hl => match us, hl with | [_, _], _ => rfl
  have F27 := He5.fun_of D27
  obtain ⟨e28, D28'⟩ := c.t.d.def_ 28 (d := d__law_order) rfl
  have D28 : FunD K "_law_order" "_law_order" (defArgs st__law_order) (defBody st__law_order) (defScope st__law_order) [] [] (He.fAd K ("_law_order", none)) e28 := D28'
  have g28 := He.glo_ok X G (c.t.d.fact 28 (f := .glo "_law_order") rfl)
  have b28 := D28.bindsN (ps := ["spring", "many"]) fun _ _ _ _ _ _ us hl => match us, hl with | [_, _], _ => rfl
  have F28 := He5.fun_of D28
  obtain ⟨e29, D29'⟩ := c.t.d.def_ 29 (d := d__law_land) rfl
  have D29 : FunD K "_law_land" "_law_land" (defArgs st__law_land) (defBody st__law_land) (defScope st__law_land) [] [] (He.fAd K ("_law_land", none)) e29 := D29'
  have g29 := He.glo_ok X G (c.t.d.fact 29 (f := .glo "_law_land") rfl)
  have b29 := D29.bindsN (ps := ["spring", "places"]) fun _ _ _ _ _ _ us hl => match us, hl with | [_, _], _ => rfl
  have F29 := He5.fun_of D29
  obtain ⟨e30, D30'⟩ := c.t.d.def_ 30 (d := d__law_near) rfl
  have D30 : FunD K "_law_near" "_law_near" (defArgs st__law_near) (defBody st__law_near) (defScope st__law_near) [] [] (He.fAd K ("_law_near", none)) e30 := D30'
  have g30 := He.glo_ok X G (c.t.d.fact 30 (f := .glo "_law_near") rfl)
  have b30 := D30.bindsN (ps := ["land", "place"]) fun _ _ _ _ _ _ us hl => match us, hl with | [_, _], _ => rfl
  have F30 := He5.fun_of D30
  obtain ⟨e31, D31'⟩ := c.t.d.def_ 31 (d := d__law_reached) rfl
  have D31 : FunD K "_law_reached" "_law_reached" (defArgs st__law_reached) (defBody st__law_reached) (defScope st__law_reached) [] [] (He.fAd K ("_law_reached", none)) e31 := D31'
  have g31 := He.glo_ok X G (c.t.d.fact 31 (f := .glo "_law_reached") rfl)
  have b31 := D31.bindsN (ps := ["land", "lot", "place"]) fun _ _ _ _ _ _ us hl => match us, hl with | [_, _, _], _ => rfl
  have F31 := He5.fun_of D31
  obtain ⟨e32, D32'⟩ := c.t.d.def_ 32 (d := d__law_pieces) rfl
  have D32 : FunD K "_law_pieces" "_law_pieces" (defArgs st__law_pieces) (defBody st__law_pieces) (defScope st__law_pieces) [] [] (He.fAd K ("_law_pieces", none)) e32 := D32'
  have g32 := He.glo_ok X G (c.t.d.fact 32 (f := .glo "_law_pieces") rfl)
  have b32 := D32.bindsN (ps := ["land", "lot"]) fun _ _ _ _ _ _ us hl => match us, hl with | [_, _], _ => rfl
  have F32 := He5.fun_of D32
  obtain ⟨e33, D33'⟩ := c.t.d.def_ 33 (d := d__law_plan) rfl
  have D33 : FunD K "_law_plan" "_law_plan" (defArgs st__law_plan) (defBody st__law_plan) (defScope st__law_plan) [] [] (He.fAd K ("_law_plan", none)) e33 := D33'
  have g33 := He.glo_ok X G (c.t.d.fact 33 (f := .glo "_law_plan") rfl)
  have b33 := D33.bindsN (ps := ["spring", "land"]) fun _ _ _ _ _ _ us hl => match us, hl with | [_, _], _ => rfl
  have F33 := He5.fun_of D33
  obtain ⟨e34, D34'⟩ := c.t.d.def_ 34 (d := d__law_owners) rfl
  have D34 : FunD K "_law_owners" "_law_owners" (defArgs st__law_owners) (defBody st__law_owners) (defScope st__law_owners) [] [] (He.fAd K ("_law_owners", none)) e34 := D34'
  have g34 := He.glo_ok X G (c.t.d.fact 34 (f := .glo "_law_owners") rfl)
  have b34 := D34.bindsN (ps := ["land", "plan"]) fun _ _ _ _ _ _ us hl => match us, hl with | [_, _], _ => rfl
  have F34 := He5.fun_of D34
  obtain ⟨e35, D35'⟩ := c.t.d.def_ 35 (d := d__law_arcs) rfl
  have D35 : FunD K "_law_arcs" "_law_arcs" (defArgs st__law_arcs) (defBody st__law_arcs) (defScope st__law_arcs) [] [] (He.fAd K ("_law_arcs", none)) e35 := D35'
  have g35 := He.glo_ok X G (c.t.d.fact 35 (f := .glo "_law_arcs") rfl)
  have b35 := D35.bindsN (ps := ["land", "plan"]) fun _ _ _ _ _ _ us hl => match us, hl with | [_, _], _ => rfl
  have F35 := He5.fun_of D35
  obtain ⟨e36, D36'⟩ := c.t.d.def_ 36 (d := d__law_told) rfl
  have D36 : FunD K "_law_told" "_law_told" (defArgs st__law_told) (defBody st__law_told) (defScope st__law_told) [] [] (He.fAd K ("_law_told", none)) e36 := D36'
  have g36 := He.glo_ok X G (c.t.d.fact 36 (f := .glo "_law_told") rfl)
  have b36 := D36.bindsN (ps := ["folk", "rows"]) fun _ _ _ _ _ _ us hl => match us, hl with | [_, _], _ => rfl
  have F36 := He5.fun_of D36
  obtain ⟨e37, D37'⟩ := c.t.d.def_ 37 (d := d__law_due) rfl
  have D37 : FunD K "_law_due" "_law_due" (defArgs st__law_due) (defBody st__law_due) (defScope st__law_due) [] [] (He.fAd K ("_law_due", none)) e37 := D37'
  have g37 := He.glo_ok X G (c.t.d.fact 37 (f := .glo "_law_due") rfl)
  have b37 := D37.bindsN (ps := ["folk", "rows"]) fun _ _ _ _ _ _ us hl => match us, hl with | [_, _], _ => rfl
  have F37 := He5.fun_of D37
  obtain ⟨e38, D38'⟩ := c.t.d.def_ 38 (d := d__law_spoilt) rfl
  have D38 : FunD K "_law_spoilt" "_law_spoilt" (defArgs st__law_spoilt) (defBody st__law_spoilt) (defScope st__law_spoilt) [] [] (He.fAd K ("_law_spoilt", none)) e38 := D38'
  have g38 := He.glo_ok X G (c.t.d.fact 38 (f := .glo "_law_spoilt") rfl)
  have b38 := D38.bindsN (ps := ["spring", "rows"]) fun _ _ _ _ _ _ us hl => match us, hl with | [_, _], _ => rfl
  have F38 := He5.fun_of D38
  obtain ⟨e39, D39'⟩ := c.t.d.def_ 39 (d := d_law) rfl
  have D39 : FunD K "law" "law" (defArgs st_law) (defBody st_law) (defScope st_law) [] [] (He.fAd K ("law", none)) e39 := D39'
  have g39 := He.glo_ok X G (c.t.d.fact 39 (f := .glo "law") rfl)
  have b39 := D39.bindsN (ps := ["script"]) fun _ _ _ _ _ _ us hl => match us, hl with | [_], _ => rfl
  have F39 := He5.fun_of D39
  have B : Bl mg := ⟨He.free_ok X G (c.t.d.fact 40 (f := .free "type") rfl), He.free_ok X G (c.t.d.fact 41 (f := .free "len") rfl), He.free_ok X G (c.t.d.fact 42 (f := .free "all") rfl), He.free_ok X G (c.t.d.fact 43 (f := .free "sum") rfl), He.free_ok X G (c.t.d.fact 44 (f := .free "tuple") rfl), He.free_ok X G (c.t.d.fact 45 (f := .free "list") rfl), He.free_ok X G (c.t.d.fact 46 (f := .free "range") rfl), He.free_ok X G (c.t.d.fact 47 (f := .free "int") rfl), He.free_ok X G (c.t.d.fact 48 (f := .free "bool") rfl), He.free_ok X G (c.t.d.fact 49 (f := .free "str") rfl), He.free_ok X G (c.t.d.fact 50 (f := .free "min") rfl), He.free_ok X G (c.t.d.fact 51 (f := .free "max") rfl), He.free_ok X G (c.t.d.fact 52 (f := .free "sorted") rfl), He.free_ok X G (c.t.d.fact 53 (f := .free "isinstance") rfl), He.free_ok X G (c.t.d.fact 54 (f := .free "set") rfl)⟩
  have N : Nums mg := ⟨He.int_ok X G (c.t.d.fact 55 (f := .int "FEWEST_PLACES" 2) rfl), He.int_ok X G (c.t.d.fact 56 (f := .int "MOST_PLACES" 12) rfl), He.int_ok X G (c.t.d.fact 57 (f := .int "MOST_FOLK" 1000000) rfl)⟩
  have XE0 := He.exc_ok (c.t.d.fact 58 (f := .exc "InvalidPart") rfl)
  have XG0 := He.glo_ok X G (c.t.d.fact 59 (f := .glo "InvalidPart") rfl)
  have R0 : Xc K mg "InvalidPart" (He.ga K "InvalidPart") := ⟨XG0, XE0.1, XE0.2.1, XE0.2.2.1, XE0.2.2.2⟩
  have XO0 := He.glo_ok X G (c.t.d.fact 60 (f := .glo "WardError") rfl)
  have XM0 := He.exm_ok (c.t.d.fact 61 (f := .exm "InvalidPart" "InvalidPart" true) rfl)
  have XS0 := He.str_ok X G (c.t.d.fact 62 (f := .str "LETTERS" "abcdefghijkl") rfl)
  have LT : Lets mg := ⟨XS0⟩
  cases hfa.symm.trans g39
  have CF0 := funC_of D3
  have CF1 := funC_of D2
  have CF2 := funC_of D4
  have CF3 := funC_of D5
  have CF4 := funC_of D24
  have CF5 := funC_of D23
  have CF6 := funC_of D25
  have mem : ∀ i (p : He.Defn), tfl[i]? = some p → p ∈ tfl := fun i p e => List.mem_of_getElem? e
  refine ⟨_, tfl.map (He.cT K), spLaw K [(He.cT K ("is_lot", none)).2, (He.cT K ("is_ascending", none)).2, (He.cT K ("mask_of", none)).2, (He.cT K ("lot_of", none)).2, (He.cT K ("places_at", none)).2, (He.cT K ("are_rows", none)).2, (He.cT K ("arcs_told", none)).2], fun p hp => ?_, fun p hp => ?_, fun p hp => ?_, fun s u => FunD.bindsA D39 (ps := ["script"]) (fun _ _ _ _ _ _ us hl => match us, hl with | [_], _ => rfl) s [u] rfl, fun H a ns hl _ hH hS => ?_, fun base hb hg hTB => ?_⟩
  · obtain ⟨q, hq, rfl⟩ := List.mem_map.mp hp
    exact c.empty q hq
  · obtain ⟨q, hq, rfl⟩ := List.mem_map.mp hp
    exact c.out q hq
  · obtain ⟨q, hq, rfl⟩ := List.mem_map.mp hp
    exact PySem.W.codeHd_of_K X (c.hd q hq)
  · have hz : ∀ q, q ∈ tfl → Gx.TabG H (He.cT K q).2 := fun q hq => ⟨#[], hH _ (List.mem_map.mpr ⟨q, hq, rfl⟩), by first | exact trivial | simp [GxR.TriplesOk] | simp⟩
    refine ⟨a, ns, rfl, hS, hl, fun Pt hPt => ?_, fun _ => rfl⟩
    simp only [List.mem_cons, List.mem_nil_iff, or_false] at hPt
    rcases hPt with e | e | e | e | e | e | e <;> rw [e] <;> exact hz _ (by simp [tfl])
  · have tb : ∀ q, q ∈ tfl → TabB base mg (He.cT K q).1 (He.cT K q).2 := fun q hq => hTB _ (List.mem_map.mpr ⟨q, hq, rfl⟩)
    have TB0 := tb ("is_lot", none) (by simp [tfl])
    have TB1 := tb ("is_ascending", none) (by simp [tfl])
    have TB2 := tb ("mask_of", none) (by simp [tfl])
    have TB3 := tb ("lot_of", none) (by simp [tfl])
    have TB4 := tb ("places_at", none) (by simp [tfl])
    have TB5 := tb ("are_rows", none) (by simp [tfl])
    have TB6 := tb ("arcs_told", none) (by simp [tfl])
    have ci : Cal l.prog w K mg base 1 "is_integer" _ _ := ⟨_, _, ok_is_integer F0 B, g0, D0.kp, b0⟩
    have cp : Cal l.prog w K mg base 2 "is_place" _ _ := ⟨_, _, ok_is_place F1 B ci, g1, D1.kp, b1⟩
    have ca : Cal l.prog w K mg base 4 "is_ascending" _ _ := ⟨_, _, ok_is_ascending CF1 TB1 B, g2, D2.kp, b2⟩
    have cl : Cal l.prog w K mg base 6 "is_lot" _ _ := ⟨_, _, ok_is_lot CF0 TB0 B cp ca, g3, D3.kp, b3⟩
    have clA : Cal l.prog w K mg base 6 "is_lot" _ _ := ⟨_, _, ok_is_lotA CF0 TB0 B cp ca, g3, D3.kp, b3⟩
    have cm : Cal l.prog w K mg base 4 "mask_of" _ _ := ⟨_, _, ok_mask_of CF2 TB2 B, g4, D4.kp, b4⟩
    have clo : Cal l.prog w K mg base 6 "lot_of" _ _ := ⟨_, _, ok_lot_of CF3 TB3 B, g5, D5.kp, b5⟩
    have cw : Cal l.prog w K mg base 1 "whole_mask" _ _ := ⟨_, _, ok_whole_mask F6 B, g6, D6.kp, b6⟩
    have clk : Cal l.prog w K mg base 1 "links_of" _ _ := ⟨_, _, ok_links_of F7 B, g7, D7.kp, b7⟩
    have cre : Cal l.prog w K mg base 7 "reached" _ _ := ⟨_, _, ok_reached F8 B clo, g8, D8.kp, b8⟩
    have cht : Cal l.prog w K mg base 8 "hangs_together" _ _ := ⟨_, _, ok_hangs_together F9 cre, g9, D9.kp, b9⟩
    have cib : Cal l.prog w K mg base 2 "is_border" _ _ := ⟨_, _, ok_is_border F10 B ci, g10, D10.kp, b10⟩
    have cff : Cal l.prog w K mg base 2 "fault_of_folk" _ _ := ⟨_, _, ok_fault_of_folk F11 B N ci, g11, D11.kp, b11⟩
    have cfb : Cal l.prog w K mg base 3 "fault_of_borders" _ _ := ⟨_, _, ok_fault_of_borders F12 B cib, g12, D12.kp, b12⟩
    have cfl : Cal l.prog w K mg base 4 "fault_of_land" _ _ := ⟨_, _, ok_fault_of_land F13 B cff cfb, g13, D13.kp, b13⟩
    have cfp : Cal l.prog w K mg base 9 "fault_of_plan" _ _ := ⟨_, _, ok_fault_of_plan F14 B cl cm clk cht cw, g14, D14.kp, b14⟩
    have ckl : Cal l.prog w K mg base 5 "check_land" _ _ := ⟨_, _, ok_check_land F15 cfl, g15, D15.kp, b15⟩
    have ckp : Cal l.prog w K mg base 10 "check_plan" _ _ := ⟨_, _, ok_check_plan F16 cfp, g16, D16.kp, b16⟩
    have cibA : Cal l.prog w K mg base 2 "is_border" _ _ := ⟨_, _, ok_is_borderA F10 B ci, g10, D10.kp, b10⟩
    have cffA : Cal l.prog w K mg base 2 "fault_of_folk" _ _ := ⟨_, _, ok_fault_of_folkA F11 B N ci, g11, D11.kp, b11⟩
    have cfbA : Cal l.prog w K mg base 3 "fault_of_borders" _ _ := ⟨_, _, ok_fault_of_bordersA F12 B cibA, g12, D12.kp, b12⟩
    have ffF : Cal l.prog w K mg base 2 "fault_of_folk" _ _ := ⟨_, _, fn_or (ok_fault_of_folk F11 B N ci) (ok_fault_of_folkA F11 B N ci), g11, D11.kp, b11⟩
    have flF : Cal l.prog w K mg base 4 "fault_of_land" _ _ := ⟨_, _, fn_or (ok_fault_of_land F13 B cff cfb) (ok_fault_of_landA F13 B cffA cfbA), g13, D13.kp, b13⟩
    have fpF : Cal l.prog w K mg base 9 "fault_of_plan" _ _ := ⟨_, _, fn_or (ok_fault_of_plan F14 B cl cm clk cht cw) (ok_fault_of_planA F14 B clA cm clk cht cw), g14, D14.kp, b14⟩
    have cwr : Cal l.prog w K mg base 1 "ward_row" _ _ := ⟨_, _, ok_ward_row F17 B, g17, D17.kp, b17⟩
    have cpwT : Cal l.prog w K mg base 1 "plan_with" _ _ := ⟨_, _, ok_plan_withT F18 B, g18, D18.kp, b18⟩
    have csg : Cal l.prog w K mg base 1 "sign_of" _ _ := ⟨_, _, ok_sign_of F19 B LT, g19, D19.kp, b19⟩
    have cao : Cal l.prog w K mg base 2 "arcs_of" _ _ := ⟨_, _, ok_arcs_of F20 B LT cwr, g20, D20.kp, b20⟩
    have caoX : Cal l.prog w K mg base 2 "arcs_of" _ _ := ⟨_, _, ok_arcs_ofX F20 B LT cwr, g20, D20.kp, b20⟩
    have ax : Cal l.prog w K mg base 11 "arcs" _ _ := ⟨_, _, ok_arcsX F21 ckl ckp caoX, g21, D21.kp, b21⟩
    have sq : Cal l.prog w K mg base 11 "square" _ _ := ⟨_, _, ok_square F22 B ckl ckp cwr csg, g22, D22.kp, b22⟩
    have car : Cal l.prog w K mg base 4 "are_rows" _ _ := ⟨_, _, ok_are_rows CF5 TB5 B, g23, D23.kp, b23⟩
    have cpa : Cal l.prog w K mg base 5 "places_at" _ _ := ⟨_, _, ok_places_at CF4 TB4 B, g24, D24.kp, b24⟩
    have ctd : CalX l.prog w K mg base 12 "arcs_told" _ _ := ⟨⟨_, _, ok_arcs_told CF6 TB6 B LT R0 ffF car cpa cpwT flF fpF cao, g25, D25.kp, b25⟩⟩
    have t1 : Cal l.prog w K mg base 12 "arcs_told" _ _ := ⟨_, _, fn_calm (ok_arcs_told CF6 TB6 B LT R0 ffF car cpa cpwT flF fpF cao), g25, D25.kp, b25⟩
    have t2 : CalK l.prog w K mg base 12 "arcs_told" ["folk", "rows"] ["rows", "folk"] swp _ := ⟨_, _, fn_calm (ok_arcs_told CF6 TB6 B LT R0 ffF car cpa cpwT flF fpF cao), g25, D25.kp, kb_swp F25 fun _ _ _ _ _ _ _ _ => rfl⟩
    have csp : Cal l.prog w K mg base 1 "_law_spring" _ _ := ⟨_, _, ok_law_spring F26 B, g26, D26.kp, b26⟩
    have cdr : Cal l.prog w K mg base 1 "_law_drop" _ _ := ⟨_, _, ok_law_drop F27 B, g27, D27.kp, b27⟩
    have cor : Cal l.prog w K mg base 2 "_law_order" _ _ := ⟨_, _, ok_law_order F28 B cdr, g28, D28.kp, b28⟩
    have cln : Cal l.prog w K mg base 3 "_law_land" _ _ := ⟨_, _, ok_law_land F29 B cdr cor, g29, D29.kp, b29⟩
    have cne : Cal l.prog w K mg base 1 "_law_near" _ _ := ⟨_, _, ok_law_near F30 B, g30, D30.kp, b30⟩
    have clr : Cal l.prog w K mg base 2 "_law_reached" _ _ := ⟨_, _, ok_law_reached F31 B cne, g31, D31.kp, b31⟩
    have clp : Cal l.prog w K mg base 3 "_law_pieces" _ _ := ⟨_, _, ok_law_pieces F32 B clr, g32, D32.kp, b32⟩
    have cpl : Cal l.prog w K mg base 4 "_law_plan" _ _ := ⟨_, _, ok_law_plan F33 B cdr clp, g33, D33.kp, b33⟩
    have cow : Cal l.prog w K mg base 1 "_law_owners" _ _ := ⟨_, _, ok_law_owners F34 B, g34, D34.kp, b34⟩
    have cla : Cal l.prog w K mg base 2 "_law_arcs" _ _ := ⟨_, _, ok_law_arcs F35 B cow, g35, D35.kp, b35⟩
    have clt : Cal l.prog w K mg base 13 "_law_told" _ _ := ⟨_, _, ok_law_told F36 R0 XO0 XM0 ctd, g36, D36.kp, b36⟩
    have cdu : Cal l.prog w K mg base 3 "_law_due" _ _ := ⟨_, _, ok_law_due F37 B clr cla, g37, D37.kp, b37⟩
    have cso : Cal l.prog w K mg base 2 "_law_spoilt" _ _ := ⟨_, _, ok_law_spoilt F38 B cdr, g38, D38.kp, b38⟩
    exact ok_law F39 B csp cln cpl ax t1 t2 sq clt cso cdu
end Wd

set_option Elab.async false
set_option linter.all false
set_option maxRecDepth 100000
set_option maxHeartbeats 4000000
namespace Wd
open PySem PySem.Spec PyProof.Rows L2 Bx Gx














































/-! ### the run of the top -/
abbrev R : PySem.W.OpenRow := PySem.W.OpenLaw.row PySem.Challenge.rw_wardsdrawn_k09_whole_pictures_there_and
abbrev hk : PySem.W.Hook := He.hookX 6 fal fnl [] tfl (fun _ => true)
def ob (s : PySem.W.SharedT) : He.AlX := He.obsX 6 fal fnl [] tfl (fun _ => true) (HandSHeadRun.getT s)
theorem ob_eq (s : PySem.W.SharedT) : ob s = hk.obs s.abs := He.obsX_eq (HandSHeadRun.getT_eq s)
def names : List PySem.Str := ([("WardError" : PySem.Str), ("InvalidPart" : PySem.Str), ("InvalidLand" : PySem.Str), ("InvalidPlan" : PySem.Str), ("FEWEST_PLACES" : PySem.Str), ("MOST_PLACES" : PySem.Str), ("MOST_FOLK" : PySem.Str), ("is_integer" : PySem.Str)] : List PySem.Str) ++ ([("is_ascending" : PySem.Str), ("is_place" : PySem.Str), ("is_lot" : PySem.Str), ("mask_of" : PySem.Str), ("lot_of" : PySem.Str), ("whole_mask" : PySem.Str), ("links_of" : PySem.Str), ("reached" : PySem.Str)] : List PySem.Str) ++ ([("hangs_together" : PySem.Str), ("fault_of_land" : PySem.Str), ("fault_of_folk" : PySem.Str), ("fault_of_borders" : PySem.Str), ("is_border" : PySem.Str), ("fault_of_plan" : PySem.Str), ("check_land" : PySem.Str), ("check_plan" : PySem.Str)] : List PySem.Str) ++ ([("ward_row" : PySem.Str), ("plan_with" : PySem.Str), ("LETTERS" : PySem.Str), ("square" : PySem.Str), ("arcs" : PySem.Str), ("arcs_told" : PySem.Str), ("sign_of" : PySem.Str), ("arcs_of" : PySem.Str)] : List PySem.Str) ++ ([("are_rows" : PySem.Str), ("places_at" : PySem.Str), ("_law_spring" : PySem.Str), ("_law_drop" : PySem.Str), ("_law_land" : PySem.Str), ("_law_order" : PySem.Str), ("_law_near" : PySem.Str), ("_law_reached" : PySem.Str)] : List PySem.Str) ++ ([("_law_pieces" : PySem.Str), ("_law_plan" : PySem.Str), ("_law_some" : PySem.Str), ("_law_owners" : PySem.Str), ("_law_arcs" : PySem.Str), ("_law_told" : PySem.Str), ("_law_due" : PySem.Str), ("_law_spoilt" : PySem.Str)] : List PySem.Str)
theorem run (w : World) : HandSHeadRun.RunEq R (PySem.W.view R.prog [53]) hk ob 6000 names w := by
  intro os
  kernel_rfl
end Wd
open PySem PySem.W PySem.Calls PyProof.Rows
set_option maxHeartbeats 0
theorem PySem.Challenge.cw_wardsdrawn_k09_whole_pictures_there_and_holds : PySem.Challenge.rw_wardsdrawn_k09_whole_pictures_there_and.Holds := by
  w_on; o_law
  refine HandSHeadRun.head_any (r := OpenLaw.row PySem.Challenge.rw_wardsdrawn_k09_whole_pictures_there_and) (q := view (OpenLaw.row PySem.Challenge.rw_wardsdrawn_k09_whole_pictures_there_and).prog [53]) (H := Wd.hk) (ob := Wd.ob) (M := 6000) (loose := Wd.names) (d := HandSHeadRun.topDef (OpenLaw.row PySem.Challenge.rw_wardsdrawn_k09_whole_pictures_there_and).prog 53) (kwd := []) Wd.ob_eq
    (by kernel_rfl) (fun s => by kernel_rfl) Wd.run (by kernel_rfl) (by kernel_rfl) (by kernel_rfl) (by rfl) (by first | assumption | decide +kernel) (by decide +kernel) ⟨rfl, rfl, rfl, rfl, rfl, by decide +kernel⟩ ?hw ?hc
  case hw => w_witness2
  case hc =>
    refine LamX.walk_ofTsE (l := PySem.Challenge.rw_wardsdrawn_k09_whole_pictures_there_and) (n := 63) (k := 14) (x := "script") (CX := fun _ => L2.CX0) rfl (by decide) (by kernel_rfl) ⟨rfl, by decide, by decide⟩ ?F (fun _ _ _ _ _ z => z)
    intro w mg fa h Y G hmg0
    obtain ⟨K, KX, c⟩ := Y
    have hmg : mg ("law" : PySem.Str) = some (.ref fa) := by
      have e : (HandSHeadRun.topDef (OpenLaw.row PySem.Challenge.rw_wardsdrawn_k09_whole_pictures_there_and).prog 53).name = ("law" : PySem.Str) := by kernel_rfl
      rw [← e]
      exact hmg0
    exact ⟨K, KX, Wd.facts KX G hmg c⟩
namespace Wd
end Wd
