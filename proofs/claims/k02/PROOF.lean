import PyProof.Rows.All
import Wide.All
import OpenK.AllK
import Wide.FinOn
import HandS.ForMost
import HandS.ForExc
import HandS.AnyAll
import HandS.GenList
import HandS.Lambda
import PyProof.TupleOfGen
import HandS.RaiseMore
import HandS.IsInst
import HandS.Wide
import HandS.WideBits
import HandS.Flow
import HandS.Rev
import HandS.Conv
import HandS.TupAny
import HandS.EndTab
import HandS.EndOwn
import PyProof.ReprRoads
import PyProof.ReprLen
import HandS.HotCalls
import HandS.ExcIs
import HandS.SetFor
import HandS.FStr
import HandS.ExcField
import PySem.Challenge.RW_onceeach_k02_numbers_with_a_back
set_option Elab.async false
set_option linter.all false
set_option maxRecDepth 100000
set_option maxHeartbeats 4000000
/-! generator expressions whose elements call -/
namespace GX
open PySem PySem.Spec PyProof.Rows L2 GenW

/-- the context of the generator expression's element -/
abbrev genX (X : Cx) (Aw : Around) (s : Shared) (H : Hp) (cenv : Env) (fp : List Addr) (pn : List (Addr × Obj)) : Cx :=
  { X with A := Aw.deeper cenv, s_0 := s, H_0 := H, env := cenv, outer := X.stack, stack := cenv :: X.stack, ex := fp, fn := fun _ => false, calm := true, pn := pn, xe := fun _ _ => False }

theorem over_gen {A : Around} {elt : Expr} {gs : List Comprehension} {scope : Scope} {pos : Pos} {it acc : Value} {env : Env} :
    A.over (.compLoop (.GeneratorExp elt gs scope pos) 0 it acc env) [] = A.deeper env := by
  first
    | rfl
    | (obtain ⟨hd, d, fr, gs, u⟩ := A; simp [Around.over, Around.deeper, marksOver, frameCount, unitsOf, envsOf, guardsOf, pushEnvs, pushGuards, Code.envs, Code.env?, Code.isFrame, Code.guards, Code.isGuard, Code.weight, Code.frames, Code.isCreation, Code.isCaller, Code.cUnits])
theorem over_genS {A : Around} {elt : Expr} {gs : List Comprehension} {scope : Scope} {pos : Pos} {it acc : Value} {env : Env} :
    A.over (.compStart (.GeneratorExp elt gs scope pos) 0 it acc env) [] = A.deeper env := by
  first
    | rfl
    | (obtain ⟨hd, d, fr, gs, u⟩ := A; simp [Around.over, Around.deeper, marksOver, frameCount, unitsOf, envsOf, guardsOf, pushEnvs, pushGuards, Code.envs, Code.env?, Code.isFrame, Code.guards, Code.isGuard, Code.weight, Code.frames, Code.isCreation, Code.isCaller, Code.cUnits])

section
variable {X : Cx} {pins : List (Addr × Obj)} {σ : L2.St} {H : Hp} {s : Shared}
/-- the generator's own state, freshly made -/
theorem gen_start {scope : Scope} {own : List (Str × Nat)} {fp : List Addr} {Aw : Around} {code : Value} {it : Value} {h' : Heap} {go : Obj} {gs : GenState} {tk : Nat} (I : Inv X pins σ H s) (ok : BlkOk X.N X.env.scope scope own) (hcell : ∀ y ∈ scope.names, y.2 ≠ .cell) (hN : X.N.Nodup)
    (hfp : ∀ b ∈ fp, FpOk X pins H b ∧ b < s.heap.objs.size) (hA : Aw.handled = none) (hfr : Aw.frames = some X.stack) (hgs : gs.bare = true)
    (hn : h'.Ns s.heap.objs.size (fun y => if y = ".0" then some it else none)) (hs : Heap.SameBut s.heap.objs.size (s.heap.push { cls := .type "frame", data := .dict #[] }) h')
    (hgo : ∀ v, go.data ≠ .cell v) (hgp : ∀ h : Heap, (h.push go).get? h.objs.size = some go) :
    Inv (genX X Aw s H (genEnv scope (cloFrom X.env.cells scope.names []) s.heap.objs.size code builtinsNs X.env) fp [(h'.objs.size, go)]) [] (wipe σ (own.map (·.2))) H
      { s with gens := s.gens.push gs, toks := tk, heap := h'.push go } := by
  have hfree : ∀ y ∈ scope.names, y.2 = .free → ∃ c, X.env.cells.lookup y.1 = some c := fun y hy e => by
    rcases ok.free y hy e with k | k
    · exact I.ok.has _ (.inl k)
    · exact I.ok.has _ (.inr k)
  have hsz : h'.objs.size = s.heap.objs.size + 1 := by rw [hs.1, Heap.size_push]
  have kp : ∀ b o, s.heap.get? b = some o → (h'.push go).get? b = some o := fun b o e => Heap.get?_push_of_some _ (hs.extBut b o (Nat.ne_of_lt (Heap.lt_size e)) (Heap.get?_push_of_some _ e))
  have cm : ∀ {y c}, (cloFrom X.env.cells scope.names []).lookup y = some c → X.env.cells.lookup y = some c := fun {y c} e => by
    rcases cloFrom_mem (PySem.mem_of_lookup e) with hm | ⟨h1, h2⟩
    · cases hm
    · obtain ⟨c1, hc⟩ := hfree _ h1 rfl
      have hc : X.env.cells.lookup y = some c1 := hc
      have e2 : c = c1 := by
        rw [h2, hc] <;> rfl
      rw [e2]
      exact hc
  have look : ∀ {y}, scope.names.lookup y = some .free → ∃ c, (cloFrom X.env.cells scope.names []).lookup y = some c := fun {y} hl => by
    have hy : (y, NameKind.free) ∈ scope.names := PySem.mem_of_lookup hl
    exact mem_lookup (cloFrom_has (cells := X.env.cells) (acc := []) hy)
  have clt : ∀ {y c}, X.env.cells.lookup y = some c → c < s.heap.objs.size := fun {y c} e => by
    obtain ⟨v, z⟩ := I.cell y c e
    exact z.lt
  have okB : (genX X Aw s H (genEnv scope (cloFrom X.env.cells scope.names []) s.heap.objs.size code builtinsNs X.env) fp [(h'.objs.size, go)]).Ok := by
    refine ⟨I.ok.mod, ok.kind, I.ok.glob, rfl, Nat.le_refl _, fun y z c e1 e2 => I.ok.inj y z c (cm e1) (cm e2), fun y hy => ?_, fun y c z _ => ?_, fun _ => hA, Around.frames_deeper hfr, .inr ⟨rfl, rfl⟩, fun b hb => ⟨?_, fun y c e z => ?_⟩, I.bs, Nat.le_trans I.ok.bsz I.sz, fun b o e hb => ?_, fun b hb z => ?_, I.stack, I.stkFree⟩
    · have hy : scope.names.lookup y = some .cell ∨ scope.names.lookup y = some .free := hy
      rcases hy with hy | hy
      · exact absurd rfl (hcell _ (PySem.mem_of_lookup hy))
      · exact look hy
    · have z : false = true := z
      cases z
    · exact Nat.ne_of_lt (hfp b hb).2
    · exact (hfp b hb).1.2.2.2.2.1 y c (cm e) z
    · rcases (hfp b hb).1.2.2.2.1 with z | z
      · exact I.ok.noex b o e z
      · exact absurd (Nat.lt_of_lt_of_le (Heap.lt_size e) (Nat.le_trans I.ok.bsz z)) (Nat.lt_irrefl _)
    · rcases List.mem_cons.mp (I.stkSub b z) with z | z
      · exact (hfp b hb).1.2.1 z
      · exact (hfp b hb).1.2.2.1 z
  refine ⟨okB, rfl, AllBare.push I.bare hgs, Un.kept kp, ⟨_, hn.push _, fun i y av e1 e2 e3 => ?_⟩, fun y c e => ?_, I.hok.fresh (Nat.le_refl _), fun y c e => I.freeC y c (cm e), fun p hp => ?_, I.hok.kept kp, by rw [wipe_length]; exact I.len⟩
  · obtain ⟨e2, hne⟩ := wipe_some e2
    have e3 : Vis scope y := e3
    have no : ∀ k, scope.names.lookup y = some k → k = .local ∨ k = .cell → False := fun k hk hh => by
      rcases ok.own _ (PySem.mem_of_lookup hk) hh with e' | e'
      · obtain ⟨p, hp, hpy⟩ := List.mem_map.mp e'
        have e3 := ok.ix p hp
        have : p.1 = y := hpy
        rw [this] at e3
        exact hne (List.mem_map.mpr ⟨p, hp, nodup_ix hN e3 e1⟩)
      · exact e' (List.mem_of_getElem? e1)
    rcases e3 with k | k | k
    · exact (no _ k (.inl rfl)).elim
    · exact (no _ k (.inr rfl)).elim
    · obtain ⟨m, hn', hl⟩ := I.loc
      have hvis : Vis X.env.scope y := (ok.free _ (PySem.mem_of_lookup k) rfl).elim (fun k => .inr (.inl k)) (fun k => .inr (.inr k))
      obtain ⟨w', r, q⟩ := hl i y av e1 e2 hvis
      obtain ⟨c2, h2⟩ := look k
      refine ⟨w', r, .inr ⟨.inr k, c2, h2, ?_⟩⟩
      have c1 := cm h2
      rcases q with ⟨k', _⟩ | ⟨_, c3, e', z⟩
      · have k' : X.env.scope.names.lookup y = some .local := k'
        rcases ok.free _ (PySem.mem_of_lookup k) rfl with k2 | k2 <;> rw [show X.env.scope.names.lookup y = _ from k2] at k' <;> cases k'
      · rw [c1] at e'
        cases e'
        exact z.keeps kp
  · obtain ⟨w', z⟩ := I.cell y c (cm e)
    exact ⟨w', z.keeps kp⟩
  · have hp' : p = (h'.objs.size, go) := by
      have : p ∈ [(h'.objs.size, go)] ++ ([] : List (Addr × Obj)) := hp
      simpa using this
    subst hp'
    refine ⟨hgp h', I.hok.fresh (by show s.heap.objs.size ≤ h'.objs.size; omega), ?_, fun z => ?_, hgo⟩
    · show h'.objs.size ≠ s.heap.objs.size
      omega
    · have z : h'.objs.size ∈ frs X.stack := z
      rcases List.mem_cons.mp (I.stkSub _ z) with e | e
      · have h1 := I.lt
        rw [← e] at h1
        have h2 : (h'.objs.size : Nat) < s.heap.objs.size := h1
        omega
      · exact I.nofs (a := h'.objs.size) (by omega) e
end

/-! ### the run of the generator -/
section
variable {X : Cx} {Aw : Around} {s3 : Shared} {H3 : Hp} {cenv : Env} {fp : List Addr} {pn : List (Addr × Obj)}
/-- what the consumer is told of an item, and how it goes on -/
def GYx (G : Cx) (σw : L2.St) (fp : List Addr) (tn : Nat → Heap → Prop) (W : Nat → Nat → Hp → Prop) (Yl : Nat → Nat → V → Hp → Prop) : Protocol := fun n _ v s kap =>
  ∃ i m y H, m ≤ n ∧ Inv G [] σw H s ∧ RelV y v ∧ tn (i + 1) s.heap ∧ (∀ b ∈ fp, H b = none) ∧ Yl i m y H ∧
    ∀ m' H' s', m' < m → Inv G [] σw H' s' → tn (i + 1) s'.heap → (∀ b ∈ fp, H' b = none) → W (i + 1) m' H' → kap (.send .none) s'
def GRx (G : Cx) (σw : L2.St) (Dn : Hp → Prop) : GenEnd := fun _ _ r s1 => ((r = .ok (.ret .none) ∨ r = .ok .next) ∧ ∃ H, Inv G [] σw H s1 ∧ Dn H) ∨ ∃ e, r = .error e ∧ False

theorem gx_loop {σ : L2.St} {own : List (Str × Nat)} {elt tg iter : Expr} {ifs : List Expr} {scope : Scope} {pos : Pos} {g : TG} {tt : TT} {te : TE} {J : It} {it : Addr} {tn : Nat → Heap → Prop} {W : Nat → Nat → Hp → Prop} {Dn : Hp → Prop} {Yl : Nat → Nat → V → Hp → Prop}
    (T : Turn X.prog X.w X.K tg J fp it tn) (hco : cenv.scope.isCoroutine = false)
    (pg : PG (genX X Aw s3 H3 cenv fp pn) tg g) (pt : PTs (genX X Aw s3 H3 cenv fp pn) ifs tt) (pe : PE (genX X Aw s3 H3 cenv fp pn) elt te)
    (hpn : ∀ p ∈ pn, p.1 ∉ fp)
    (turn : ∀ i m H, W i m H → (J.stop i H ∧ Dn H) ∨ (J.go i H ∧ ∀ x H', J.yld i H x H' → g x (wipe σ (own.map (·.2))) H' fun σ2 H2 => wipe σ2 (own.map (·.2)) = wipe σ (own.map (·.2)) ∧ tt σ2 H2 fun b H3 =>
      if b = true then te σ2 H3 (Yl i m) else ∃ m', m' < m ∧ W (i + 1) m' H3)) :
    ∀ (m n i : Nat) (H : Hp) (s₀ s : Shared), m < n → Inv (genX X Aw s3 H3 cenv fp pn) [] (wipe σ (own.map (·.2))) H s → tn i s.heap → (∀ b ∈ fp, H b = none) → W i m H →
      Seg (model X.prog X.w) Aw (GRx (genX X Aw s3 H3 cenv fp pn) (wipe σ (own.map (·.2))) Dn) (GYx (genX X Aw s3 H3 cenv fp pn) (wipe σ (own.map (·.2))) fp tn W Yl) n s₀
        (.compLoop (.GeneratorExp elt [⟨tg, iter, ifs, 0⟩] scope pos) 0 (.ref it) .none cenv)
        ((model X.prog X.w).den (.compLoop (.GeneratorExp elt [⟨tg, iter, ifs, 0⟩] scope pos) 0 (.ref it) .none cenv)) [] s := by
  have stat : ∀ {σ' : L2.St} {H' : Hp} {s' : Shared}, Inv (genX X Aw s3 H3 cenv fp pn) [] σ' H' s' → (∀ b ∈ fp, H' b = none) → ∀ b ∈ fp, FpOk (genX X Aw s3 H3 cenv fp pn) [] H' b := fun {σ' H' s'} I' hn b hb =>
    ⟨hn b hb, (I'.ok.exf b hb).1, I'.ok.exfs b hb, .inl hb, fun x c e => (I'.ok.exf b hb).2 x c e, fun p hp z => by
      have hp : p ∈ pn ++ [] := hp
      rw [List.append_nil] at hp
      exact hpn p hp (by rw [z]; exact hb)⟩
  intro m
  induction m using Nat.strongRecOn with
  | ind m ih =>
  intro n i H s₀ s hn I st nf w
  show Seg _ Aw _ _ _ s₀ _ ((compTurn (.GeneratorExp elt [⟨tg, iter, ifs, 0⟩] scope pos) 0 (.ref it) .none cenv).onRaise (leaving cenv)) [] s
  rw [compTurn_gen, Sem.onRaise_eq_wrap]
  refine seg_bind_wrap (wpAny_standAt ?_)
  rcases turn i m H w with ⟨stop, dn⟩ | ⟨go, step⟩
  · have td := T.done (genX X Aw s3 H3 cenv fp pn) rfl rfl rfl rfl i [] s _ H (fun _ _ => False) I (stat I nf) st stop
    refine seg_bind_wrap ?_
    rw [over_gen]
    refine thnF td fun r s6 ⟨hr, I6⟩ => ?_
    subst hr
    exact seg_end (.ok .next) (.inl ⟨.inr rfl, H, I6, dn⟩)
  · have ti := T.item (genX X Aw s3 H3 cenv fp pn) rfl rfl rfl rfl i [] s _ H (fun _ _ => False) I (stat I nf) st go
    refine seg_bind_wrap ?_
    rw [over_gen]
    refine thnF ti fun r s6 ⟨u, hr, h6⟩ => ?_
    subst hr
    refine seg_bind_wrap ?_
    rw [over_gen]
    refine thnF h6 fun _ s7 ⟨x, H7, I7, r7, y7, st7, n7⟩ => ?_
    have I7' := I7.pinned (stat I7 n7) (T.obj _ _ st7)
    refine seg_bind_wrap ?_
    rw [over_gen]
    refine thnF (pg.run _ s7 _ H7 x u _ I7' r7 (step x H7 y7)) fun _ s8 ⟨σ8, H8, I8, hw8, q8⟩ => ?_
    refine seg_bind_wrap ?_
    rw [over_gen]
    refine thnF (pt.run _ s8 σ8 H8 _ I8 q8) fun b s9 ⟨H9, I9, q9⟩ => ?_
    have fin : ∀ {s' : Shared} {H' : Hp}, Inv (genX X Aw s3 H3 cenv fp pn) ([] ++ pinsAt fp s7.heap) σ8 H' s' → Inv (genX X Aw s3 H3 cenv fp pn) [] (wipe σ (own.map (·.2))) H' s' ∧ tn (i + 1) s'.heap ∧ (∀ b ∈ fp, H' b = none) := fun {s' H'} I' => by
      have pin' : ∀ b ∈ fp, ∀ o, s7.heap.get? b = some o → s'.heap.get? b = some o ∧ H' b = none := fun b hb o e =>
        let z := I'.pin (b, o) (List.mem_append_right _ (List.mem_append_right _ (mem_pinsAt hb e)))
        ⟨z.1, z.2.1⟩
      have hl : (wipe σ (own.map (·.2))).length = σ8.length := by rw [← hw8, wipe_length]
      refine ⟨(I'.unpinned (pins := [])).weak hl (fun j v e => ?_), T.keep _ _ _ st7 fun b hb o e => (pin' b hb o e).1, fun b hb => ?_⟩
      · rw [← hw8] at e
        exact (wipe_some e).1
      · obtain ⟨o, e, _⟩ := T.obj _ _ st7 b hb
        exact (pin' b hb o e).2
    cases b with
    | false =>
      simp only [Bool.false_eq_true, if_false] at q9 ⊢
      obtain ⟨m', hm, w'⟩ := q9
      obtain ⟨J1, J2, J3⟩ := fin I9
      exact seg_again rfl (ih m' hm n (i + 1) H9 s₀ s9 (by omega) J1 J2 J3 w')
    | true =>
      simp only [if_true] at q9 ⊢
      have hy : ∀ v, yieldOut cenv v = yieldValue v := fun v => by simp only [yieldOut, hco, Bool.false_eq_true, if_false]
      simp only [hy]
      rw [Sem.bind_eq_wrap', Sem.bind_eq_wrap', Sem.wrap_wrap, Sem.wrap_wrap]
      refine seg_wrap ?_
      rw [over_gen]
      refine thnF (pe.run _ s9 σ8 H9 _ I9 q9) fun z s10 ⟨yv, H10, I10, r10, yl⟩ => ?_
      obtain ⟨J1, J2, J3⟩ := fin I10
      obtain ⟨n', rfl⟩ : ∃ n', n = n' + 1 := ⟨n - 1, by omega⟩
      refine seg_at (seg_yield rfl rfl rfl ⟨i, m, yv, H10, by omega, J1, r10, J2, J3, yl, fun m' H' s' hm I' st' nf' w' => ?_⟩)
      exact seg_again rfl (ih m' hm n' (i + 1) H' s' s' (by omega) I' st' nf' w')

theorem gx_start {elt tg iter : Expr} {ifs : List Expr} {scope : Scope} {pos : Pos} {it : Addr} {tn : Nat → Heap → Prop} {W : Nat → Nat → Hp → Prop} {R : GenEnd} {Y : Protocol} {J : It}
    (T : Turn X.prog X.w X.K tg J fp it tn) {n : Nat} {s₀ s : Shared} (st : tn 0 s.heap)
    (loop : Seg (model X.prog X.w) Aw R Y n s₀ (.compLoop (.GeneratorExp elt [⟨tg, iter, ifs, 0⟩] scope pos) 0 (.ref it) .none cenv)
        ((model X.prog X.w).den (.compLoop (.GeneratorExp elt [⟨tg, iter, ifs, 0⟩] scope pos) 0 (.ref it) .none cenv)) [] s) :
    Seg (model X.prog X.w) Aw R Y n s₀ (.compStart (.GeneratorExp elt [⟨tg, iter, ifs, 0⟩] scope pos) 0 (.ref it) .none cenv)
        ((model X.prog X.w).den (.compStart (.GeneratorExp elt [⟨tg, iter, ifs, 0⟩] scope pos) 0 (.ref it) .none cenv)) [] s := by
  show Seg _ Aw _ _ _ s₀ _ ((compStart (.GeneratorExp elt [⟨tg, iter, ifs, 0⟩] scope pos) 0 (.ref it) .none cenv).onRaise (leaving cenv)) [] s
  unfold compStart
  rw [Sem.onRaise_eq_wrap]
  show Seg _ Aw _ _ _ s₀ _ ((ask >>= _).wrap _ _ _ _) [] s
  refine seg_bind_wrap (wpAny_askSetting ?_)
  split
  · exact seg_again rfl loop
  · first
      | exact seg_bind_wrap (wpAny_rule (seg_bind_wrap (wpAny_standAt (seg_bind_wrap (T.self _ 0 s _ _ st (seg_again rfl loop))))))
      | (refine seg_bind_wrap (wpAny_rule ?_); show Seg _ Aw _ _ _ s₀ _ ((standAt iter.pos >>= _).wrap _ _ _ _) [] s; exact seg_bind_wrap (wpAny_standAt (seg_bind_wrap (T.self _ 0 s _ _ st (seg_again rfl loop)))))
end
end GX

namespace GX
open PySem PySem.Spec PyProof.Rows L2 GenW

/-- the generator at a, just made -/
structure Made (X : Cx) (pins : List (Addr × Obj)) (σ : L2.St) (own : List (Str × Nat)) (elt tg iter : Expr) (ifs : List Expr) (scope : Scope) (gpos : Pos) (J : It) (H4 : Hp) (a : Addr) (s5 : Shared) where
  s4 : Shared
  it : Addr
  fp : List Addr
  tn : Nat → Heap → Prop
  cenv : Env
  go : Obj
  g : Nat
  hsc : cenv.scope = scope
  I4 : Inv X pins σ H4 s4
  T : Turn X.prog X.w X.K tg J fp it tn
  st : tn 0 s5.heap
  hfp : ∀ b ∈ fp, FpOk X pins H4 b ∧ b < s4.heap.objs.size
  hge : s4.heap.objs.size < a
  hlt : a < s5.heap.objs.size
  gen : ∀ h : Heap, h.get? a = some go → h.IsGen a g
  gs : s5.gens[g]? = some (.fresh (.compStart (.GeneratorExp elt [⟨tg, iter, ifs, 0⟩] scope gpos) 0 (.ref it) .none cenv))
  env : ∃ code, cenv = genEnv scope (cloFrom X.env.cells scope.names []) s4.heap.objs.size code builtinsNs X.env
  inv : ∀ Aw : Around, Aw.handled = none → Aw.frames = some X.stack → Inv (genX X Aw s4 H4 cenv fp [(a, go)]) [] (wipe σ (own.map (·.2))) H4 s5

section
variable {X : Cx} {pins : List (Addr × Obj)} {σ : L2.St} {H : Hp} {s : Shared}
theorem gx_make {c P : Addr} {elt tg iter : Expr} {ifs : List Expr} {gpos : Pos} {scope : Scope} {own : List (Str × Nat)} {wi : TI} {k : Nat} {Q' : Value → Shared → Prop} {R : It → Hp → Prop}
    (hr : Room k X.A) (hN : X.N.Nodup) (TB : GxR.TabB X.base X.mg c P) (hcode : X.env.code = .ref c) (ok : BlkOk X.N X.env.scope scope own) (hcell : ∀ y ∈ scope.names, y.2 ≠ .cell) (hdot : scope.names.lookup (".0" : Str) = some NameKind.local) (hco : scope.isCoroutine = false)
    (hi : PI X tg iter wi) (hs : ∀ v, genFold iter X.env v = pure v) (I : Inv X pins σ H s) (h : wi σ H fun J H1 => GxR.TabG H1 P ∧ R J H1)
    (hQ : ∀ J H1 H4 a s5, R J H1 → GxR.Tabbed P H1 H4 → Nonempty (Made X pins σ own elt tg iter ifs scope gpos J H4 a s5) → Q' (.ref a) s5) :
    wpAny (model X.prog X.w) X.A (eval (.GeneratorExp elt [⟨tg, iter, ifs, 0⟩] scope gpos) X.env) Q' X.xe s := by
  have hfree : ∀ y ∈ scope.names, y.2 = .free → ∃ c, X.env.cells.lookup y.1 = some c := fun y hy e => by
    rcases ok.free y hy e with k | k
    · exact I.ok.has _ (.inl k)
    · exact I.ok.has _ (.inr k)
  refine wpAny_GeneratorExp_make hco (closure_ok hfree) hcell hdot ok.kind (by have := hr.dp; omega) ?_ hs
  refine thn (hi.run pins s σ H _ I h) fun xv s1 hx => thn hx fun itv s2 h2 => ?_
  obtain ⟨it, fp, tn, J, H2, e, I2, T, st2, f2, ⟨ps, hP, ht⟩, q⟩ := h2
  subst e
  have hPs : s2.heap.get? P = some { cls := .none, data := .fields ps } := I2.hok P _ hP
  have cd : PySem.W.CodeHd s2.heap c P := TB.code.keeps I2.bk
  have fsz : ∀ b ∈ fp, b < s2.heap.objs.size := fun b hb => by
    obtain ⟨o, e, _⟩ := T.obj _ _ st2 b hb
    exact Heap.lt_size e
  have fnP : ∀ b ∈ fp, b ≠ P := fun b hb z => by
    have := (f2 b hb).1
    rw [z, hP] at this
    cases this
  have cont : ∀ (code : Value) (h3 : Heap) (tk : Nat) (H4 : Hp), Heap.ExtBut P s2.heap h3 → s2.heap.objs.size ≤ h3.objs.size → GxR.Tabbed P H2 H4 → Inv X pins σ H4 { s2 with heap := h3, toks := tk } →
      wpAny (model X.prog X.w) X.A (builtinsFor X.env.globals X.env.builtins) (fun bi s₄ =>
        ∀ h', h'.Ns s₄.heap.objs.size (fun y => if y = ".0" then some (.ref it) else none) → Heap.SameBut s₄.heap.objs.size (s₄.heap.push { cls := .type "frame", data := .dict #[] }) h' →
          Q' (.ref h'.objs.size) { s₄ with
            gens := s₄.gens.push (.fresh (.compStart (.GeneratorExp elt [⟨tg, iter, ifs, 0⟩] scope gpos) 0 (.ref it) .none (genEnv scope (cloFrom X.env.cells scope.names []) s₄.heap.objs.size code bi X.env))),
            toks := s₄.toks + 1 + 1 + 1,
            heap := h'.push { cls := .type "generator", data := .fields #[.int s₄.gens.size 0, .str "<genexpr>" (s₄.toks + 1), .str (X.env.qual ++ "<genexpr>") (s₄.toks + 1 + 1)] } }) X.xe { s2 with heap := h3, toks := tk } := by
    intro code h3 tk H4 hx hsz hT I4
    obtain ⟨bm, ob, e1, e2, e3, e4, e5, e6, e7, e8⟩ := TB.bm
    refine wpAny_builtinsFor (m := X.mg) (by rw [I4.ok.glob]; exact I4.mod.glob.keeps I4.bk) e1 e2 (I4.bk _ _ e5) e6 e7 e8 ?_
    intro h' hn hsb
    have hsz' : h'.objs.size = h3.objs.size + 1 := by rw [hsb.1, Heap.size_push]
    have keep' : ∀ b o, h3.get? b = some o → h'.get? b = some o := fun b o e => hsb.extBut b o (Nat.ne_of_lt (Heap.lt_size e)) (Heap.get?_push_of_some _ e)
    have hf4 : ∀ b ∈ fp, FpOk X pins H4 b ∧ b < h3.objs.size := fun b hb => ⟨⟨by rw [hT.2 b (fnP b hb)]; exact (f2 b hb).1, (f2 b hb).2⟩, Nat.lt_of_lt_of_le (fsz b hb) hsz⟩
    refine hQ J H2 H4 _ _ q hT ⟨⟨{ s2 with heap := h3, toks := tk }, it, fp, tn, genEnv scope (cloFrom X.env.cells scope.names []) h3.objs.size code builtinsNs X.env, _, s2.gens.size, rfl, I4, T, ?_, hf4, ?_, ?_, fun h e => ⟨_, _, _, e, rfl, rfl, rfl⟩, Array.getElem?_push_size .., ⟨code, rfl⟩,
      fun Aw hA hfr => gen_start (s := { s2 with heap := h3, toks := tk }) (code := code) (it := .ref it) I4 ok hcell hN hf4 hA hfr rfl hn hsb (fun v q => by cases q) (fun h => Heap.get?_push_size _ rfl)⟩⟩
    · refine T.keep _ _ _ st2 fun b hb o e => Heap.get?_push_of_some _ (keep' b o (hx b o (fnP b hb) e))
    · show h3.objs.size < h'.objs.size
      omega
    · show h'.objs.size < (h'.push _).objs.size
      rw [Heap.size_push]
      exact Nat.lt_succ_self _
  refine ⟨I2.nolimit, ?_⟩
  cases hf : codeAmong gpos ps.toList with
  | none =>
    refine wpAny_genexprCodeX hcode (cd.code hPs ht) (cd.tab hPs) hf fun c' h' tk hx hge hlt hco' _ htab' _ => ?_
    obtain ⟨o1, vs, f1, tf, fl, tg, inF, tx, tt, op, _, _, _, _, _, _, _, _, _, htr, _⟩ := hco'
    have J4 := GxR.inv_tab (more := #[rawInt gpos.line, rawInt gpos.col, .ref c']) (h' := h') (g' := s2.gens) (d' := s2.drawn) (t' := tk) I2 hP (fun b u hb e => hx b u hb e) htab'.2 I2.bare
    exact cont _ h' tk _ hx (Nat.le_trans hge (Nat.le_of_lt hlt)) ⟨⟨_, upd_same, htr⟩, fun b hb => upd_ne hb⟩ J4
  | some cv =>
    refine wpAny_genexprCode_hit hcode (cd.code hPs ht) hf ?_
    exact cont cv s2.heap s2.toks H2 (Heap.ExtBut.refl _ _) (Nat.le_refl _) ⟨⟨ps, hP, ht⟩, fun b _ => rfl⟩ I2
end
end GX

namespace GX
open PySem PySem.Spec PyProof.Rows L2 GenW

theorem inv_gens {X : Cx} {pins : List (Addr × Obj)} {σ : L2.St} {H : Hp} {s s' : Shared} (I : Inv X pins σ H s) (ho : s'.os = s.os) (k : ∀ b o, s.heap.get? b = some o → s'.heap.get? b = some o) (hg : AllBare s'.gens) : Inv X pins σ H s' :=
  I.call' (ch := []) ho (Un.kept k) (I.hok.kept k) hg fun b z => nomatch z
theorem inv_set {X : Cx} {pins : List (Addr × Obj)} {σ : L2.St} {H : Hp} {s : Shared} {g : Nat} {x : GenState} (I : Inv X pins σ H s) (hx : x.bare = true) : Inv X pins σ H (s.setGen g x) :=
  inv_gens I rfl (fun _ _ e => e) (allBare_setGen I.bare hx)

section
variable {G : Cx} {A : Around} {σw : L2.St} {fp : List Addr} {tn : Nat → Heap → Prop} {W : Nat → Nat → Hp → Prop} {Dn : Hp → Prop} {Yl : Nat → Nat → V → Hp → Prop} {a : Addr} {g : Nat} {go : Obj}
/-- the generator sleeps, or has not begun -/
def Asleep (G : Cx) (Aw : Around) (σw : L2.St) (fp : List Addr) (tn : Nat → Heap → Prop) (W : Nat → Nat → Hp → Prop) (Dn : Hp → Prop) (Yl : Nat → Nat → V → Hp → Prop) (g n : Nat) (H : Hp) (s : Shared) : Prop :=
  Inv G [] σw H s ∧ ∃ gs, s.gens[g]? = some gs ∧ gs.Goes (model G.prog G.w) Aw (GRx G σw Dn) (GYx G σw fp tn W Yl) n (.send .none) (s.setGen g .running)
/-- one next -/
theorem gx_next {n : Nat} {H : Hp} {s : Shared} {Q : Option Value → Shared → Prop} {E : Value → Shared → Prop} (hh : A.handled = none) (hd : A.depth < recursionLimit) (hpn : (a, go) ∈ G.pn) (hgen : ∀ h : Heap, h.get? a = some go → h.IsGen a g)
    (h : Asleep G A.in1 σw fp tn W Dn Yl g n H s)
    (hY : ∀ v y i m H1 s1, Inv G [] σw H1 s1 → RelV y v → tn (i + 1) s1.heap → (∀ b ∈ fp, H1 b = none) → Yl i m y H1 →
      (∀ m' H' s', m' < m → s'.gens = s1.gens → Inv G [] σw H' s' → tn (i + 1) s'.heap → (∀ b ∈ fp, H' b = none) → W (i + 1) m' H' → ∃ n', n = n' + 1 ∧ Asleep G A.in1 σw fp tn W Dn Yl g n' H' s') → Q (some v) s1)
    (hD : ∀ H1 s1, Inv G [] σw H1 s1 → Dn H1 → Q none s1) :
    wpAny (model G.prog G.w) A (pyNext (.ref a)) Q E s := by
  obtain ⟨I, gs, hgs, hgo⟩ := h
  have hgl : g < s.gens.size := (Array.getElem?_eq_some_iff.mp hgs).1
  have ha := (I.pin (a, go) (List.mem_append_left _ hpn)).1
  refine wpAny_gsz (n := g + 1) hgl (next_genG (F := fun _ _ s1 => ∃ H, Inv G [] σw H s1 ∧ Dn H) (Er := fun _ _ => False) hh I.nolimit hd (hgen _ ha) hgs hgo (fun v s₁ gs' hbare hv => ?_) (fun s₁ hp h' hk => ?_) fun e s₁ he => he.elim)
  · intro hsz
    obtain ⟨i, m, y, H1, hm, I1, r1, st1, nf1, yl, hk⟩ := hv
    have hsz1 : g < s₁.gens.size := by
      have q : (s₁.setGen g gs').gens.size = s₁.gens.size := setGen_size _ _ _
      have hsz' : g + 1 ≤ (s₁.setGen g gs').gens.size := hsz
      omega
    cases n with
    | zero =>
      refine hY v y i m H1 _ (inv_set I1 hbare) r1 st1 nf1 yl fun m' H' s' hm' hg' I' st' nf' w' => ?_
      exact (hk m' H' (s'.setGen g .running) hm' (inv_set I' rfl) st' nf' w').elim
    | succ n =>
      refine hY v y i m H1 _ (inv_set I1 hbare) r1 st1 nf1 yl fun m' H' s' hm' hg' I' st' nf' w' => ?_
      refine ⟨n, rfl, I', gs', by rw [hg']; exact setGen_at hsz1, ?_⟩
      exact hk m' H' (s'.setGen g .running) hm' (inv_set I' rfl) st' nf' w'
  · intro _
    obtain ⟨H1, I1, dn⟩ := hp
    exact hD H1 _ (inv_gens I1 rfl hk (allBare_setGen I1.bare rfl)) dn

/-- all(..) over the generator -/
theorem gx_all_loop {R' : Result → Shared → Prop} {Qf : Hp → Prop} (hh : A.handled = none) (hd : A.depth < recursionLimit) (hpn : (a, go) ∈ G.pn) (hgen : ∀ h : Heap, h.get? a = some go → h.IsGen a g)
    (yes : ∀ i m y H, Yl i m y H → ∃ b, y = .bl b ∧ (b = true → ∃ m', m' < m ∧ W (i + 1) m' H) ∧ (b = false → Qf H))
    (hF : ∀ s H, Inv G [] σw H s → Qf H → R' (.ok (.ret (.bool false))) s) (hT : ∀ s H, Inv G [] σw H s → Dn H → R' (.ok (.ret (.bool true))) s) :
    ∀ (n : Nat) (H : Hp) (s : Shared), Asleep G A.in1.in1 σw fp tn W Dn Yl g n H s → codeAny (model G.prog G.w) A (.builtin "all.loop" ⟨[.ref a], []⟩) R' s := by
  intro n
  induction n with
  | zero =>
    intro H s h
    refine codeAny_builtin F.entry_all_loop ?_
    rw [Around.under_plainId F.plain_all_loop _]
    show wpAny _ A.in1 (pyNext (.ref a) >>= _) _ _ s
    refine wpAny_bind (gx_next (A := A.in1) hh hd hpn hgen h (fun v y i m H1 s1 I1 r1 st1 nf1 yl go => ?_) fun H1 s1 I1 dn => ?_)
    · obtain ⟨b, rfl, h1, h2⟩ := yes i m y H1 yl
      obtain rfl : v = .bool b := r1
      refine wpAny_bind (wpAny_holding (wpAny_truthy_bool ?_))
      refine wpAny_bind (wpAny_letGo ?_)
      cases b with
      | true =>
        obtain ⟨m', hm', w'⟩ := h1 rfl
        obtain ⟨n', e, _⟩ := go m' H1 s1 hm' rfl I1 st1 nf1 w'
        omega
      | false =>
        simp only [Bool.false_eq_true, if_false]
        exact wpAny_bind (wpAny_rule (wpAny_pure (hF s1 H1 I1 (h2 rfl))))
    · exact wpAny_bind (wpAny_rule (wpAny_pure (hT s1 H1 I1 dn)))
  | succ n ih =>
    intro H s h
    refine codeAny_builtin F.entry_all_loop ?_
    rw [Around.under_plainId F.plain_all_loop _]
    show wpAny _ A.in1 (pyNext (.ref a) >>= _) _ _ s
    refine wpAny_bind (gx_next (A := A.in1) hh hd hpn hgen h (fun v y i m H1 s1 I1 r1 st1 nf1 yl go => ?_) fun H1 s1 I1 dn => ?_)
    · obtain ⟨b, rfl, h1, h2⟩ := yes i m y H1 yl
      obtain rfl : v = .bool b := r1
      refine wpAny_bind (wpAny_holding (wpAny_truthy_bool ?_))
      refine wpAny_bind (wpAny_letGo ?_)
      cases b with
      | true =>
        obtain ⟨m', hm', w'⟩ := h1 rfl
        obtain ⟨n', e, z⟩ := go m' H1 s1 hm' rfl I1 st1 nf1 w'
        have e2 : n' = n := by omega
        subst e2
        simp only [if_true]
        exact wpAny_pure ⟨plainId_quiet F.plain_all_loop _, ih H1 s1 z⟩
      | false =>
        simp only [Bool.false_eq_true, if_false]
        exact wpAny_bind (wpAny_rule (wpAny_pure (hF s1 H1 I1 (h2 rfl))))
    · exact wpAny_bind (wpAny_rule (wpAny_pure (hT s1 H1 I1 dn)))

/-- the items gathered in the list at S, which is tracked -/
theorem gx_gather {R' : Result → Shared → Prop} {S : Addr} {res : Value} (hh : A.handled = none) (hd : A.depth < recursionLimit) (hpn : (a, go) ∈ G.pn) (hgen : ∀ h : Heap, h.get? a = some go → h.IsGen a g)
    (hkeep : ∀ i h h', tn i h → (∀ b ∈ fp, ∀ o, h.get? b = some o → h'.get? b = some o) → tn i h') 
    (yes : ∀ i m y H, Yl i m y H → ∃ acc, H S = some (.lst acc) ∧ acc.length < sizeLine ∧ ∃ m', m' < m ∧ W (i + 1) m' (upd H S (.lst (acc ++ [y]))))
    (hT : ∀ s H, Inv G [] σw H s → Dn H → R' (.ok (.ret res)) s) :
    ∀ (n : Nat) (H : Hp) (s : Shared), Asleep G A.in1.in1 σw fp tn W Dn Yl g n H s → codeAny (model G.prog G.w) A (.builtin "list.extend.loop" ⟨[.ref S, .ref a, res], []⟩) R' s := by
  have item : ∀ (v : Value) (y : V) (i m : Nat) (H1 : Hp) (s1 : Shared) (n : Nat), (∀ n' H s, n = n' + 1 → Asleep G A.in1.in1 σw fp tn W Dn Yl g n' H s → codeAny (model G.prog G.w) A (.builtin "list.extend.loop" ⟨[.ref S, .ref a, res], []⟩) R' s) →
      Inv G [] σw H1 s1 → RelV y v → tn (i + 1) s1.heap → (∀ b ∈ fp, H1 b = none) → Yl i m y H1 →
      (∀ m' H' s', m' < m → s'.gens = s1.gens → Inv G [] σw H' s' → tn (i + 1) s'.heap → (∀ b ∈ fp, H' b = none) → W (i + 1) m' H' → ∃ n', n = n' + 1 ∧ Asleep G A.in1.in1 σw fp tn W Dn Yl g n' H' s') →
      wpAny (model G.prog G.w) A.in1 (do updateSeq S (·.push v); again (.builtin "list.extend.loop" ⟨[.ref S, .ref a, res], []⟩)) (fun fin s' => match fin with | .done f => R' (.ok f) s' | .again c' => c'.quiet = true ∧ codeAny (model G.prog G.w) A c' R' s') (fun e s' => R' (.error e) s') s1 := by
    intro v y i m H1 s1 n ih I1 r1 st1 nf1 yl go
    obtain ⟨acc, hS, hl, m', hm', w'⟩ := yes i m y H1 yl
    obtain ⟨hz, its, c, ri, e⟩ := I1.hok S _ hS
    have hli := ri.length
    have hsz : its.toArray.size < sizeLine := by rw [List.size_toArray]; omega
    refine wpAny_bind ?_
    refine wpAny_updateSeq e rfl (wpAny_pure ⟨plainId_quiet F.plain_extend_loop _, ?_⟩) (Nat.le_of_lt hsz) (by show (its.toArray.push v).size ≤ sizeLine + 1; rw [Array.size_push]; omega)
    have oth : ∀ b o, b ≠ S → s1.heap.get? b = some o → (s1.heap.update S (Obj.mapSeq (·.push v))).get? b = some o := fun b o hbS e => (Heap.get?_update_other _ _ (Ne.symm hbS)).trans e
    have own := Heap.get?_update_self (Obj.mapSeq (·.push v)) e rfl
    have I2 : Inv G [] σw (upd H1 S (.lst (acc ++ [y]))) { s1 with heap := s1.heap.update S (Obj.mapSeq (·.push v)) } := by
      refine I1.write (t' := s1.toks) (by rw [hS]; trivial) (.inl rfl) (fun b u hb q => oth b u hb q) ⟨_, own⟩ ⟨by rw [List.length_append]; exact hl, its ++ [v], c + 1, ri.append (.cons r1 .nil), ?_⟩
      rw [own]
      simp [Obj.mapSeq]

    have nS : ∀ b ∈ fp, b ≠ S := fun b hb z => by
      have := nf1 b hb
      rw [z, hS] at this
      cases this
    obtain ⟨n', e1, z⟩ := go m' _ { s1 with heap := s1.heap.update S (Obj.mapSeq (·.push v)) } hm' rfl I2 (hkeep _ _ _ st1 fun b hb o q => oth b o (nS b hb) q) (fun b hb => by rw [upd_ne (nS b hb)]; exact nf1 b hb) w'
    exact ih n' _ _ e1 z
  intro n
  induction n with
  | zero =>
    intro H s h
    refine codeAny_builtin F.entry_extend_loop ?_
    rw [Around.under_plainId F.plain_extend_loop _]
    show wpAny _ A.in1 (pyNext (.ref a) >>= _) _ _ s
    refine wpAny_bind (gx_next (A := A.in1) hh hd hpn hgen h (fun v y i m H1 s1 I1 r1 st1 nf1 yl go => ?_) fun H1 s1 I1 dn => ?_)
    · exact item v y i m H1 s1 0 (fun n' H s e _ => by omega) I1 r1 st1 nf1 yl go
    · exact wpAny_pure (hT s1 H1 I1 dn)
  | succ n ih =>
    intro H s h
    refine codeAny_builtin F.entry_extend_loop ?_
    rw [Around.under_plainId F.plain_extend_loop _]
    show wpAny _ A.in1 (pyNext (.ref a) >>= _) _ _ s
    refine wpAny_bind (gx_next (A := A.in1) hh hd hpn hgen h (fun v y i m H1 s1 I1 r1 st1 nf1 yl go => ?_) fun H1 s1 I1 dn => ?_)
    · exact item v y i m H1 s1 (n + 1) (fun n' H s e z => by
        have e2 : n' = n := by omega
        subst e2
        exact ih H s z) I1 r1 st1 nf1 yl go
    · exact wpAny_pure (hT s1 H1 I1 dn)
end
end GX

namespace GX
open PySem PySem.Spec PyProof.Rows L2 GenW

section
variable {G : Cx} {B : Around} {E : Value → Shared → Prop} {σw : L2.St} {fp : List Addr} {tn : Nat → Heap → Prop} {a : Addr} {g : Nat} {go : Obj} {H : Hp} {s : Shared}
theorem gx_collect {Q : List Value → Shared → Prop} (hh : B.handled = none) (hd : B.depth < recursionLimit) (hpn : (a, go) ∈ G.pn) (hgen : ∀ h : Heap, h.get? a = some go → h.IsGen a g)
    (hkeep : ∀ i h h', tn i h → (∀ b ∈ fp, ∀ o, h.get? b = some o → h'.get? b = some o) → tn i h') (hobj : ∀ i h, tn i h → ∀ b ∈ fp, ∃ o, h.get? b = some o) (I : Inv G [] σw H s) (st : tn 0 s.heap) (nf : ∀ b ∈ fp, H b = none)
    (start : ∀ S s1, H S = none → s1.gens = s.gens → Inv G [] σw (upd H S (.lst [])) s1 → tn 0 s1.heap → (∀ b ∈ fp, upd H S (.lst []) b = none) →
      ∃ n W Yl Dn, Asleep G B.in1.in1 σw fp tn W Dn Yl g n (upd H S (.lst [])) s1 ∧
        (∀ i m y H, Yl i m y H → ∃ acc, H S = some (.lst acc) ∧ acc.length < sizeLine ∧ ∃ m', m' < m ∧ W (i + 1) m' (upd H S (.lst (acc ++ [y])))) ∧
        (∀ s' H', Inv G [] σw H' s' → Dn H' → ∃ acc, H' S = some (.lst acc) ∧ ∀ us, Vals acc us → Q us s')) :
    wpAny (model G.prog G.w) B (collect (.ref a)) Q E s := by
  have ha := (I.pin (a, go) (List.mem_append_left _ hpn)).1
  have hSI : s.heap.objs.size ≠ a := Nat.ne_of_gt (Heap.lt_size ha)
  have fsz : ∀ b ∈ fp, ∀ o, s.heap.get? b = some o → b ≠ s.heap.objs.size := fun b _ o e => Nat.ne_of_lt (Heap.lt_size e)
  unfold collect
  refine wpAny_bind (wpAny_runValue (codeAny_builtin F.entry_proto_collect ?_))
  rw [Around.under_plainId F.plain_proto_collect _]
  show wpAny _ B.in1 (newList [] >>= fun l => again (.builtin "list.__iadd__" ⟨[l, .ref a], []⟩)) _ _ s
  refine wpAny_bind (wpAny_newObj_type ?_)
  refine wpAny_pure ⟨plainId_quiet F.plain_list_iadd _, codeAny_builtin F.entry_list_iadd ?_⟩
  rw [Around.under_plainId F.plain_list_iadd _]
  have ga : ∀ {h : Heap} (_ : ∀ b o, s.heap.get? b = some o → h.get? b = some o), h.IsGen a g := fun {h} k => hgen h (k _ _ ha)
  have k1 : ∀ b o, s.heap.get? b = some o → (s.heap.push { cls := .type "list", data := .seq ([] : List Value).toArray }).get? b = some o := fun b o e => Heap.get?_push_of_some _ e
  show wpAny _ B.in1 (Builtin.List.listExtendWith (.ref s.heap.objs.size) (.ref a) (.ref s.heap.objs.size)) _ _ _
  unfold Builtin.List.listExtendWith
  refine wpAny_bind (wpAny_typeOf (Heap.IsGen.typeIs (s := { s with heap := _ }) (ga k1)) ?_)
  have h1 : Builtin.List.listSameRef (.ref s.heap.objs.size) (.ref a) = false := by simp [Builtin.List.listSameRef, hSI]
  have h2 : (Value.type "generator" == Value.type "list") = false := by decide
  have h3 : (Value.type "generator" == Value.type "tuple") = false := by decide
  simp only [h1, h2, h3, Bool.or_false, Bool.false_eq_true, if_false]
  refine wpAny_bind (wpAny_pyIter_gen (s := { s with heap := _ }) (ga k1) ?_)
  refine wpAny_bind (wpAny_holding ?_)
  unfold Builtin.List.listLengthHint
  refine wpAny_bind (wpAny_specialOf (Heap.IsGen.typeIs (s := { s with heap := _ }) (ga k1)) F.gen_no_len ?_)
  show wpAny _ B.in1 (specialOf (Value.ref a) (Str.ofString "__length_hint__") >>= _) _ _ _
  refine wpAny_bind (wpAny_specialOf (Heap.IsGen.typeIs (s := { s with heap := _ }) (ga k1)) F.gen_no_hint ?_)
  refine wpAny_pure ?_
  show wpAny _ B.in1 (rule "list.extend.makes-room" >>= fun _ => Builtin.List.listTouch (.ref s.heap.objs.size) >>= fun _ =>
    again (.builtin "list.extend.loop" ⟨[.ref s.heap.objs.size, .ref a, .ref s.heap.objs.size], []⟩)) _ _ _
  refine wpAny_bind (wpAny_rule ?_)
  have hS₁ : (s.heap.push { cls := .type "list", data := .seq ([] : List Value).toArray }).get? s.heap.objs.size = some { cls := .type "list", data := .seq ([] : List Value).toArray } := Heap.get?_push_size _ rfl
  refine wpAny_bind ?_
  show wpAny _ B.in1 (updateSeq s.heap.objs.size (·.push .none) >>= fun _ => updateSeq s.heap.objs.size (·.pop)) _ _ _
  refine wpAny_bind (wpAny_updateSeq hS₁ rfl ?_)
  have hS₂ := Heap.get?_update_self (Obj.mapSeq (·.push Value.none)) hS₁ rfl
  refine wpAny_updateSeq hS₂ rfl ?_
  have hS₃ := Heap.get?_update_self (Obj.mapSeq (·.pop)) hS₂ rfl
  have oth : ∀ b o, b ≠ s.heap.objs.size → s.heap.get? b = some o →
      (((s.heap.push { cls := .type "list", data := .seq ([] : List Value).toArray }).update s.heap.objs.size (Obj.mapSeq (·.push Value.none))).update s.heap.objs.size (Obj.mapSeq (·.pop))).get? b = some o :=
    fun b o hb e => (Heap.get?_update_other _ _ (Ne.symm hb)).trans ((Heap.get?_update_other _ _ (Ne.symm hb)).trans (k1 b o e))
  have kp : ∀ b o, s.heap.get? b = some o → (((s.heap.push { cls := .type "list", data := .seq ([] : List Value).toArray }).update s.heap.objs.size (Obj.mapSeq (·.push Value.none))).update s.heap.objs.size (Obj.mapSeq (·.pop))).get? b = some o :=
    fun b o e => oth b o (Nat.ne_of_lt (Heap.lt_size e)) e
  have I1 : Inv G [] σw (upd H s.heap.objs.size (.lst [])) { s with heap := (((s.heap.push { cls := .type "list", data := .seq ([] : List Value).toArray }).update s.heap.objs.size (Obj.mapSeq (·.push Value.none))).update s.heap.objs.size (Obj.mapSeq (·.pop))) } :=
    I.laid (t' := s.toks) kp (Nat.le_refl _) ⟨Nat.zero_le _, [], _, .nil, hS₃⟩
  obtain ⟨n, W, Yl, Dn, hz, yes, fin⟩ := start s.heap.objs.size { s with heap := (((s.heap.push { cls := .type "list", data := .seq ([] : List Value).toArray }).update s.heap.objs.size (Obj.mapSeq (·.push Value.none))).update s.heap.objs.size (Obj.mapSeq (·.pop))) } (I.hok.fresh (Nat.le_refl _)) rfl I1 (hkeep _ _ _ st fun b hb o e => kp b o e) (fun b hb => by
    by_cases z : b = s.heap.objs.size
    · obtain ⟨o, e⟩ := hobj 0 _ st b hb
      exact absurd z (Nat.ne_of_lt (Heap.lt_size e))
    · rw [upd_ne z]; exact nf b hb)
  refine wpAny_pure ⟨plainId_quiet F.plain_extend_loop _, gx_gather (A := B) hh hd hpn hgen hkeep yes (fun s' H' I' dn => ?_) n _ _ hz⟩
  obtain ⟨acc, hS, hq⟩ := fin s' H' I' dn
  obtain ⟨hl, its, c, ri, e⟩ := I'.hok _ _ hS
  show wpAny _ B (load s.heap.objs.size >>= _) _ _ s'
  refine wpAny_bind (wpAny_load e ?_)
  refine wpAny_pure ?_
  have := hq its ri
  simpa using this

theorem gx_code_tuple {A : Around} {Q₁ : Value → Shared → Prop} (hh : A.handled = none) (hd : A.depth < recursionLimit) (hpn : (a, go) ∈ G.pn) (hgen : ∀ h : Heap, h.get? a = some go → h.IsGen a g)
    (hkeep : ∀ i h h', tn i h → (∀ b ∈ fp, ∀ o, h.get? b = some o → h'.get? b = some o) → tn i h') (hobj : ∀ i h, tn i h → ∀ b ∈ fp, ∃ o, h.get? b = some o) (I : Inv G [] σw H s) (st : tn 0 s.heap) (nf : ∀ b ∈ fp, H b = none)
    (start : ∀ S s1, H S = none → s1.gens = s.gens → Inv G [] σw (upd H S (.lst [])) s1 → tn 0 s1.heap → (∀ b ∈ fp, upd H S (.lst []) b = none) →
      ∃ n W Yl Dn, Asleep G A.in1.in1.in1 σw fp tn W Dn Yl g n (upd H S (.lst [])) s1 ∧
        (∀ i m y H, Yl i m y H → ∃ acc, H S = some (.lst acc) ∧ acc.length < sizeLine ∧ ∃ m', m' < m ∧ W (i + 1) m' (upd H S (.lst (acc ++ [y])))) ∧
        (∀ s' H', Inv G [] σw H' s' → Dn H' → ∃ acc, H' S = some (.lst acc) ∧ ∀ us, Vals acc us → Q₁ (.ref s'.heap.objs.size) { s' with heap := s'.heap.push { cls := .type "tuple", data := .seq us.toArray } })) :
    codeAny (model G.prog G.w) A (.call (.builtin "tuple.__new__") ⟨[.type "tuple", .ref a], []⟩) (wants Q₁ E) s := by
  refine codeAny_of_tree ?_
  show wpAny _ A.in1 (do checkBuiltinCall "tuple.__new__" ⟨[.type "tuple", .ref a], []⟩; again (.builtin "tuple.__new__" ⟨[.type "tuple", .ref a], []⟩)) _ _ s
  refine wpAny_bind (wpAny_of_eq (F.newCall_tuple_1 _) (wpAny_pure ⟨plainId_quiet F.plain_tuple_new _, codeAny_builtin F.entry_tuple_new ?_⟩))
  rw [Around.under_plainId F.plain_tuple_new _]
  have hsub := sub_tuple_self
  have hinit := init_tuple_lookup
  have hmh := madeHere_tuple
  have ha := (I.pin (a, go) (List.mem_append_left _ hpn)).1
  have hTI : s.TypeIs (.ref a) "generator" := Heap.IsGen.typeIs (s := s) (hgen _ ha)
  wp_walk using wpAny_typeOf hTI, gx_collect (B := A.in1) hh hd hpn hgen hkeep hobj I st nf
  intro S s1 h1 h2 h3 h4 h5
  obtain ⟨n, W, Yl, Dn, hz, yes, fin⟩ := start S s1 h1 h2 h3 h4 h5
  refine ⟨n, W, Yl, Dn, hz, yes, fun s' H' I' dn => ?_⟩
  obtain ⟨acc, hS, hq⟩ := fin s' H' I' dn
  refine ⟨acc, hS, fun us r => ?_⟩
  show wpAny _ _ (Builtin.Tuple.tupleExact us.toArray >>= fun v => ret v) _ _ _
  unfold Builtin.Tuple.tupleExact
  have hl := (I'.hok _ _ hS).1
  refine wpAny_bind (wpAny_newObj_type ?_ (by show us.toArray.size ≤ sizeLine; rw [List.size_toArray, ← r.length]; exact hl))
  exact wpAny_pure (hq us r)

theorem gx_call_tuple {A : Around} {Q : Value → Shared → Prop} (hh : A.handled = none) (hd : A.depth < recursionLimit) (hpn : (a, go) ∈ G.pn) (hgen : ∀ h : Heap, h.get? a = some go → h.IsGen a g)
    (hkeep : ∀ i h h', tn i h → (∀ b ∈ fp, ∀ o, h.get? b = some o → h'.get? b = some o) → tn i h') (hobj : ∀ i h, tn i h → ∀ b ∈ fp, ∃ o, h.get? b = some o) (I : Inv G [] σw H s) (st : tn 0 s.heap) (nf : ∀ b ∈ fp, H b = none)
    (start : ∀ S s1, H S = none → s1.gens = s.gens → Inv G [] σw (upd H S (.lst [])) s1 → tn 0 s1.heap → (∀ b ∈ fp, upd H S (.lst []) b = none) →
      ∃ n W Yl Dn, Asleep G A.in1.in1.in1.in1 σw fp tn W Dn Yl g n (upd H S (.lst [])) s1 ∧
        (∀ i m y H, Yl i m y H → ∃ acc, H S = some (.lst acc) ∧ acc.length < sizeLine ∧ ∃ m', m' < m ∧ W (i + 1) m' (upd H S (.lst (acc ++ [y])))) ∧
        (∀ s' H', Inv G [] σw H' s' → Dn H' → ∃ acc, H' S = some (.lst acc) ∧ ∀ us, Vals acc us → Q (.ref s'.heap.objs.size) { s' with heap := s'.heap.push { cls := .type "tuple", data := .seq us.toArray } })) :
    wpAny (model G.prog G.w) A (call (.type "tuple") [.ref a]) Q E s := by
  refine callType_codes (Q₁ := fun obj s₁ => s₁.TypeIs obj "tuple" ∧ Q obj s₁) F.called_tuple (F.typeCall_tuple_1 _) F.entry_object_init
    (gx_code_tuple (A := A.in1) hh hd hpn hgen hkeep hobj I st nf fun S s1 h1 h2 h3 h4 h5 => ?_) fun obj s₁ h₁ => ?_
  · obtain ⟨n, W, Yl, Dn, hz, yes, fin⟩ := start S s1 h1 h2 h3 h4 h5
    refine ⟨n, W, Yl, Dn, hz, yes, fun s' H' I' dn => ?_⟩
    obtain ⟨acc, hS, hq⟩ := fin s' H' I' dn
    exact ⟨acc, hS, fun us r => ⟨⟨_, Heap.get?_push_size _ rfl, rfl⟩, hq us r⟩⟩
  · exact ⟨h₁.1, F.args_object_init_2 obj _, object_init_meets F.called_tuple.init.lookup F.called_tuple.made (by decide) G.prog G.w A.in1 _ s₁ ⟨h₁.1, rfl, h₁.2⟩⟩
end
end GX

namespace GX
open PySem PySem.Spec PyProof.Rows L2 GenW

/-- back in the def's context -/
theorem Made.back {X : Cx} {pins : List (Addr × Obj)} {σ σw : L2.St} {own : List (Str × Nat)} {elt tg iter : Expr} {ifs : List Expr} {scope : Scope} {gpos : Pos} {J : It} {H4 H : Hp} {a : Addr} {s5 s : Shared} {Aw : Around} {pn : List (Addr × Obj)}
    (M : Made X pins σ own elt tg iter ifs scope gpos J H4 a s5) (I : Inv (genX X Aw M.s4 H4 M.cenv M.fp pn) [] σw H s) : Inv X pins σ H s :=
  M.I4.call' (ch := M.fp) I.os I.base I.hok I.bare fun b hb => ⟨(M.hfp b hb).1.2.2.2.1, (M.hfp b hb).1.2.1, (M.hfp b hb).1.2.2.2.2.1, (M.hfp b hb).1.2.2.2.2.2⟩

/-- what each turn is to do -/
def Turns (J : It) (g : TG) (tt : TT) (te : TE) (σ : L2.St) (vs : List Nat) (W : Nat → Nat → Hp → Prop) (Dn : Hp → Prop) (Yl : Nat → Nat → V → Hp → Prop) : Prop :=
  ∀ i m H, W i m H → (J.stop i H ∧ Dn H) ∨ (J.go i H ∧ ∀ x H', J.yld i H x H' → g x (wipe σ vs) H' fun σ2 H2 => wipe σ2 vs = wipe σ vs ∧ tt σ2 H2 fun b H3 =>
    if b = true then te σ2 H3 (Yl i m) else ∃ m', m' < m ∧ W (i + 1) m' H3)

/-- all(elt for tg in iter if ..): behind it the def's table may have grown -/
def tAllG (P : Addr) (wi : TI) (g : TG) (tt : TT) (te : TE) (vs : List Nat) : TE := fun σ H Q => wi σ H fun J H1 => GxR.TabG H1 P ∧ ∀ H4, GxR.Tabbed P H1 H4 → ∃ W : Nat → Nat → Hp → Prop, (∃ m, W 0 m H4) ∧
  Turns J g tt te σ vs W (fun H => Q (.bl true) H) (fun i m y H => ∃ b, y = .bl b ∧ (b = true → ∃ m', m' < m ∧ W (i + 1) m' H) ∧ (b = false → Q (.bl false) H))
/-- tuple(elt for tg in iter if ..): the items are gathered in a list at S -/
def tTupG (P : Addr) (wi : TI) (g : TG) (tt : TT) (te : TE) (vs : List Nat) : TE := fun σ H Q => wi σ H fun J H1 => GxR.TabG H1 P ∧ ∀ H4 S, GxR.Tabbed P H1 H4 → H4 S = none → ∃ W : Nat → Nat → Hp → Prop, (∃ m, W 0 m (upd H4 S (.lst []))) ∧
  Turns J g tt te σ vs W (fun H => ∃ acc, H S = some (.lst acc) ∧ ∀ p, H p = none → Q (.ref p) (upd H p (.tup acc)))
    (fun i m y H => ∃ acc, H S = some (.lst acc) ∧ acc.length < sizeLine ∧ ∃ m', m' < m ∧ W (i + 1) m' (upd H S (.lst (acc ++ [y]))))

section
variable {X : Cx} {c P : Addr} {elt tg iter : Expr} {ifs : List Expr} {p pos gpos : Pos} {scope : Scope} {own : List (Str × Nat)} {wi : TI} {g : TG} {tt : TT} {te : TE} {k : Nat}

theorem gx_wake {pins : List (Addr × Obj)} {σ : L2.St} {J : It} {H4 H : Hp} {a : Addr} {s5 s1 : Shared} {Aw : Around} {W : Nat → Nat → Hp → Prop} {Dn : Hp → Prop} {Yl : Nat → Nat → V → Hp → Prop} {m : Nat}
    (M : Made X pins σ own elt tg iter ifs scope gpos J H4 a s5) (hco : scope.isCoroutine = false)
    (pg : PG (genX X Aw M.s4 H4 M.cenv M.fp [(a, M.go)]) tg g) (pt : PTs (genX X Aw M.s4 H4 M.cenv M.fp [(a, M.go)]) ifs tt) (pe : PE (genX X Aw M.s4 H4 M.cenv M.fp [(a, M.go)]) elt te)
    (I : Inv (genX X Aw M.s4 H4 M.cenv M.fp [(a, M.go)]) [] (wipe σ (own.map (·.2))) H s1) (st : M.tn 0 s1.heap) (hgens : s1.gens = s5.gens) (nf : ∀ b ∈ M.fp, H b = none) (turn : Turns J g tt te σ (own.map (·.2)) W Dn Yl) (w : W 0 m H) :
    Asleep (genX X Aw M.s4 H4 M.cenv M.fp [(a, M.go)]) Aw (wipe σ (own.map (·.2))) M.fp M.tn W Dn Yl M.g (m + 1) H s1 := by
  refine ⟨I, .fresh (.compStart (.GeneratorExp elt [⟨tg, iter, ifs, 0⟩] scope gpos) 0 (.ref M.it) .none M.cenv), by rw [hgens]; exact M.gs, rfl, ?_⟩
  refine gx_start (X := X) (J := J) (W := W) M.T st ?_
  refine gx_loop M.T (by rw [M.hsc]; exact hco) pg pt pe (fun p hp z => ?_) turn m (m + 1) 0 H _ _ (Nat.lt_succ_self _) (inv_set I rfl) st nf w
  rw [List.mem_singleton.mp hp] at z
  exact absurd (M.hfp a z).2 (Nat.not_lt.mpr (Nat.le_of_lt M.hge))

theorem pe_allG (hr : Room (k + 4) X.A) (hN : X.N.Nodup) (hg : Gl X "all") (hm : X.mg "all" = none) (TB : GxR.TabB X.base X.mg c P) (hcode : X.env.code = .ref c) (ok : BlkOk X.N X.env.scope scope own) (hcell : ∀ y ∈ scope.names, y.2 ≠ .cell) (hdot : scope.names.lookup (".0" : Str) = some NameKind.local) (hco : scope.isCoroutine = false)
    (hi : PI X tg iter wi) (hs : ∀ v, genFold iter X.env v = pure v)
    (pg : ∀ (Aw : Around) (s4 : Shared) (H4 : Hp) (C : Addr) (code : Value) (fp : List Addr) (pn : List (Addr × Obj)), PG (genX X Aw s4 H4 (genEnv scope (cloFrom X.env.cells scope.names []) C code builtinsNs X.env) fp pn) tg g)
    (pt : ∀ (Aw : Around) (s4 : Shared) (H4 : Hp) (C : Addr) (code : Value) (fp : List Addr) (pn : List (Addr × Obj)), Room (k + 1) Aw → PTs (genX X Aw s4 H4 (genEnv scope (cloFrom X.env.cells scope.names []) C code builtinsNs X.env) fp pn) ifs tt)
    (pe : ∀ (Aw : Around) (s4 : Shared) (H4 : Hp) (C : Addr) (code : Value) (fp : List Addr) (pn : List (Addr × Obj)), Room (k + 1) Aw → PE (genX X Aw s4 H4 (genEnv scope (cloFrom X.env.cells scope.names []) C code builtinsNs X.env) fp pn) elt te)
    (he : starEach [.GeneratorExp elt [⟨tg, iter, ifs, 0⟩] scope gpos] X.env = (false, eval (.GeneratorExp elt [⟨tg, iter, ifs, 0⟩] scope gpos) X.env) :: starEach [] X.env := by rfl) :
    PE X (.Call (.Name "all" p) [.GeneratorExp elt [⟨tg, iter, ifs, 0⟩] scope gpos] [] pos) (tAllG P wi g tt te (own.map (·.2))) := by
  refine ⟨fun pins s σ H Q I h => ?_⟩
  refine wpAny_Call_Name_kw (ld_blt I hg hm (by decide +kernel : bootBuiltins "all" = some (.builtin "all")) ?_)
  refine PyProof.Rows.callWith_builtin1 ?_ he (by rfl)
  rw [he]
  show wpAny _ _ (spliced ((false, eval (.GeneratorExp elt [⟨tg, iter, ifs, 0⟩] scope gpos) X.env) :: backTo pos (starEach [] X.env))) _ _ s
  refine Calls.spliced_cons (gx_make hr hN TB hcode ok hcell hdot hco hi hs I h fun J H1 H4 a s5 hR hT ⟨M⟩ => ?_)
  obtain ⟨W, ⟨m, w⟩, turn⟩ := hR H4 hT
  refine Calls.spliced_nil ?_
  have hfr : X.A.in1.in1.frames = some X.stack := I.ok.frames
  have I5 := M.inv X.A.in1.in1 hr.hd hfr
  have hgen := M.gen _ (I5.pin (a, M.go) (List.mem_append_left _ (List.mem_singleton.mpr rfl))).1
  obtain ⟨code, hce⟩ := M.env
  have hA2 : Room (k + 1) X.A.in1.in1 := (hr.mono (by omega : k + 3 ≤ k + 4)).in1.in1
  refine call_function_tree F.kind_all F.plain_all F.entry_all (F.args_all1 _) ?_
  unfold Builtin.«all»
  refine wpAny_bind (m := oneArg "all" _) (wpAny_pure ?_)
  refine wpAny_bind (wpAny_pyIter_gen hgen ?_)
  refine wpAny_pure ⟨plainId_quiet F.plain_all_loop _, ?_⟩
  refine gx_all_loop (G := genX X X.A.in1.in1 M.s4 H4 M.cenv M.fp [(a, M.go)]) (A := X.A) (Qf := fun H => Q (.bl false) H) (g := M.g) (go := M.go) (fp := M.fp) (tn := M.tn) hr.hd hr.depth (List.mem_singleton.mpr rfl) M.gen (fun i m y H q => q)
    (fun s' H' I' q => ⟨.bl false, H', M.back I', rfl, q⟩) (fun s' H' I' q => ⟨.bl true, H', M.back I', rfl, q⟩) (m + 1) H4 s5
    (gx_wake M hco (by rw [hce]; exact pg _ _ _ _ _ _ _) (by rw [hce]; exact pt _ _ _ _ _ _ _ hA2) (by rw [hce]; exact pe _ _ _ _ _ _ _ hA2) I5 M.st rfl (fun b hb => (M.hfp b hb).1.1) turn w)

theorem pe_tupG (hr : Room (k + 6) X.A) (hN : X.N.Nodup) (hg : Gl X "tuple") (hm : X.mg "tuple" = none) (TB : GxR.TabB X.base X.mg c P) (hcode : X.env.code = .ref c) (ok : BlkOk X.N X.env.scope scope own) (hcell : ∀ y ∈ scope.names, y.2 ≠ .cell) (hdot : scope.names.lookup (".0" : Str) = some NameKind.local) (hco : scope.isCoroutine = false)
    (hi : PI X tg iter wi) (hs : ∀ v, genFold iter X.env v = pure v)
    (pg : ∀ (Aw : Around) (s4 : Shared) (H4 : Hp) (C : Addr) (code : Value) (fp : List Addr) (pn : List (Addr × Obj)), PG (genX X Aw s4 H4 (genEnv scope (cloFrom X.env.cells scope.names []) C code builtinsNs X.env) fp pn) tg g)
    (pt : ∀ (Aw : Around) (s4 : Shared) (H4 : Hp) (C : Addr) (code : Value) (fp : List Addr) (pn : List (Addr × Obj)), Room (k + 1) Aw → PTs (genX X Aw s4 H4 (genEnv scope (cloFrom X.env.cells scope.names []) C code builtinsNs X.env) fp pn) ifs tt)
    (pe : ∀ (Aw : Around) (s4 : Shared) (H4 : Hp) (C : Addr) (code : Value) (fp : List Addr) (pn : List (Addr × Obj)), Room (k + 1) Aw → PE (genX X Aw s4 H4 (genEnv scope (cloFrom X.env.cells scope.names []) C code builtinsNs X.env) fp pn) elt te)
    (he : starEach [.GeneratorExp elt [⟨tg, iter, ifs, 0⟩] scope gpos] X.env = (false, eval (.GeneratorExp elt [⟨tg, iter, ifs, 0⟩] scope gpos) X.env) :: starEach [] X.env := by rfl) :
    PE X (.Call (.Name "tuple" p) [.GeneratorExp elt [⟨tg, iter, ifs, 0⟩] scope gpos] [] pos) (tTupG P wi g tt te (own.map (·.2))) := by
  refine ⟨fun pins s σ H Q I h => ?_⟩
  refine wpAny_Call_Name_kw (ld_blt I hg hm (by decide +kernel : bootBuiltins "tuple" = some (.type "tuple")) ?_)
  refine PyProof.Rows.callWith_type1 ?_ he (by rfl)
  rw [he]
  show wpAny _ _ (spliced ((false, eval (.GeneratorExp elt [⟨tg, iter, ifs, 0⟩] scope gpos) X.env) :: backTo pos (starEach [] X.env))) _ _ s
  refine Calls.spliced_cons (gx_make hr hN TB hcode ok hcell hdot hco hi hs I h fun J H1 H4 a s5 hR hT ⟨M⟩ => ?_)
  refine Calls.spliced_nil ?_
  have hfr : X.A.in1.in1.in1.in1.frames = some X.stack := I.ok.frames
  have I5 := M.inv X.A.in1.in1.in1.in1 hr.hd hfr
  obtain ⟨code, hce⟩ := M.env
  have hA2 : Room (k + 1) X.A.in1.in1.in1.in1 := (hr.mono (by omega : k + 5 ≤ k + 6)).in1.in1.in1.in1
  have nf : ∀ b ∈ M.fp, H4 b = none := fun b hb => (M.hfp b hb).1.1
  refine gx_call_tuple (G := genX X X.A.in1.in1.in1.in1 M.s4 H4 M.cenv M.fp [(a, M.go)]) (A := X.A) (g := M.g) (go := M.go) (fp := M.fp) (tn := M.tn) hr.hd hr.depth (List.mem_singleton.mpr rfl) M.gen
    (fun i h h' => M.T.keep i h h') (fun i h t b hb => let ⟨o, e, _⟩ := M.T.obj i h t b hb; ⟨o, e⟩) I5 M.st nf fun S s1 hS hgs I1 st1 nf1 => ?_
  obtain ⟨W, ⟨m, w⟩, turn⟩ := hR H4 S hT hS
  refine ⟨m + 1, W, _, _, gx_wake M hco (by rw [hce]; exact pg _ _ _ _ _ _ _) (by rw [hce]; exact pt _ _ _ _ _ _ _ hA2) (by rw [hce]; exact pe _ _ _ _ _ _ _ hA2) I1 st1 hgs nf1 turn w, fun i m y H q => q, fun s' H' I' ⟨acc, hacc, q⟩ => ?_⟩
  refine ⟨acc, hacc, fun us r => ?_⟩
  have IX := M.back I'
  have hl := (I'.hok _ _ hacc).1
  refine ⟨.ref s'.heap.objs.size, upd H' s'.heap.objs.size (.tup acc), ?_, rfl, q _ (IX.hok.fresh (Nat.le_refl _))⟩
  exact IX.laid (t' := s'.toks) (fun b o e => Heap.get?_push_of_some _ e) (Nat.le_refl _) ⟨hl, us, r, _, Heap.get?_push_size _ rfl, rfl, _, rfl⟩
end
end GX

namespace B1
open PySem PySem.Spec PyProof.Rows L2

/-! ### defs that are called where nothing is being shown -/
structure FnG (P : Program) (w : World) (K : PySem.W.Frag) (mg : Str → Option Value) (base : Heap) (CX : CXT) (k : Nat) (f : Addr) (fd : FuncData) (ps : List Str) (sp : Sp) : Prop where
  len : ∀ vs H Q E, sp vs H Q E → vs.length = ps.length
  run : ∀ (A : Around) (outer : List Env) (s : Shared) (H : Hp) (args : Args) (us : List Value) (vs : List V) (Q : VK) (E : XK), A.guards = some [] → Room k A → Env0 P w K mg base A outer s H → BindsTo s fd args (ps.zip us) → Vals vs us → sp vs H Q E →
    codeAny (model P w) A (.call (.ref f) args) (CR CX outer P w H s Q E) s
theorem FnG.of {P : Program} {w : World} {K : PySem.W.Frag} {mg : Str → Option Value} {base : Heap} {CX : CXT} {k : Nat} {f : Addr} {fd : FuncData} {ps : List Str} {sp : Sp} (F : FnOk P w K mg base CX k f fd ps sp) : FnG P w K mg base CX k f fd ps sp :=
  ⟨F.len, fun A outer s H args us vs Q E _ hr => F.run A outer s H args us vs Q E hr⟩

theorem fnG_of {CX : CXT} {P : Program} {w : World} {K : PySem.W.Frag} {mg : Str → Option Value} {base : Heap} {k : Nat} {f : Addr} {name qual : Str} {params : Arguments} {body : List Stmt} {scope : Scope} {dV kV doc pm cdv ct oc : Value} {an od : Option Addr}
    {osl : Array (Option Value)} {N ps : List Str} {sp : Sp} (lk : K.lookup f = some ⟨oc, od, .func (PySem.W.fnOf name qual params body scope dV kV doc pm an cdv ct), osl⟩) (hcd : PySem.W.codeIn K cdv qual = true) (S : FnScope N ps scope)
    (len : ∀ vs H Q E, sp vs H Q E → vs.length = ps.length)
    (hbody : ∀ (A : Around) (outer : List Env) (s : Shared) (H : Hp) (vs : List V) (Q : VK) (E : XK), A.guards = some [] → Room k (A.deeper (envOfC qual scope s.heap.objs.size f cdv)) → sp vs H Q E →
      ∃ t, PSs (cxOf CX P w K mg base N qual scope f cdv A outer s H E) body t ∧ t { nx := fun _ H' => Q .non H', rt := Q } (start N vs) H) :
    FnG P w K mg base CX (k + 1) f (PySem.W.fnOf name qual params body scope dV kV doc pm an cdv ct) ps sp := by
  exact ⟨len, fun A outer s H args us vs Q E hgd hr e0 hb r hsp => LamX.run_ofS lk hcd S hr e0 hb r (len _ _ _ _ hsp) fun hr' => hbody A outer s H vs Q E hgd hr' hsp⟩

section
variable {X : Cx} {CX : CXT} {k : Nat} {f C : Addr} {fd : FuncData} {ps : List Str} {sp : Sp} {dvs : List V} {ds : List Value} {E : XK} {x m : Str} {p pos apos : Pos} {e o : Expr} {es : List Expr} {ta : TE} {t : TA}
theorem run_fnG {pins : List (Addr × Obj)} {σ : L2.St} {H : Hp} {s : Shared} {Q : VK} {us : List Value} {vs : List V} (F : FnG X.prog X.w X.K X.mg X.base CX k f fd ps sp) (hgd : X.A.guards = some []) (hr : Room k X.A) (hb : Binds X.K fd ps ds) (hd : Vals dvs ds) (hx : Passes CX X E)
    (I : Inv X pins σ H s) (r : Vals vs us) (h : sp (vs ++ dvs) H Q E) : wpAny (model X.prog X.w) X.A (call (.ref f) us) (EP X pins σ Q) X.xe s := by
  have r2 : Vals (vs ++ dvs) (us ++ ds) := r.append hd
  have hl : (us ++ ds).length = ps.length := by rw [← r2.length]; exact F.len _ _ _ _ h
  refine wpAny_call (codeAny_mono (F.run X.A X.stack s H ⟨us, []⟩ (us ++ ds) (vs ++ dvs) Q E hgd hr I.env0 (hb s us I.kIn hl) r2 h) fun r s' hq => ?_)
  cases r with
  | error e => exact hx pins σ H s e s' I hq
  | ok fl =>
    cases fl with
    | ret u => exact I.after hq
    | next => exact False.elim hq
    | brk => exact False.elim hq
    | cont => exact False.elim hq
theorem pe_callG (F : FnG X.prog X.w X.K X.mg X.base CX k f fd ps sp) (hgd : X.A.guards = some []) (hr : Room k X.A) (hg : Gl X x) (hm : X.mg x = some (.ref f)) (hk : PySem.W.keepIn X.K (.ref f) = true) (hb : Binds X.K fd ps ds) (hd : Vals dvs ds) (hx : Passes CX X E)
    (ha : PA X (e :: es) t) (hdb : (x == ("__debug__" : Str)) = false := by decide) (he : starEach (e :: es) X.env = (false, eval e X.env) :: starEach es X.env := by rfl) (hpl : (backTo pos (starEach es X.env)).any (·.1) = false := by rfl) :
    PE X (.Call (.Name x p) (e :: es) [] pos) (tCall sp dvs E t) := by
  refine ⟨fun pins s σ H Q I h => ?_⟩
  refine wpAny_Call_Name_kw (ld_glob I hg hm ?_ hdb)
  refine PySem.W.callWith_K (h₀ := X.base) I.ok.mod.kin hk (thn (ha.run pos pins s σ H _ I h) fun us s1 ⟨vs, H1, I1, r, q⟩ => ⟨I1.kIn, ?_⟩) he hpl
  exact run_fnG F hgd hr hb hd hx I1 r q
end

/-! ### a def with its code object -/
structure FunC (K : PySem.W.Frag) (x qual : Str) (st : Stmt) (f : Addr) (fd : FuncData) (c : Addr) : Prop where
  ex : ∃ (oc : Value) (od : Option Addr) (kV doc pm : Value) (an : Option Addr) (ct : Value) (osl : Array (Option Value)),
    fd = PySem.W.fnOf x qual (defArgs st) (defBody st) (defScope st) .none kV doc pm an (.ref c) ct ∧ K.lookup f = some ⟨oc, od, .func fd, osl⟩ ∧ PySem.W.codeIn K (.ref c) qual = true
  kp : PySem.W.keepIn K (.ref f) = true
theorem FunC.toFun {K : PySem.W.Frag} {x qual : Str} {st : Stmt} {f : Addr} {fd : FuncData} {c : Addr} (F : FunC K x qual st f fd c) : Fun K x qual st f fd := by
  obtain ⟨oc, od, kV, doc, pm, an, ct, osl, h1, h2, h3⟩ := F.ex
  exact ⟨⟨oc, od, kV, doc, pm, an, .ref c, ct, osl, h1, h2, h3⟩, F.kp⟩
section
variable {P : Program} {w : World} {K : PySem.W.Frag} {mg : Str → Option Value} {base : Heap} {x qual : Str} {st : Stmt} {f c : Addr} {fd : FuncData} {N ps : List Str} {k : Nat} {sp : Sp}
theorem FunC.ok (F : FunC K x qual st f fd c) (S : FnScope N ps (defScope st)) (len : ∀ vs H Q E, sp vs H Q E → vs.length = ps.length)
    (hbody : ∀ (A : Around) (outer : List Env) (s : Shared) (H : Hp) (vs : List V) (Q : VK) (E : XK), Room k (A.deeper (envOfC qual (defScope st) s.heap.objs.size f (.ref c))) → sp vs H Q E →
      ∃ t, PSs (cxOf CX0 P w K mg base N qual (defScope st) f (.ref c) A outer s H E).nox (defBody st) t ∧ t { nx := fun _ H' => Q .non H', rt := Q } (start N vs) H) : FnOk P w K mg base CX0 (k + 1) f fd ps sp := by
  obtain ⟨oc, od, kV, doc, pm, an, ct, osl, rfl, lk, hcd⟩ := F.ex
  refine fn_of lk hcd S len fun A outer s H vs Q E hr hsp => ?_
  obtain ⟨t, h, q⟩ := hbody A outer s H vs Q E hr hsp
  exact ⟨t, h.nox, q⟩
theorem FunC.okG (F : FunC K x qual st f fd c) (S : FnScope N ps (defScope st)) (len : ∀ vs H Q E, sp vs H Q E → vs.length = ps.length)
    (hbody : ∀ (A : Around) (outer : List Env) (s : Shared) (H : Hp) (vs : List V) (Q : VK) (E : XK), A.guards = some [] → Room k (A.deeper (envOfC qual (defScope st) s.heap.objs.size f (.ref c))) → sp vs H Q E →
      ∃ t, PSs (cxOf CX0 P w K mg base N qual (defScope st) f (.ref c) A outer s H E).nox (defBody st) t ∧ t { nx := fun _ H' => Q .non H', rt := Q } (start N vs) H) : FnG P w K mg base CX0 (k + 1) f fd ps sp := by
  obtain ⟨oc, od, kV, doc, pm, an, ct, osl, rfl, lk, hcd⟩ := F.ex
  refine fnG_of lk hcd S len fun A outer s H vs Q E hgd hr hsp => ?_
  obtain ⟨t, h, q⟩ := hbody A outer s H vs Q E hgd hr hsp
  exact ⟨t, h.nox, q⟩
end

/-! ### data -/
section
variable {X : Cx} {pins : List (Addr × Obj)} {σ : L2.St} {H : Hp} {s : Shared}
/-- data that may be shown -/
structure Sm (d : PyData) : Prop where
  sh : d.showable = true
  nd : d.hasDict = false
  dp : d.depth ≤ 30
  ln : d.shown.length ≤ sizeLine
theorem call_reprG {k : Nat} (hgd : X.A.guards = some []) (hr : Room k X.A) : CallR X (.builtin "repr") (fun xs H Q => ∃ v d, xs = [v] ∧ Dp X.K H v d ∧ Sm d ∧ Q (.str d.shown) H) := by
  intro pins s σ H xs us Q I r h
  obtain ⟨v, d, rfl, hd, sm, q⟩ := h
  obtain ⟨u, rfl, rv⟩ := vals1 r
  obtain ⟨as, ra⟩ := Dp.reads I d v u hd rv
  have hu := hr.un
  cases ra with
  | none => exact PySem.P.repr_of_none ⟨.str _, H, I.tok _, ⟨_, rfl⟩, by simpa only [PyData.shown] using q⟩
  | bool b => exact PySem.P.repr_of_bool ⟨.str _, H, I.tok _, ⟨_, rfl⟩, by simpa only [PyData.shown] using q⟩
  | int i t => exact PySem.P.repr_of_int (by simpa [PyData.showable] using sm.sh) ⟨.str _, H, I.tok _, ⟨_, rfl⟩, by simpa only [PyData.shown] using q⟩
  | str x t => exact PySem.P.repr_of_str ⟨.str _, H, I.tok _, ⟨_, rfl⟩, by simpa only [PyData.shown] using q⟩ (by simpa only [PyData.shown] using sm.ln)
  | list h1 h2 h3 h4 =>
    refine repr_of_reads' (.list h1 h2 h3 h4) sm.sh (fun z => by rw [sm.nd] at z; cases z) hgd (by have := sm.dp; omega) (fun _ _ e => e) (fun h' u tk hk => ?_) sm.ln
    exact ⟨.str _, H, I.kept hk, ⟨_, rfl⟩, q⟩
  | tuple h1 h2 h3 h4 =>
    refine repr_of_reads' (.tuple h1 h2 h3 h4) sm.sh (fun z => by rw [sm.nd] at z; cases z) hgd (by have := sm.dp; omega) (fun _ _ e => e) (fun h' u tk hk => ?_) sm.ln
    exact ⟨.str _, H, I.kept hk, ⟨_, rfl⟩, q⟩
  | dict h1 h2 h3 h4 h5 => have z := sm.nd; simp [PyData.hasDict] at z
end
end B1

namespace B1
open PySem PySem.Spec PyProof.Rows L2
theorem ite_b {c : Bool} {A B : Prop} (h1 : c = true → A) (h2 : c = false → B) : if c = true then A else B := by
  cases c with
  | true => exact iteT (h1 rfl)
  | false => exact iteF (h2 rfl)
theorem yesT {σ : L2.St} {H : Hp} {A B : Hp → Prop} (h : A H) : tYes σ H (fun b H3 => if b = true then A H3 else B H3) := by
  show if true = true then A H else B H
  rw [if_pos rfl]
  exact h

/-- what the law's call finds: the script and the tables are tracked, all else is the base -/
theorem end_call {P : Program} {w : World} {K : PySem.W.Frag} {mg mb : Str → Option Value} {k : Nat} {fa a : Addr} {cs : List (Addr × Addr)} {fd : FuncData} {x : Str} {sp : Sp} {s₁ : Shared} {vs : List Value} {ns : List Int}
    (KX : K.In s₁.heap) (hns : s₁.heap.Ns mainGlobals mg) (hb : s₁.heap.Ns builtinsNs mb) (hbb : ∀ x : Str, x ≠ "__name__" → mb x = bootBuiltins x) (hlim : s₁.heap.NoLimit) (hg : s₁.gens = #[])
    (hT : ∀ p ∈ cs, s₁.heap.get? p.2 = some { cls := .none, data := .fields #[] }) (nT : ∀ p ∈ cs, K.lookup p.2 = none) (C : ∀ p ∈ cs, PySem.W.CodeHd s₁.heap p.1 p.2)
    (hbm : ∃ (bm : Addr) (ob : Obj), mg "__builtins__" = some (.ref bm) ∧ bm ≠ builtinsNs ∧ s₁.heap.get? bm = some ob ∧ ob.cls = .type "module" ∧ ob.dict = some builtinsNs ∧ ob.data = .plain)
    (ha : s₁.heap.get? a = some { cls := .type "list", data := .seq vs.toArray }) (hi : IntsAre vs ns) (hl : ns.length ≤ sizeLine) (hr : Room k callerA)
    (F : ∀ base : Heap, K.In base → base.Ns mainGlobals mg → (∀ p ∈ cs, LamX.TabB base mg p.1 p.2) → FnG P w K mg base CX0 k fa fd [x] sp) (hbind : ∀ (s : Shared) (u : Value), BindsTo s fd ⟨[u], []⟩ [(x, u)])
    (hsp : ∀ H : Hp, (∀ p ∈ cs, H p.2 = some (.tbl #[])) → SqL K H a (ns.map V.int) → sp [.ref a] H (fun v _ => v = .bl true) fun _ _ _ => False) :
    codeAny (model P w) callerA (.call (.ref fa) ⟨[.ref a], []⟩) (fun r s' => r = .ok (.ret (.bool true)) ∧ OldK s₁.heap s'.heap ∧ s'.os = s₁.os ∧ AllBare s'.gens) s₁ := by
  classical
  have hTT : ∀ b, b ∈ cs.map (·.2) → s₁.heap.get? b = some { cls := .none, data := .fields #[] } := by
    intro b hb
    obtain ⟨p, hp, rfl⟩ := List.mem_map.mp hb
    exact hT p hp
  have haT : a ∉ cs.map (·.2) := by
    intro z
    have := hTT a z
    rw [ha] at this
    exact absurd (congrArg Obj.data (Option.some.inj this)) (by intro q; cases q)
  obtain ⟨H, hH⟩ : ∃ H : Hp, H = fun b => if b ∈ cs.map (·.2) then some (.tbl #[]) else if b = a ∧ K.lookup a = none then some (.frz { cls := .type "list", data := .seq vs.toArray } (.lst (ns.map V.int))) else none := ⟨_, rfl⟩
  have h1 : ∀ b, b ∈ cs.map (·.2) → H b = some (.tbl #[]) := fun b hb => by rw [hH]; exact if_pos hb
  have h2 : K.lookup a = none → H a = some (.frz { cls := .type "list", data := .seq vs.toArray } (.lst (ns.map V.int))) := fun e => by
    rw [hH]; exact (if_neg haT).trans (if_pos ⟨rfl, e⟩)
  have h3 : ∀ b, b ∉ cs.map (·.2) → ¬ (b = a ∧ K.lookup a = none) → H b = none := fun b h q => by rw [hH]; exact (if_neg h).trans (if_neg q)
  have free : ∀ {b : Addr} {o : Obj}, s₁.heap.get? b = some o → (∀ vs n, o.data ≠ .seq vs n) → o.data ≠ .fields #[] → H b = none := fun {b o} e q1 q2 => by
    refine h3 b (fun hb => ?_) fun ⟨hb, _⟩ => ?_
    · rw [hTT b hb] at e; cases e; exact q2 rfl
    · rw [hb, ha] at e; cases e; exact q1 _ _ rfl
  have dict : ∀ {b : Addr} {m : Str → Option Value}, s₁.heap.Ns b m → (hidT s₁.heap H).Ns b m := fun {b m} ⟨o, es, ep, e, d, r⟩ =>
    ⟨o, es, ep, hidT_get e (free e (fun _ _ q => by rw [d] at q; cases q) fun q => by rw [d] at q; cases q), d, r⟩
  have hKb : K.In (hidT s₁.heap H) := fun b o e => hidT_get (KX b o e) (h3 b (fun hb => by
    obtain ⟨p, hp, rfl⟩ := List.mem_map.mp hb
    rw [nT p hp] at e; cases e) fun ⟨q1, q2⟩ => by rw [q1, q2] at e; cases e)
  have hM : L2.Mod K mg (hidT s₁.heap H) := ⟨hKb, dict hns, ⟨mb, dict hb, hbb⟩, let ⟨mc, q1, q2⟩ := hlim; ⟨mc, dict q1, q2⟩⟩
  have TB : ∀ p ∈ cs, LamX.TabB (hidT s₁.heap H) mg p.1 p.2 := fun p hp => by
    have hP := hT p hp
    refine ⟨?_, ?_, fun z => ?_⟩
    · obtain ⟨o, us, file, tf, flags, tg, inF, text, tt, e1, r1, r2, r3, rest⟩ := C p hp
      exact ⟨o, us, file, tf, flags, tg, inF, text, tt, hidT_get e1 (free e1 (fun _ _ q => by rw [r2] at q; cases q) fun q => by rw [r2] at q; cases q; simp at r3), r1, r2, r3, rest⟩
    · obtain ⟨bm, ob, b1, b2, b3, b4, b5, b6⟩ := hbm
      refine ⟨bm, ob, b1, b2, fun q => ?_, fun q => ?_, hidT_get b3 (free b3 (fun _ _ q => by rw [b6] at q; cases q) fun q => by rw [b6] at q; cases q), b4, b5, b6⟩
      · obtain ⟨o, es, ep, e, hd, _⟩ := hns
        rw [q, e] at b3; cases b3; rw [hd] at b6; cases b6
      · rw [q, hP] at b3; cases b3; cases b6
    · obtain ⟨o, es, ep, e, hd, _⟩ := hns
      rw [z, hP] at e; cases e; cases hd
  have rv := vals_ints hi
  have lv := hi.length
  have hok : HOk P w H s₁.heap := fun b u e => by
    by_cases hb : b ∈ cs.map (·.2)
    · rw [h1 b hb] at e; cases e; exact hTT b hb
    · by_cases hq : b = a ∧ K.lookup a = none
      · obtain ⟨rfl, hq⟩ := hq
        rw [h2 hq] at e; cases e
        exact ⟨ha, by rw [List.length_map]; exact hl, vs, _, rv, ha⟩
      · rw [h3 b hb hq] at e; cases e
  have hS : SqL K H a (ns.map V.int) := by
    cases hk : K.lookup a with
    | none => exact .inl (.inr ⟨_, h2 hk⟩)
    | some o =>
      have e := KX a o hk
      rw [ha] at e; cases e
      exact .inr ⟨_, vs.toArray, _, hk, rfl, rfl, rfl, by rw [List.size_toArray, lv]; exact hl, by simpa using rv⟩
  have e0 : Env0 P w K mg (hidT s₁.heap H) callerA [] s₁ H := ⟨rfl, hM, fun b o e => of_hidT e, Nat.le_of_eq (hidT_size _ _), trivial, fun b hb => absurd (show b ∈ ([] : List Addr) from hb) (by simp), hok, .of_eq hg⟩
  refine codeAny_mono ((F _ hKb (dict hns) TB).run callerA [] s₁ H ⟨[.ref a], []⟩ [.ref a] [.ref a] _ _ rfl hr e0 (hbind s₁ (.ref a)) (.cons rfl .nil) (hsp H (fun p hp => h1 _ (List.mem_map.mpr ⟨p, hp, rfl⟩)) hS)) fun r s' h => ?_
  cases r with
  | error e => exact False.elim h
  | ok fl =>
    cases fl with
    | next => exact False.elim h
    | brk => exact False.elim h
    | cont => exact False.elim h
    | ret u =>
      obtain ⟨v, H', os, bare, un, hok', r', q⟩ := h
      obtain rfl : v = .bl true := q
      obtain rfl : u = Value.bool true := r'
      have kept : ∀ b o, b ∉ cs.map (·.2) → s₁.heap.get? b = some o → s'.heap.get? b = some o := fun b o nb e => by
        by_cases hq : b = a ∧ K.lookup a = none
        · obtain ⟨rfl, hq⟩ := hq
          obtain ⟨e1, _⟩ := hok b _ (h2 hq)
          obtain ⟨e2, _⟩ := hok' b _ (un.frzs b _ _ (h2 hq))
          rw [e] at e1; cases e1
          exact e2
        · exact un.keep b o e (h3 b nb hq) (fun z => absurd (show b ∈ ([] : List Addr) from z) (by simp)) (by simp)
      have grown : ∀ p ∈ cs, ∃ more : Array Value, s'.heap.get? p.2 = some { cls := .none, data := .fields more } := fun p hp => by
        obtain ⟨more, z⟩ := un.tbls p.2 #[] (h1 _ (List.mem_map.mpr ⟨p, hp, rfl⟩))
        exact ⟨_, hok' p.2 _ z⟩
      refine ⟨rfl, ⟨fun b o e => ?_, fun b o e => ?_⟩, os, bare⟩
      · by_cases hb : b ∈ cs.map (·.2)
        · obtain ⟨p, hp, rfl⟩ := List.mem_map.mp hb
          obtain ⟨more, hm⟩ := grown p hp
          rw [hT p hp] at e; cases e
          exact .inr (.inl ⟨((C p hp).tab (hT p hp)).isCodeTable, rfl, #[], more, rfl, by rw [Array.empty_append]; exact hm⟩)
        · exact .inl (kept b o hb e)
      · by_cases hb : b ∈ cs.map (·.2)
        · obtain ⟨p, hp, rfl⟩ := List.mem_map.mp hb
          obtain ⟨more, hm⟩ := grown p hp
          exact ⟨_, hm⟩
        · exact ⟨o, kept b o hb e⟩

/-- what is to be known of the law at the head's heap -/
def LawG (l : PySem.W.OpenLaw) (w : World) (K : PySem.W.Frag) (k n : Nat) (x : Str) (mg : Str → Option Value) (fa : Addr) (h : Heap) : Prop :=
  ∃ (fd : FuncData) (cs : List (Addr × Addr)) (sp : Sp), (∀ p ∈ cs, h.get? p.2 = some { cls := .none, data := .fields #[] }) ∧ (∀ p ∈ cs, K.lookup p.2 = none) ∧ (∀ p ∈ cs, PySem.W.CodeHd h p.1 p.2) ∧ (∀ (s : Shared) (u : Value), BindsTo s fd ⟨[u], []⟩ [(x, u)]) ∧
    (∀ (H : Hp) (a : Addr) (ns : List Int), ns.length ≤ n → (∀ z ∈ ns, Builtin.Int.intBits z ≤ 1048576) → (∀ p ∈ cs, H p.2 = some (.tbl #[])) → SqL K H a (ns.map V.int) → sp [.ref a] H (fun v _ => v = .bl true) fun _ _ _ => False) ∧
    ∀ base : Heap, K.In base → base.Ns mainGlobals mg → (∀ p ∈ cs, LamX.TabB base mg p.1 p.2) → FnG l.prog w K mg base CX0 k fa fd [x] sp

/-- the tables of the defs of the top: empty -/
def TabOf (mg : Str → Option Value) (h : Heap) (names : List Str) : Prop := ∀ x ∈ names, ∃ a o fd c P, mg x = some (.ref a) ∧ h.get? a = some o ∧ o.data = .func fd ∧ fd.code = .ref c ∧ PySem.W.CodeHd h c P ∧ h.get? P = some { cls := .none, data := .fields #[] }
theorem tab_at {K : PySem.W.Frag} {mg : Str → Option Value} {h : Heap} {names : List Str} {x : Str} {f c P : Addr} {o : Obj} {fd : FuncData} {e : Value} {dd : Option Addr} {vs : Array Value} {sl : Array (Option Value)} (T : TabOf mg h names) (hx : x ∈ names) (KX : K.In h) (g : mg x = some (.ref f))
    (lk : K.lookup f = some o) (ho : o.data = .func fd) (hc : fd.code = .ref c) (lc : K.lookup c = some ⟨e, dd, .fields vs, sl⟩) (hP : vs[11]? = some (.ref P)) : PySem.W.CodeHd h c P ∧ h.get? P = some { cls := .none, data := .fields #[] } := by
  obtain ⟨a, o', fd', c', P', h1, h2, h3, h4, h5, h6⟩ := T x hx
  rw [g] at h1; cases h1
  rw [KX _ _ lk] at h2; cases h2
  rw [ho] at h3; cases h3
  rw [hc] at h4; cases h4
  obtain ⟨oc, vc, _, _, _, _, _, _, _, e1, e2, e3, e4, _⟩ := id h5
  rw [KX _ _ lc] at e1; cases e1
  cases e3
  rw [hP] at e4; cases e4
  exact ⟨h5, h6⟩
theorem walk_G {l : PySem.W.OpenLaw} {n k : Nat} {q : Program} {loose : List Str} {XP : (Str → Option Value) → Heap → Prop} {YP : World → Heap → Prop} {d : DefRec} {K : Params → PySem.W.Frag} {x : Str} (names : List Str)
    (hn : l.most = some n) (hn2 : n ≤ sizeLine) (hdf : d.params.defaults = []) (hr : Room k callerA) (hrec : (names.all fun x => (recsOf q).any fun e => e.name == x) = true) (hY : ∀ (w : World) (h : Heap), YP w h → (K w.params).In h)
    (F : ∀ (w : World) (mg : Str → Option Value) (fa : Addr) (h : Heap), (K w.params).In h → h.Ns mainGlobals mg → mg d.name = some (.ref fa) → TabOf mg h names → LawG l w (K w.params) k n x mg fa h) :
    PySem.W.WalkO q loose XP YP l.row.toRowW d [] (fun f vs => PySem.call f vs) := by
  refine Att.attach_callB hn hdf fun w s₀ s₁ mg mb fa o pm cd doc a vs ns G Y ho hd hcd hmg hobj hints hlen hbits hg => ?_
  have KX := hY w _ Y
  have T : TabOf mg s₁.heap names := fun y hy => by
    obtain ⟨dL, hm, hn1⟩ := List.any_eq_true.mp (List.all_eq_true.mp hrec y hy)
    have hn2 : dL.name = y := beq_iff_eq.mp hn1
    obtain ⟨a', o', fd', c', P', h1, h2, h3, h4, h5, h6⟩ := G.T.tab dL hm
    rw [hn2] at h1
    exact ⟨a', o', fd', c', P', h1, h2, h3, h4, PySem.W.CodeHd.of h5 h6, h6.2⟩
  obtain ⟨fd, cs, sp, hT, nT, C, hb, hsp, hF⟩ := F w mg fa _ KX G.T.g hmg T
  exact end_call KX G.T.g G.T.b G.T.builtins G.T.nolimit hg hT nT C G.T.bmain hobj hints (Nat.le_trans hlen hn2) hr hF hb (fun H hH hS => hsp H a ns hlen hbits hH hS)
theorem funC_mk {K : PySem.W.Frag} {x qual : Str} {st : Stmt} {f c : Addr} {oc : Value} {od an : Option Addr} {osl : Array (Option Value)} {kV doc pm ct : Value} (l : K.lookup f = some ⟨oc, od, .func (PySem.W.fnOf x qual (defArgs st) (defBody st) (defScope st) .none kV doc pm an (.ref c) ct), osl⟩)
    (hc : PySem.W.codeIn K (.ref c) qual = true) (k : PySem.W.keepIn K (.ref f) = true) : FunC K x qual st f (PySem.W.fnOf x qual (defArgs st) (defBody st) (defScope st) .none kV doc pm an (.ref c) ct) c := ⟨⟨oc, od, kV, doc, pm, an, ct, osl, rfl, l, hc⟩, k⟩
end B1

namespace W
open PySem PySem.Spec PyProof.Rows L2 B1
/-! ### kinds of values -/
def kinds : List String := ["NoneType", "bool", "int", "str", "list", "tuple", "dict"]
/-- a value of one of the kinds that are handed in -/
def TyOk (K : PySem.W.Frag) (H : Hp) (v : V) : Prop := ∃ t, TyX K H v (.type t) ∧ t ∈ kinds
def whV : V → Bool
  | .int _ => true
  | _ => false
def btwV (lo hi : Int) : V → Bool
  | .int i => decide (lo ≤ i) && decide (i ≤ hi)
  | _ => false
theorem whV_ty {K : PySem.W.Frag} {H : Hp} {v : V} {t : String} (h : TyX K H v (.type t)) (hk : t ∈ kinds) : whV v = (t == "int") := by
  cases h with
  | base b => cases b <;> rfl
  | byt b => simp [kinds] at hk
  | set e => simp [kinds] at hk
  | kList e c => rfl
  | kTuple e c => rfl
  | kDict e c => rfl
  | fTuple e => rfl
  | fDict e => rfl
theorem kit_int {K : PySem.W.Frag} {t : String} (hk : t ∈ kinds) : PySem.W.kitOne K (.type t) (.type "int") = some (t == "int" || t == "bool") := by
  simp only [kinds, List.mem_cons, List.not_mem_nil, or_false] at hk
  rcases hk with rfl | rfl | rfl | rfl | rfl | rfl | rfl <;> exact kit_ty (by decide +kernel)
theorem kit_bool {K : PySem.W.Frag} {t : String} (hk : t ∈ kinds) : PySem.W.kitOne K (.type t) (.type "bool") = some (t == "bool") := by
  simp only [kinds, List.mem_cons, List.not_mem_nil, or_false] at hk
  rcases hk with rfl | rfl | rfl | rfl | rfl | rfl | rfl <;> exact kit_ty (by decide +kernel)
theorem kit_tuple {K : PySem.W.Frag} {t : String} (hk : t ∈ kinds) : PySem.W.kitOne K (.type t) (.type "tuple") = some (t == "tuple") := by
  simp only [kinds, List.mem_cons, List.not_mem_nil, or_false] at hk
  rcases hk with rfl | rfl | rfl | rfl | rfl | rfl | rfl <;> exact kit_ty (by decide +kernel)


section
variable {P : Program} {w : World} {K : PySem.W.Frag} {mg : Str → Option Value} {base : Heap}
/-! ### tables -/
/-- all but tables stay -/
abbrev Ext (H H' : Hp) : Prop := LamX.ExtN H H'
def Tbs (Ts : List Addr) (H : Hp) : Prop := ∀ P ∈ Ts, GxR.TabG H P
theorem tab_ext {P : Addr} {H H' : Hp} (t : GxR.TabG H P) (h : GxR.Tabbed P H H') : Ext H H' := fun b o e n => by
  obtain ⟨ps, hP, _⟩ := t
  have nb : b ≠ P := fun z => by rw [z, hP] at e; exact n ps (Option.some.inj e).symm
  rw [h.2 b nb]; exact e
theorem tbs_tab {Ts : List Addr} {P : Addr} {H H' : Hp} (t : Tbs Ts H) (h : GxR.Tabbed P H H') : Tbs Ts H' := fun P' hP' => by
  by_cases z : P' = P
  · rw [z]; exact h.1
  · obtain ⟨ps, e, r⟩ := t P' hP'
    exact ⟨ps, by rw [h.2 P' z]; exact e, r⟩
theorem Ext.tup {H H' : Hp} (e : Ext H H') {a : Addr} {xs : List V} (h : SqT K H a xs) : SqT K H' a xs := by
  rcases h with (h | ⟨o, h⟩) | h
  · exact .inl (.inl (e _ _ h fun ps z => by cases z))
  · exact .inl (.inr ⟨o, e _ _ h fun ps z => by cases z⟩)
  · exact .inr h
theorem Ext.lst {H H' : Hp} (e : Ext H H') {a : Addr} {xs : List V} (h : SqL K H a xs) : SqL K H' a xs := by
  rcases h with (h | ⟨o, h⟩) | h
  · exact .inl (.inl (e _ _ h fun ps z => by cases z))
  · exact .inl (.inr ⟨o, e _ _ h fun ps z => by cases z⟩)
  · exact .inr h
theorem Ext.ty {H H' : Hp} (e : Ext H H') {v : V} (h : TyOk K H v) : TyOk K H' v := by
  obtain ⟨t, ht, hk⟩ := h
  refine ⟨t, ?_, hk⟩
  cases ht with
  | base b =>
    cases b with
    | non => exact .base .non
    | bl x => exact .base (.bl x)
    | int i => exact .base (.int i)
    | str x => exact .base (.str x)
    | flt x => exact .base (.flt x)
    | lst q => exact .base (.lst (e _ _ q fun ps z => by cases z))
    | frz q => exact .base (.frz (e _ _ q fun ps z => by cases z))
    | tup q => exact .base (.tup (e _ _ q fun ps z => by cases z))
    | dK q => exact .base (.dK (e _ _ q fun ps z => by cases z))
    | dT q => exact .base (.dT (e _ _ q fun ps z => by cases z))
  | byt b => exact .byt b
  | set q => exact .set (e _ _ q fun ps z => by cases z)
  | kList q c => exact .kList q c
  | kTuple q c => exact .kTuple q c
  | kDict q c => exact .kDict q c
  | fTuple q => exact .fTuple (e _ _ q fun ps z => by cases z)
  | fDict q => exact .fDict (e _ _ q fun ps z => by cases z)
theorem sqt_ty {H : Hp} {a : Addr} {xs : List V} (h : SqT K H a xs) : TyX K H (.ref a) (.type "tuple") := by
  rcases h with (h | ⟨o, h⟩) | ⟨o, its, n, h, c, _⟩
  · exact .base (.tup h)
  · exact .fTuple h
  · exact .kTuple h c
theorem sqt_inj {H : Hp} {a : Addr} {xs ys : List V} (h : SqT K H a xs) (h' : SqT K H a ys) (hk : K.lookup a = none ∨ H a = none) : xs = ys := by
  rcases h with (h | ⟨o, h⟩) | ⟨o, its, n, h, c, d, z, r⟩ <;> rcases h' with (h' | ⟨o', h'⟩) | ⟨o', its', n', h'', c', d', z', r'⟩
  · rw [h] at h'; cases h'; rfl
  · rw [h] at h'; cases h'
  · rcases hk with q | q
    · rw [q] at h''; cases h''
    · rw [h] at q; cases q
  · rw [h] at h'; cases h'
  · rw [h] at h'; cases h'; rfl
  · rcases hk with q | q
    · rw [q] at h''; cases h''
    · rw [h] at q; cases q
  · rcases hk with q | q
    · rw [q] at h; cases h
    · rw [h'] at q; cases q
  · rcases hk with q | q
    · rw [q] at h; cases h
    · rw [h'] at q; cases q
  · rw [h] at h''; cases h''; rw [d] at d'; cases d'; exact Vals.inj r r'

end

theorem Ext.refl (H : Hp) : Ext H H := fun _ _ h _ => h
theorem Ext.trans {H H1 H2 : Hp} (a : Ext H H1) (b : Ext H1 H2) : Ext H H2 := fun c o h n => b c o (a c o h n) n
theorem ext_upd {H : Hp} {p : Addr} {o : HO} (h : H p = none) : Ext H (upd H p o) := fun b u e _ => by
  rw [upd_ne (ne_of_none e h)]; exact e
theorem tbs_upd {Ts : List Addr} {H : Hp} {p : Addr} {o : HO} (t : Tbs Ts H) (h : H p = none) : Tbs Ts (upd H p o) := fun P hP => by
  obtain ⟨ps, e, r⟩ := t P hP
  exact ⟨ps, by rw [upd_ne (ne_of_none e h)]; exact e, r⟩
/-- a list of ours is written -/
theorem tbs_put {Ts : List Addr} {H : Hp} {p : Addr} {o : HO} {xs : List V} (t : Tbs Ts H) (h : H p = some (.lst xs)) : Tbs Ts (upd H p o) := fun P hP => by
  obtain ⟨ps, e, r⟩ := t P hP
  exact ⟨ps, by rw [upd_ne (fun z => by rw [z, h] at e; cases e)]; exact e, r⟩
def lastNz (xs : List V) : Bool := match xs.getLast? with
  | none => true
  | some x => !decide (x = .int 0)
def polyV (b : Int) (xs : List V) : Bool := xs.all (btwV 0 (b - 1)) && lastNz xs
theorem btw_int {lo hi : Int} {v : V} (h : btwV lo hi v = true) : ∃ i, v = .int i ∧ lo ≤ i ∧ i ≤ hi := by
  cases v with
  | int i => 
    simp only [btwV, Bool.and_eq_true, decide_eq_true_eq] at h
    exact ⟨i, rfl, h.1, h.2⟩
  | _ => simp [btwV] at h

/-- a bound -/
def Bd (b : Int) : Prop := 2 ≤ b ∧ b ≤ 16
/-- numbers of the bound, the last one not 0 -/
def PolyOk (b : Int) (ns : List Int) : Prop := (∀ n ∈ ns, 0 ≤ n ∧ n < b) ∧ ns.getLast? ≠ some 0
theorem ty_int {K : PySem.W.Frag} {H : Hp} (i : Int) : TyOk K H (.int i) := ⟨"int", .base (.int i), by decide⟩
theorem ty_ints {K : PySem.W.Frag} {H : Hp} (ns : List Int) : ∀ x ∈ ns.map V.int, TyOk K H x := fun x hx => by
  obtain ⟨i, _, rfl⟩ := List.mem_map.mp hx
  exact ty_int i
theorem poly_true {b : Int} {ns : List Int} (h : PolyOk b ns) : polyV b (ns.map V.int) = true := by
  unfold polyV lastNz
  have h1 : (ns.map V.int).all (btwV 0 (b - 1)) = true := by
    rw [List.all_eq_true]
    intro x hx
    obtain ⟨i, hi, rfl⟩ := List.mem_map.mp hx
    obtain ⟨h1, h2⟩ := h.1 i hi
    simp only [btwV, Bool.and_eq_true, decide_eq_true_eq]
    omega
  rw [h1, List.getLast?_map]
  cases e : ns.getLast? with
  | none => rfl
  | some z =>
    have : z ≠ 0 := fun q => h.2 (by rw [e, q])
    simp [this]

def horner (b x : Int) (ns : List Int) : Int := ns.foldr (fun n acc => (acc * x + n) % b) 0
theorem horner_cons (b x n : Int) (ns : List Int) : horner b x (n :: ns) = (horner b x ns * x + n) % b := rfl
theorem horner_lt {b x : Int} {ns : List Int} (hb : 0 < b) : 0 ≤ horner b x ns ∧ horner b x ns < b := by
  cases ns with
  | nil => exact ⟨Int.le_refl 0, hb⟩
  | cons n ns => rw [horner_cons]; exact ⟨Int.emod_nonneg _ (by omega), Int.emod_lt_of_pos _ hb⟩

/-- the law's pen at p -/
def Pen (H : Hp) (p : Addr) : Prop := ∃ l fl : Int, H p = some (.lst [.int l, .int fl]) ∧ 0 ≤ l
/-- all but the pen stays -/
def ExB (p : Addr) (H H' : Hp) : Prop := ∀ b o, b ≠ p → H b = some o → H' b = some o
theorem ExB.refl (p : Addr) (H : Hp) : ExB p H H := fun _ _ _ h => h
theorem ExB.trans {p : Addr} {H H1 H2 : Hp} (a : ExB p H H1) (b : ExB p H1 H2) : ExB p H H2 := fun c o n h => b c o n (a c o n h)
theorem exb_upd {p q : Addr} {H : Hp} {o : HO} (h : H q = none) : ExB p H (upd H q o) := fun b u _ e => by
  rw [upd_ne (ne_of_none e h)]; exact e
theorem pen_upd {p q : Addr} {H : Hp} {o : HO} (h : Pen H p) (hq : H q = none) : Pen (upd H q o) p := by
  obtain ⟨l, fl, e, hl⟩ := h
  exact ⟨l, fl, by rw [upd_ne (ne_of_none e hq)]; exact e, hl⟩
theorem Pen.ne {p q : Addr} {H : Hp} (h : Pen H p) (hq : H q = none) : p ≠ q := by
  obtain ⟨l, fl, e, _⟩ := h
  exact ne_of_none e hq
theorem ExB.tbs {p : Addr} {H H' : Hp} {Ts : List Addr} (e : ExB p H H') (h : Pen H p) (t : Tbs Ts H) : Tbs Ts H' := fun P hP => by
  obtain ⟨l, fl, ep, _⟩ := h
  obtain ⟨ps, e1, r⟩ := t P hP
  exact ⟨ps, e P _ (fun z => by rw [z, ep] at e1; cases e1) e1, r⟩
theorem ExB.tup {K : PySem.W.Frag} {p a : Addr} {H H' : Hp} {xs : List V} (e : ExB p H H') (hp : Pen H p) (h : SqT K H a xs) : SqT K H' a xs := by
  obtain ⟨l, fl, ep, _⟩ := hp
  rcases h with (h | ⟨o, h⟩) | h
  · exact .inl (.inl (e _ _ (fun z => by rw [z, ep] at h; cases h) h))
  · exact .inl (.inr ⟨o, e _ _ (fun z => by rw [z, ep] at h; cases h) h⟩)
  · exact .inr h

section
variable {K : PySem.W.Frag}
theorem lay_ints (ns : List Int) : PyData.canLayAll0 (ns.map PyData.int) = true := by
  induction ns with
  | nil => rfl
  | cons n ns ih => simp only [List.map_cons, PyData.canLayAll0, PyData.canLay0, ih, Bool.and_self]
theorem depth_ints (ns : List Int) : PyData.depthAll (ns.map PyData.int) = 0 := by
  induction ns with
  | nil => rfl
  | cons n ns ih => simp only [List.map_cons, PyData.depthAll, PyData.depth, ih]; rfl
theorem shaped_list (ns : List Int) : SeqAt.shaped (.list (ns.map PyData.int)) = true := by
  unfold SeqAt.shaped
  simp [PyData.canLay0, PyData.depth, lay_ints, depth_ints]
theorem shaped_tup (ns : List Int) : SeqAt.shaped (.tuple (ns.map PyData.int)) = true := by
  unfold SeqAt.shaped
  simp [PyData.canLay0, PyData.depth, lay_ints, depth_ints]
theorem dp_ints {H : Hp} (ns : List Int) : DpAll K H (ns.map V.int) (ns.map PyData.int) := by
  induction ns with
  | nil => exact .nil
  | cons n ns ih => exact .cons (.int n) ih
theorem eqv_nil (ns : List Int) : (!PyData.eqv (.list (ns.map PyData.int)) (.list [])) = !decide (ns = []) := by
  cases ns with
  | nil => rfl
  | cons n ns => simp [PyData.eqv, PyData.eqvAll]
end

/-! ### what may be shown -/
theorem short_int {n : Int} (h0 : 0 ≤ n) (h1 : n < 10 ^ 15) : (PyData.shown (.int n)).length ≤ 16 := by
  simp only [PyData.shown]
  exact Nat.le_trans (PyProof.Rows.toString_length_le (k := 15) h0 (by decide) h1) (by decide)
theorem log_small {n : Int} (h0 : 0 ≤ n) (h1 : n < 10 ^ 15) : n.natAbs.log2 < 50 := by
  by_cases z : n.natAbs = 0
  · rw [z]; decide
  · rw [Nat.log2_lt z]
    have : n.natAbs < 10 ^ 15 := by omega
    exact Nat.lt_of_lt_of_le this (by decide)
theorem short_ints {ns : List Int} (h : ∀ n ∈ ns, 0 ≤ n ∧ n < 10 ^ 15) : PyData.leavesShortAll 16 (ns.map PyData.int) = true := by
  induction ns with
  | nil => rfl
  | cons n ns ih =>
    simp only [List.map_cons, PyData.leavesShortAll, PyData.leavesShort, Bool.and_eq_true, decide_eq_true_eq]
    exact ⟨short_int (h n (by simp)).1 (h n (by simp)).2, ih fun z hz => h z (by simp [hz])⟩
theorem weight_ints {ns : List Int} (h : ∀ n ∈ ns, 0 ≤ n ∧ n < 10 ^ 15) : PyData.weightAll (ns.map PyData.int) ≤ 52 * ns.length := by
  induction ns with
  | nil => exact Nat.le_refl _
  | cons n ns ih =>
    simp only [List.map_cons, PyData.weightAll, PyData.weight, List.length_cons]
    have h1 := ih fun z hz => h z (by simp [hz])
    have h2 := log_small (h n (by simp)).1 (h n (by simp)).2
    split <;> omega
theorem show_ints {ns : List Int} (h : ∀ n ∈ ns, 0 ≤ n ∧ n < 10 ^ 15) : PyData.showableAll (ns.map PyData.int) = true := by
  induction ns with
  | nil => rfl
  | cons n ns ih =>
    simp only [List.map_cons, PyData.showableAll, PyData.showable, Bool.and_eq_true, decide_eq_true_eq]
    exact ⟨by have := log_small (h n (by simp)).1 (h n (by simp)).2; omega, ih fun z hz => h z (by simp [hz])⟩
theorem dict_ints (ns : List Int) : PyData.hasDictAll (ns.map PyData.int) = false := by
  induction ns with
  | nil => rfl
  | cons n ns ih => simp only [List.map_cons, PyData.hasDictAll, PyData.hasDict, ih, Bool.or_self]
theorem sm_tup {ns : List Int} (h : ∀ n ∈ ns, 0 ≤ n ∧ n < 10 ^ 15) (hl : ns.length ≤ 1000) : Sm (.tuple (ns.map PyData.int)) := by
  refine ⟨by simp only [PyData.showable]; exact show_ints h, by simp only [PyData.hasDict]; exact dict_ints ns, by simp only [PyData.depth, depth_ints]; decide, ?_⟩
  have h1 := PyData.shown_le 16 (by decide) (.tuple (ns.map PyData.int)) (by simp only [PyData.leavesShort]; exact short_ints h)
  have h2 := weight_ints h
  simp only [PyData.weight] at h1
  have e : sizeLine = 16777216 := by decide
  omega
theorem sm_lst {ns : List Int} (h : ∀ n ∈ ns, 0 ≤ n ∧ n < 10 ^ 15) (hl : ns.length ≤ 1000) : Sm (.list (ns.map PyData.int)) := by
  refine ⟨by simp only [PyData.showable]; exact show_ints h, by simp only [PyData.hasDict]; exact dict_ints ns, by simp only [PyData.depth, depth_ints]; decide, ?_⟩
  have h1 := PyData.shown_le 16 (by decide) (.list (ns.map PyData.int)) (by simp only [PyData.leavesShort]; exact short_ints h)
  have h2 := weight_ints h
  simp only [PyData.weight] at h1
  have e : sizeLine = 16777216 := by decide
  omega

theorem cut_mem {xs : List V} {lo hi : Option Int} {x : V} (h : x ∈ cutV xs lo hi) : x ∈ xs := by
  unfold cutV at h
  exact List.mem_of_mem_drop (List.mem_of_mem_take h)
theorem cut_len {xs : List V} {lo hi : Option Int} : (cutV xs lo hi).length ≤ xs.length := by
  unfold cutV
  exact Nat.le_trans (List.length_take_le' _ _) (by rw [List.length_drop]; omega)


/-! ### defs that are known -/
structure DefIn (K : PySem.W.Frag) (mg : Str → Option Value) (x : Str) (st : Stmt) (ps : List Str) (f : Addr) (fd : FuncData) (c : Addr) : Prop where
  fc : FunC K x x st f fd c
  b : Binds K fd ps []
  g : mg x = some (.ref f)
/-- the def x keeps sp -/
def Df (P : Program) (w : World) (K : PySem.W.Frag) (mg : Str → Option Value) (base : Heap) (k : Nat) (x : Str) (ps : List Str) (sp : Sp) : Prop :=
  ∃ f fd, FnOk P w K mg base CX0 k f fd ps sp ∧ PySem.W.keepIn K (.ref f) = true ∧ Binds K fd ps [] ∧ mg x = some (.ref f)
def DfG (P : Program) (w : World) (K : PySem.W.Frag) (mg : Str → Option Value) (base : Heap) (k : Nat) (x : Str) (ps : List Str) (sp : Sp) : Prop :=
  ∃ f fd, FnG P w K mg base CX0 k f fd ps sp ∧ PySem.W.keepIn K (.ref f) = true ∧ Binds K fd ps [] ∧ mg x = some (.ref f)
theorem DefIn.df {P : Program} {w : World} {K : PySem.W.Frag} {mg : Str → Option Value} {base : Heap} {k : Nat} {x : Str} {st : Stmt} {ps : List Str} {f : Addr} {fd : FuncData} {c : Addr} {sp : Sp} (D : DefIn K mg x st ps f fd c) (h : FnOk P w K mg base CX0 k f fd ps sp) : Df P w K mg base k x ps sp := ⟨f, fd, h, D.fc.kp, D.b, D.g⟩
theorem DefIn.dfG {P : Program} {w : World} {K : PySem.W.Frag} {mg : Str → Option Value} {base : Heap} {k : Nat} {x : Str} {st : Stmt} {ps : List Str} {f : Addr} {fd : FuncData} {c : Addr} {sp : Sp} (D : DefIn K mg x st ps f fd c) (h : FnG P w K mg base CX0 k f fd ps sp) : DfG P w K mg base k x ps sp := ⟨f, fd, h, D.fc.kp, D.b, D.g⟩
/-- the built-ins are what they are -/
structure Blt (mg : Str → Option Value) : Prop where
  isi : mg "isinstance" = none
  int : mg "int" = none
  bool : mg "bool" = none
  tuple : mg "tuple" = none
  list : mg "list" = none
  all : mg "all" = none
  len : mg "len" = none
  range : mg "range" = none
  reversed : mg "reversed" = none
  enumerate : mg "enumerate" = none
  zip : mg "zip" = none
  repr : mg "repr" = none
  max : mg "max" = none
  min : mg "min" = none
  sum : mg "sum" = none
  divmod : mg "divmod" = none

end W

namespace X1
open PySem PySem.Spec PyProof.Rows L2 B1
open L2H (RoomH PinOk cxH inv_startH roomH_of)
/-! ### a list of truths counted -/
theorem eqAt_truths {A : Around} {s : Shared} {bs : List Bool} {its : List Value} (h : Vals (bs.map V.bl) its) (k : Bool) : ∀ y ∈ its, SeqAt.EqAt A s y (.bool k) (match y with | .bool b => b == k | _ => false) := fun y hy => by
  obtain ⟨i, hi, rfl⟩ := List.getElem_of_mem hy
  have hl := h.length
  rw [List.length_map] at hl
  have hb : (bs.map V.bl)[i]? = some (.bl bs[i]) := by rw [List.getElem?_map, List.getElem?_eq_getElem (by omega)]; rfl
  obtain ⟨u, hu, ru⟩ := h.get hb
  rw [List.getElem?_eq_getElem hi] at hu
  have e := Option.some.inj hu
  rw [e]
  obtain rfl : u = Value.bool bs[i] := ru
  exact SeqAt.EqAt.bool_bool _ _
theorem count_truths : ∀ {bs : List Bool} {its : List Value}, Vals (bs.map V.bl) its → ∀ k : Bool, its.countP (fun y => match y with | .bool b => b == k | _ => false) = bs.count k
  | [], _, .nil, _ => rfl
  | b :: bs, _, .cons r t, k => by
    have ih := count_truths t k
    obtain rfl := (show _ = Value.bool b from r)
    rw [List.countP_cons, ih, List.count_cons]
section
variable {X : Cx}
theorem mt_countB : MtR X "list.count" (fun x xs H Q => ∃ (p : Addr) (bs : List Bool) (k : Bool), x = .ref p ∧ xs = [.bl k] ∧ SqL X.K H p (bs.map V.bl) ∧ Q (.int (bs.count k : Nat)) H) := by
  intro pins s σ H x xs v us Q I rx rxs h
  obtain ⟨p, bs, k, rfl, rfl, hs, q⟩ := h
  cases rx
  obtain ⟨u, rfl, ru⟩ := rxs.one
  obtain rfl : u = Value.bool k := ru
  obtain ⟨its, rv, ⟨⟨cls, dd, data, sl⟩, n, ho, hc, hdn, hd⟩, hlen⟩ := I.list hs
  simp only at hc hd
  subst hc hd
  refine call_meets PySem.F.slot_list_count ⟨_, ho, rfl⟩ PySem.F.entry_list_count (PySem.F.args_list_count_2 _ _)
    (SeqAt.list_countAt p its.toArray n dd sl (.bool k) (fun y => match y with | .bool b => b == k | _ => false)) ⟨ho, fun y hy => eqAt_truths rv k y (by simpa using hy), ?_⟩
  refine ⟨.int (bs.count k : Nat), H, I.tok _, ⟨s.toks, ?_⟩, q⟩
  have e := count_truths rv k
  simp only [List.toList_toArray]
  rw [e]
end
/-! ### a def called while an exception is handled: the exception's object is p -/
abbrev SpK := Addr × Obj → Sp
structure FnK (P : Program) (w : World) (K : PySem.W.Frag) (mg : Str → Option Value) (base : Heap) (k : Nat) (f : Addr) (fd : FuncData) (ps : List Str) (sp : SpK) : Prop where
  len : ∀ p vs H Q E, sp p vs H Q E → vs.length = ps.length
  run : ∀ (A : Around) (outer : List Env) (s : Shared) (H : Hp) (args : Args) (us : List Value) (vs : List V) (Q : VK) (p : Addr × Obj), RoomH k A → PinOk outer H s p → Env0 P w K mg base A outer s H → BindsTo s fd args (ps.zip us) → Vals vs us → sp p vs H Q E0 →
    codeAny (model P w) A (.call (.ref f) args) (CR CX0 outer P w H s Q E0) s
theorem FunC.okK {P : Program} {w : World} {K : PySem.W.Frag} {mg : Str → Option Value} {base : Heap} {x qual : Str} {st : Stmt} {f c : Addr} {fd : FuncData} {N ps : List Str} {k : Nat} {sp : SpK} (F : FunC K x qual st f fd c) (S : FnScope N ps (defScope st)) (len : ∀ p vs H Q E, sp p vs H Q E → vs.length = ps.length)
    (hbody : ∀ (A : Around) (outer : List Env) (s : Shared) (H : Hp) (vs : List V) (Q : VK) (p : Addr × Obj), RoomH k (A.deeper (envOfC qual (defScope st) s.heap.objs.size f (.ref c))) → sp p vs H Q E0 →
      ∃ t, PSs (cxH CX0 P w K mg base N qual (defScope st) f (.ref c) A outer s H E0 p).nox (defBody st) t ∧ t { nx := fun _ H' => Q .non H', rt := Q } (L2.start N vs) H) :
    FnK P w K mg base (k + 1) f fd ps sp := by
  obtain ⟨oc, od, kV, doc, pm, an, ct, osl, rfl, lk, hcd⟩ := F.ex
  refine ⟨len, fun A outer s H args us vs Q p hr hpin e0 hb r hsp => ?_⟩
  have hl := len _ _ _ _ _ hsp
  have kin : K.In s.heap := e0.mod.kin.keeps fun b o e => (e0.bs b o e).1
  have lim : s.heap.NoLimit := e0.mod.nolimit.keeps fun b o e => (e0.bs b o e).1
  refine codeAny_call_function hr.depth (kin _ _ lk) rfl S.co S.gen rfl (PySem.W.codeRec_of kin hcd) (hb _ _ _ _ (wpAny_newFunctionEnv_cells S.kind (fun y hy => ?_) fun env he s1 ic => ?_))
  · obtain ⟨n, v⟩ := y
    exact (S.par n (List.of_mem_zip hy).1).imp id fun q => ⟨q, PySem.W.cellsFrom_some _ _ _ (.inl q)⟩
  · subst he
    refine ⟨lim.keeps ic.toInCall.keep, codeAny_func ?_⟩
    obtain ⟨t, ht, hq⟩ := hbody A outer s H vs Q p (hr.deeper _) hsp
    have J := inv_startH (CX := CX0) (E := E0) (p := p) S hpin e0 hl r ic
    refine wpAny_mono (ht.nox.run [] s1 _ H _ J hq) (fun fl s' hs => ?_) fun e s' hs => hs
    cases fl with
    | ret u => obtain ⟨v, σ', H', J', rv, q⟩ := hs; exact ⟨v, H', J'.os, J'.bare, J'.base, J'.hok, rv, q⟩
    | next => obtain ⟨σ', H', J', q⟩ := hs; exact ⟨.non, H', J'.os, J'.bare, J'.base, J'.hok, rfl, q⟩
    | brk => obtain ⟨_, _, _, q⟩ := hs; exact q.elim
    | cont => obtain ⟨_, _, _, q⟩ := hs; exact q.elim
section
variable {X : Cx} {k : Nat} {f : Addr} {fd : FuncData} {ps : List Str} {sp : SpK} {x : Str} {q pos : Pos} {e : Expr} {es : List Expr} {t : TA} {p : Addr × Obj}
theorem pe_callK (F : FnK X.prog X.w X.K X.mg X.base k f fd ps sp) (hr : RoomH k X.A) (hp : p ∈ X.pn) (hg : Gl X x) (hm : X.mg x = some (.ref f)) (hk : PySem.W.keepIn X.K (.ref f) = true) (hb : Binds X.K fd ps [])
    (ha : PA X (e :: es) t) (hdb : (x == ("__debug__" : Str)) = false := by decide) (he : starEach (e :: es) X.env = (false, eval e X.env) :: starEach es X.env := by rfl) (hpl : (backTo pos (starEach es X.env)).any (·.1) = false := by rfl) :
    PE X (.Call (.Name x q) (e :: es) [] pos) (fun σ H Q => t σ H fun vs H1 => sp p vs H1 Q E0) := by
  refine ⟨fun pins s σ H Q I h => ?_⟩
  refine wpAny_Call_Name_kw (ld_glob I hg hm ?_ hdb)
  refine PySem.W.callWith_K (h₀ := X.base) I.ok.mod.kin hk (thn (ha.run pos pins s σ H _ I h) fun us s1 ⟨vs, H1, I1, r, q⟩ => ⟨I1.kIn, ?_⟩) he hpl
  have hl : us.length = ps.length := by rw [← r.length]; exact F.len _ _ _ _ _ q
  have b := hb s1 us I1.kIn (by rw [List.append_nil]; exact hl)
  rw [List.append_nil] at b
  have P1 := I1.pin p (List.mem_append_left _ hp)
  refine wpAny_call (codeAny_mono (F.run X.A X.stack s1 H1 ⟨us, []⟩ us vs Q p hr ⟨P1.1, P1.2.1, fun hm => (List.mem_cons.mp (I1.stkSub p.1 hm)).elim P1.2.2.1 P1.2.2.2.1, P1.2.2.2.2⟩ I1.env0 b r q) fun r s' hq => ?_)
  cases r with
  | error e => exact False.elim hq
  | ok fl =>
    cases fl with
    | ret u => exact I1.after hq
    | next => exact False.elim hq
    | brk => exact False.elim hq
    | cont => exact False.elim hq
/-- isinstance(e, c), e an exception of the class D whose object is known -/
theorem call_isK {a D : Addr} {oe : Obj} {d : Option Addr} (C : ExcC X.K D) (hp : (a, oe) ∈ X.pn) (hz : Zc (.ref D) none oe) (hf : ∃ vs, oe.data = .fields vs) : CallR X (.builtin "isinstance") (rIsE X.K D a) := by
  intro pins s σ H xs us Q I r h
  obtain ⟨c, cv, b, rfl, hcv, e, q⟩ := h
  obtain ⟨u1, u2, rfl, r1, r2⟩ := vals2 r
  obtain rfl : u1 = Value.ref a := r1
  obtain rfl := hcv _ r2
  obtain ⟨hget, _⟩ := I.pin (a, oe) (List.mem_append_left _ hp)
  obtain ⟨vs, hv⟩ := hf
  have J : PySem.W.InstAt s.heap a oe D none := by
    obtain ⟨oc, od, oda, osl⟩ := oe
    obtain ⟨h1, h2⟩ := hz
    dsimp only at h1 h2 hv
    subst h1 h2 hv
    exact ⟨hget, rfl, rfl, trivial⟩
  exact PySem.W.kia_one (PySem.W.handS_kitx_exc C.hg C.hk C.hs C.hd C.ha C.hn C.ht C.hm) I.kIn J e (fun z => nomatch z) fun tk => ⟨.bl b, H, I.kept (t' := tk) fun _ _ z => z, rfl, q⟩
end
/-! ### raising -/
theorem _root_.W.jl0 {x : Str} {n : Nat} (h : x.length ≤ n) : (Str.empty ++ x).length ≤ n := by
  rw [strLen_append]
  have : Str.empty.length = 0 := by decide
  omega
theorem _root_.W.jl {x y : Str} {n m k : Nat} (h : x.length ≤ n) (h2 : y.length ≤ m) (h3 : n + m ≤ k) : (x ++ y).length ≤ k := by
  rw [strLen_append]
  omega
/-- the class x stands at C and may be raised -/
structure Rse (K : PySem.W.Frag) (mg : Str → Option Value) (x : Str) (C : Addr) : Prop where
  g : mg x = some (.ref C)
  q : PySem.W.excIn K C [.type "ValueError", .type "Exception", .type "BaseException", .type "object"] "ValueError.__new__" = true
  k : PySem.W.keepIn K (.ref C) = true
  b : PySem.W.subIn K (.ref C) (.type "BaseException") = some true
  t : PySem.W.typeIn K (.ref C) = some (.type "type")
section
variable {P : Program} {w : World} {K : PySem.W.Frag} {mg : Str → Option Value} {base : Heap} {x qual : Str} {st : Stmt} {f c : Addr} {fd : FuncData} {N ps : List Str} {k : Nat} {sp : Sp}
theorem FunC.okX (F : FunC K x qual st f fd c) (S : FnScope N ps (defScope st)) (len : ∀ vs H Q E, sp vs H Q E → vs.length = ps.length)
    (hbody : ∀ (A : Around) (outer : List Env) (s : Shared) (H : Hp) (vs : List V) (Q : VK) (E : XK), Room k (A.deeper (envOfC qual (defScope st) s.heap.objs.size f (.ref c))) → sp vs H Q E →
      ∃ t, PSs (cxOf (L2.CX P w) P w K mg base N qual (defScope st) f (.ref c) A outer s H E) (defBody st) t ∧ t { nx := fun _ H' => Q .non H', rt := Q } (L2.start N vs) H) : FnOk P w K mg base (L2.CX P w) (k + 1) f fd ps sp := by
  obtain ⟨oc, od, kV, doc, pm, an, ct, osl, rfl, lk, hcd⟩ := F.ex
  exact fn_of lk hcd S len fun A outer s H vs Q E hr hsp => hbody A outer s H vs Q E hr hsp
end
/-- the def x keeps sp, or raises -/
def DfX (P : Program) (w : World) (K : PySem.W.Frag) (mg : Str → Option Value) (base : Heap) (k : Nat) (x : Str) (ps : List Str) (sp : Sp) : Prop :=
  ∃ f fd, FnOk P w K mg base (L2.CX P w) k f fd ps sp ∧ PySem.W.keepIn K (.ref f) = true ∧ Binds K fd ps [] ∧ mg x = some (.ref f)
theorem dfX {P : Program} {w : World} {K : PySem.W.Frag} {mg : Str → Option Value} {base : Heap} {k : Nat} {x : Str} {st : Stmt} {ps : List Str} {f : Addr} {fd : FuncData} {c : Addr} {sp : Sp} (D : W.DefIn K mg x st ps f fd c) (h : FnOk P w K mg base (L2.CX P w) k f fd ps sp) : DfX P w K mg base k x ps sp := ⟨f, fd, h, D.fc.kp, D.b, D.g⟩
/-- the slots are as many as the names -/
theorem takes_len {X : Cx} {W : WX} (t : Takes X W) : Takes X (fun cls d σ H => σ.length = X.N.length → W cls d σ H) := fun u s' ⟨a, B, sI, pins, σ, H, cls, d, e, I, nb, up, sky, na, os, ag, w⟩ =>
  t u s' ⟨a, B, sI, pins, σ, H, cls, d, e, I, nb, up, sky, na, os, ag, w I.len⟩
end X1

namespace W
open PySem PySem.Spec PyProof.Rows L2
def topS (i : Nat) : Stmt := PySem.Challenge.pw_onceeach_k02_numbers_with_a_back.main.body.getD i (.Pass ⟨0, 0, 0, 0⟩)
abbrev s_is_whole : Stmt := topS 16
abbrev s_is_whole_between : Stmt := topS 17
abbrev s_check_bound : Stmt := topS 18
abbrev s_check_between : Stmt := topS 19
abbrev s_check_number : Stmt := topS 20
abbrev s_back_of : Stmt := topS 22
abbrev s_units : Stmt := topS 23
abbrev s_find_back : Stmt := topS 24
abbrev s_law_cell : Stmt := topS 26
abbrev s_law_pen : Stmt := topS 27
abbrev s_law_draw : Stmt := topS 28
abbrev s_law_whole : Stmt := topS 29
abbrev s_law_kind : Stmt := topS 30
abbrev s_law_said : Stmt := topS 31
abbrev s_law_same : Stmt := topS 32
abbrev s_law_bound : Stmt := topS 33
abbrev s_law_no_bound : Stmt := topS 34
abbrev s_law_no_number : Stmt := topS 35
abbrev s_law_right : Stmt := topS 36
abbrev s_law : Stmt := topS 37
end W
namespace W
open PySem PySem.Spec PyProof.Rows L2 B1
open L2H (RoomH PinOk cxH inv_startH roomH_of)
section
variable {P : Program} {w : World} {K : PySem.W.Frag} {mg : Str → Option Value} {base : Heap} {Ts : List Addr}
/-! ### _law_kind -/
structure Clss (mg : Str → Option Value) (c : Nat → Addr) : Prop where
  m0 : mg "NoBound" = some (.ref (c 0))
  m1 : mg "NoPrime" = some (.ref (c 1))
  m2 : mg "NoPower" = some (.ref (c 2))
  m3 : mg "NoNumber" = some (.ref (c 3))
  m4 : mg "NoFunction" = some (.ref (c 4))
  m5 : mg "NoPoly" = some (.ref (c 5))
  m6 : mg "Apart" = some (.ref (c 6))
  m7 : mg "NoRow" = some (.ref (c 7))
  m8 : mg "NoList" = some (.ref (c 8))
  m9 : mg "NoText" = some (.ref (c 9))
  m10 : mg "TooGreat" = some (.ref (c 10))
  mv : mg "ValueError" = none
/-- D is the j-th class -/
structure Kind (K : PySem.W.Frag) (c : Nat → Addr) (D : Addr) (j : Nat) : Prop where
  ex : ExcC K D
  ve : PySem.W.kitOne K (.ref D) (.type "ValueError") = some true
  kd : ∀ i, i < 11 → PySem.W.kitOne K (.ref D) (.ref (c i)) = some (decide (i = j))
  hj : j < 11
def hotL (j : Nat) : List Bool := [decide (0 = j), decide (1 = j), decide (2 = j), decide (3 = j), decide (4 = j), decide (5 = j), decide (6 = j), decide (7 = j), decide (8 = j), decide (9 = j), decide (10 = j)]
def words : List Str := ["bound", "prime", "power", "number", "function", "poly", "apart", "row", "list", "text", "great"]
def wordAt (j : Nat) : Str := words.getD j ""
theorem hot_count : ∀ j, j < 11 → (hotL j).count true = 1 := by decide
theorem hot_at : ∀ j, j < 11 → (hotL j)[j]? = some true := by decide
theorem hot_not : ∀ j, j < 11 → ∀ m, m < j → (hotL j)[m]? = some false := by decide
theorem word_get {j : Nat} (h : j < 11) : (words.map V.str)[j]? = some (.str (wordAt j)) := by
  have hl : j < words.length := h
  unfold wordAt
  rw [List.getElem?_map, List.getElem?_eq_getElem hl, List.getD_eq_getElem?_getD, List.getElem?_eq_getElem hl]
  rfl
theorem sc_kind : FnScope ["_law_e", "_law_seen", "_law_words"] ["_law_e"] (defScope s_law_kind) := ⟨rfl, rfl, rfl, by decide +kernel, rfl, by decide +kernel, by decide +kernel⟩
def sp_kind (K : PySem.W.Frag) (c : Nat → Addr) : X1.SpK := fun p vs H Q _ => ∃ (D : Addr) (j : Nat), vs = [.ref p.1] ∧ Zc (.ref D) none p.2 ∧ (∃ vs, p.2.data = .fields vs) ∧ Kind K c D j ∧ ∀ H', Same H H' → Q (.str (wordAt j)) H'
theorem same_upd {H : Hp} {p : Addr} {o : HO} (h : H p = none) : Same H (upd H p o) := fun b u e => by
  rw [upd_ne (ne_of_none e h)]; exact e
theorem ok_kind {f cc : Addr} {fd : FuncData} {c : Nat → Addr} (D : DefIn K mg "_law_kind" s_law_kind ["_law_e"] f fd cc) (C : Clss mg c) (Z : Blt mg) : X1.FnK P w K mg base 1 f fd ["_law_e"] (sp_kind K c) := by
  refine X1.FunC.okK D.fc sc_kind (fun p vs H Q E h => ?_) (fun A outer s H vs Q p hr h => ?_)
  · obtain ⟨_, _, rfl, _⟩ := h
    rfl
  · obtain ⟨E, j, rfl, hz, hf, kd, q⟩ := h
    obtain ⟨a, oe⟩ := p
    have mI := Z.isi
    have hI : CallR (cxH CX0 P w K mg base ["_law_e", "_law_seen", "_law_words"] "_law_kind" (defScope s_law_kind) f (.ref cc) A outer s H E0 (a, oe)).nox (.builtin "isinstance") (rIsE K E a) := X1.call_isK (d := none) kd.ex (List.mem_singleton.mpr rfl) hz hf
    refine ⟨_, pss_cons (ps_set (i := 1) sc_kind.nd rfl (Or.inl rfl) (pe_lst (pa_cons (pe_callB hI (by rfl) mI boot_isinstance (pa_cons (pv 0) (pa_cons (pe_glob (v := .ref (c 0)) (by rfl) C.m0 rfl) pa_nil))) (pa_cons (pe_callB hI (by rfl) mI boot_isinstance (pa_cons (pv 0) (pa_cons (pe_glob (v := .ref (c 1)) (by rfl) C.m1 rfl) pa_nil))) (pa_cons (pe_callB hI (by rfl) mI boot_isinstance (pa_cons (pv 0) (pa_cons (pe_glob (v := .ref (c 2)) (by rfl) C.m2 rfl) pa_nil))) (pa_cons (pe_callB hI (by rfl) mI boot_isinstance (pa_cons (pv 0) (pa_cons (pe_glob (v := .ref (c 3)) (by rfl) C.m3 rfl) pa_nil))) pa_nil))))))
      (pss_cons (ps_set (i := 1) sc_kind.nd rfl (Or.inl rfl) (pe_op op_cat (pv 1) (pe_lst (pa_cons (pe_callB hI (by rfl) mI boot_isinstance (pa_cons (pv 0) (pa_cons (pe_glob (v := .ref (c 4)) (by rfl) C.m4 rfl) pa_nil))) (pa_cons (pe_callB hI (by rfl) mI boot_isinstance (pa_cons (pv 0) (pa_cons (pe_glob (v := .ref (c 5)) (by rfl) C.m5 rfl) pa_nil))) (pa_cons (pe_callB hI (by rfl) mI boot_isinstance (pa_cons (pv 0) (pa_cons (pe_glob (v := .ref (c 6)) (by rfl) C.m6 rfl) pa_nil))) pa_nil))))))
      (pss_cons (ps_set (i := 1) sc_kind.nd rfl (Or.inl rfl) (pe_op op_cat (pv 1) (pe_lst (pa_cons (pe_callB hI (by rfl) mI boot_isinstance (pa_cons (pv 0) (pa_cons (pe_glob (v := .ref (c 7)) (by rfl) C.m7 rfl) pa_nil))) (pa_cons (pe_callB hI (by rfl) mI boot_isinstance (pa_cons (pv 0) (pa_cons (pe_glob (v := .ref (c 8)) (by rfl) C.m8 rfl) pa_nil))) (pa_cons (pe_callB hI (by rfl) mI boot_isinstance (pa_cons (pv 0) (pa_cons (pe_glob (v := .ref (c 9)) (by rfl) C.m9 rfl) pa_nil))) (pa_cons (pe_callB hI (by rfl) mI boot_isinstance (pa_cons (pv 0) (pa_cons (pe_glob (v := .ref (c 10)) (by rfl) C.m10 rfl) pa_nil))) pa_nil)))))))
      (pss_cons (ps_if (PW.pt (pw_or (pt_not (pt_val (pe_callB hI (by rfl) mI boot_isinstance (pa_cons (pv 0) (pa_cons (pe_bltn (v := .ty "ValueError") (by rfl) C.mv (by decide +kernel) rfl) pa_nil)))))
          (pw_or1 (pt_cmpR op_ne (pe_bm PySem.F.plainAttrs_list PySem.F.slot_list_count PySem.F.type_list_count X1.mt_countB (pv 1) (pa_cons pe_bl pa_nil)) pe_int (nomark _))))) pss_never pss_nil)
      (pss_cons (ps_set (i := 2) sc_kind.nd rfl (Or.inl rfl) (pe_lst (pa_cons pe_str (pa_cons pe_str (pa_cons pe_str (pa_cons pe_str (pa_cons pe_str (pa_cons pe_str (pa_cons pe_str (pa_cons pe_str (pa_cons pe_str (pa_cons pe_str pa_nil))))))))))))
      (pss_one (ps_ret (pe_ix ix_list (pe_op op_cat (pv 2) (pe_lst (pa_cons pe_str pa_nil))) (pe_bm PySem.F.plainAttrs_list PySem.F.slot_list_index PySem.F.type_list_index mt_index (pv 1) (pa_cons pe_bl pa_nil)) (fun _ _ => rfl)))))))), ?_⟩
    refine ⟨_, rfl, .ref (c 0), .ref (c 0), _, rfl, fun u r => r, kd.kd 0 (by decide), _, rfl, .ref (c 1), .ref (c 1), _, rfl, fun u r => r, kd.kd 1 (by decide), _, rfl, .ref (c 2), .ref (c 2), _, rfl, fun u r => r, kd.kd 2 (by decide), _, rfl, .ref (c 3), .ref (c 3), _, rfl, fun u r => r, kd.kd 3 (by decide), by show 4 ≤ sizeLine; decide, fun l1 n1 => ?_⟩
    refine ⟨_, rfl, _, rfl, .ref (c 4), .ref (c 4), _, rfl, fun u r => r, kd.kd 4 (by decide), _, rfl, .ref (c 5), .ref (c 5), _, rfl, fun u r => r, kd.kd 5 (by decide), _, rfl, .ref (c 6), .ref (c 6), _, rfl, fun u r => r, kd.kd 6 (by decide), by show 3 ≤ sizeLine; decide, fun l2 n2 => ?_⟩
    have s1 := same_upd (o := .lst [.bl (decide (0 = j)), .bl (decide (1 = j)), .bl (decide (2 = j)), .bl (decide (3 = j))]) n1
    have s2 := same_upd (o := .lst [.bl (decide (4 = j)), .bl (decide (5 = j)), .bl (decide (6 = j))]) n2
    refine ⟨l1, l2, _, _, rfl, rfl, s2 _ _ upd_same, upd_same, by show 7 ≤ sizeLine; decide, fun l3 n3 => ?_⟩
    have s3 := same_upd (o := .lst [.bl (decide (0 = j)), .bl (decide (1 = j)), .bl (decide (2 = j)), .bl (decide (3 = j)), .bl (decide (4 = j)), .bl (decide (5 = j)), .bl (decide (6 = j))]) n3
    refine ⟨_, rfl, _, rfl, .ref (c 7), .ref (c 7), _, rfl, fun u r => r, kd.kd 7 (by decide), _, rfl, .ref (c 8), .ref (c 8), _, rfl, fun u r => r, kd.kd 8 (by decide), _, rfl, .ref (c 9), .ref (c 9), _, rfl, fun u r => r, kd.kd 9 (by decide), _, rfl, .ref (c 10), .ref (c 10), _, rfl, fun u r => r, kd.kd 10 (by decide), by show 4 ≤ sizeLine; decide, fun l4 n4 => ?_⟩
    have s4 := same_upd (o := .lst [.bl (decide (7 = j)), .bl (decide (8 = j)), .bl (decide (9 = j)), .bl (decide (10 = j))]) n4
    refine ⟨l3, l4, _, _, rfl, rfl, s4 _ _ upd_same, upd_same, by show 11 ≤ sizeLine; decide, fun l5 n5 => ?_⟩
    have s5 := same_upd (o := .lst ((hotL j).map V.bl)) n5
    have sm : Same H (upd (upd (upd (upd (upd H l1 (.lst [.bl (decide (0 = j)), .bl (decide (1 = j)), .bl (decide (2 = j)), .bl (decide (3 = j))])) l2 (.lst [.bl (decide (4 = j)), .bl (decide (5 = j)), .bl (decide (6 = j))])) l3 (.lst [.bl (decide (0 = j)), .bl (decide (1 = j)), .bl (decide (2 = j)), .bl (decide (3 = j)), .bl (decide (4 = j)), .bl (decide (5 = j)), .bl (decide (6 = j))])) l4 (.lst [.bl (decide (7 = j)), .bl (decide (8 = j)), .bl (decide (9 = j)), .bl (decide (10 = j))])) l5 (.lst ((hotL j).map V.bl))) := s1.trans (s2.trans (s3.trans (s4.trans s5)))
    have hot : (upd (upd (upd (upd (upd H l1 (.lst [.bl (decide (0 = j)), .bl (decide (1 = j)), .bl (decide (2 = j)), .bl (decide (3 = j))])) l2 (.lst [.bl (decide (4 = j)), .bl (decide (5 = j)), .bl (decide (6 = j))])) l3 (.lst [.bl (decide (0 = j)), .bl (decide (1 = j)), .bl (decide (2 = j)), .bl (decide (3 = j)), .bl (decide (4 = j)), .bl (decide (5 = j)), .bl (decide (6 = j))])) l4 (.lst [.bl (decide (7 = j)), .bl (decide (8 = j)), .bl (decide (9 = j)), .bl (decide (10 = j))])) l5 (.lst ((hotL j).map V.bl))) l5 = some (.lst ((hotL j).map V.bl)) := upd_same
    refine ⟨_, rfl, .ty "ValueError", .type "ValueError", _, rfl, fun u r => r, kd.ve, _, rfl, iteF ?_⟩
    refine ⟨_, rfl, .inl ⟨rfl, _, SqL.of hot⟩, l5, hotL j, true, rfl, rfl, SqL.of hot, rfl, _, rfl, ?_⟩
    rw [hot_count j kd.hj]
    refine iteF ?_
    change tSeq _ _ _ [some (.ref a), some (.ref l5), none] (upd (upd (upd (upd (upd H l1 (.lst [.bl (decide (0 = j)), .bl (decide (1 = j)), .bl (decide (2 = j)), .bl (decide (3 = j))])) l2 (.lst [.bl (decide (4 = j)), .bl (decide (5 = j)), .bl (decide (6 = j))])) l3 (.lst [.bl (decide (0 = j)), .bl (decide (1 = j)), .bl (decide (2 = j)), .bl (decide (3 = j)), .bl (decide (4 = j)), .bl (decide (5 = j)), .bl (decide (6 = j))])) l4 (.lst [.bl (decide (7 = j)), .bl (decide (8 = j)), .bl (decide (9 = j)), .bl (decide (10 = j))])) l5 (.lst ((hotL j).map V.bl)))
    generalize (upd (upd (upd (upd (upd H l1 (.lst [.bl (decide (0 = j)), .bl (decide (1 = j)), .bl (decide (2 = j)), .bl (decide (3 = j))])) l2 (.lst [.bl (decide (4 = j)), .bl (decide (5 = j)), .bl (decide (6 = j))])) l3 (.lst [.bl (decide (0 = j)), .bl (decide (1 = j)), .bl (decide (2 = j)), .bl (decide (3 = j)), .bl (decide (4 = j)), .bl (decide (5 = j)), .bl (decide (6 = j))])) l4 (.lst [.bl (decide (7 = j)), .bl (decide (8 = j)), .bl (decide (9 = j)), .bl (decide (10 = j))])) l5 (.lst ((hotL j).map V.bl))) = H5 at sm hot
    refine ⟨by show 10 ≤ sizeLine; decide, fun l6 n6 => ?_⟩
    refine ⟨_, rfl, by show 1 ≤ sizeLine; decide, fun l7 n7 => ?_⟩
    have s6 := same_upd (o := .lst (((words.take 10)).map V.str)) n6
    have s7 := same_upd (o := .lst [.str "great"]) n7
    refine ⟨l6, l7, _, _, rfl, rfl, s7 _ _ upd_same, upd_same, by show 11 ≤ sizeLine; decide, fun l8 n8 => ?_⟩
    have s8 := same_upd (o := .lst (words.map V.str)) n8
    have hot8 := (s6.trans (s7.trans s8)) _ _ hot
    refine ⟨_, rfl, .inl ⟨rfl, _, SqL.of hot8⟩, l5, _, .bl true, j, .bl true, rfl, rfl, SqL.of hot8, rfl, ?_, ?_, rfl, fun m z' hm hz' => ?_, ?_⟩
    · rw [List.all_eq_true]
      intro x hx
      obtain ⟨b, _, rfl⟩ := List.mem_map.mp hx
      rfl
    · rw [List.getElem?_map, hot_at j kd.hj]; rfl
    · rw [List.getElem?_map, hot_not j kd.hj m hm] at hz'
      cases hz'
      rfl
    · refine ⟨l8, words.map V.str, _, .str (wordAt j), rfl, rfl, SqL.of upd_same, atI_nat (word_get kd.hj), ?_⟩
      exact q _ (sm.trans (s6.trans (s7.trans s8)))

/-! ### is_whole -/
theorem sc_is_whole : FnScope ["thing"] ["thing"] (defScope s_is_whole) := ⟨rfl, rfl, rfl, by decide +kernel, rfl, by decide +kernel, by decide +kernel⟩
def sp_is_whole (K : PySem.W.Frag) : Sp := fun vs H Q _ => ∃ v, vs = [v] ∧ TyOk K H v ∧ Q (.bl (whV v)) H
theorem ok_is_whole {f c : Addr} {fd : FuncData} (D : DefIn K mg "is_whole" s_is_whole ["thing"] f fd c) (Z : Blt mg) : Df P w K mg base 1 "is_whole" ["thing"] (sp_is_whole K) := by
  have mI := Z.isi
  have mi := Z.int
  have mb := Z.bool
  refine D.df (D.fc.toFun.ok sc_is_whole (fun vs H Q E h => ?_) (fun cdv A outer s H vs Q E hr h => ?_))
  · obtain ⟨v, rfl, _⟩ := h
    rfl
  · obtain ⟨v, rfl, ⟨t, ht, hk⟩, q⟩ := h
    refine ⟨_, pss_one (ps_ret (pe_and (pe_callB call_isi (by rfl) mI boot_isinstance (pa_cons (pv 0) (pa_cons (pe_bltn (v := .ty "int") (by rfl) mi boot_int rfl) pa_nil)))
      (pe_one (pe_not (pe_callB call_isi (by rfl) mI boot_isinstance (pa_cons (pv 0) (pa_cons (pe_bltn (v := .ty "bool") (by rfl) mb boot_bool rfl) pa_nil))))))), ?_⟩
    rw [whV_ty ht hk] at q
    refine ⟨v, rfl, v, .ty "int", _, _, _, rfl, .ty _, ht, kit_int hk, _, rfl, ?_⟩
    by_cases h1 : (t == "int" || t == "bool") = true
    · rw [if_pos h1]
      refine ⟨v, rfl, v, .ty "bool", _, _, _, rfl, .ty _, ht, kit_bool hk, _, rfl, ?_⟩
      have e : (!(t == "bool")) = (t == "int") := by
        simp only [kinds, List.mem_cons, List.not_mem_nil, or_false] at hk
        rcases hk with rfl | rfl | rfl | rfl | rfl | rfl | rfl <;> first | rfl | (exfalso; revert h1; decide)
      rw [e]
      exact q
    · rw [if_neg h1]
      have e : (t == "int") = false := by
        cases z : (t == "int") with
        | false => rfl
        | true => rw [z] at h1; exact absurd rfl h1
      rw [e] at q
      exact q

/-! ### is_whole_between -/
theorem sc_is_whole_between : FnScope ["thing", "least", "most"] ["thing", "least", "most"] (defScope s_is_whole_between) := ⟨rfl, rfl, rfl, by decide +kernel, rfl, by decide +kernel, by decide +kernel⟩
def sp_btw (K : PySem.W.Frag) : Sp := fun vs H Q _ => ∃ v lo hi, vs = [v, .int lo, .int hi] ∧ TyOk K H v ∧ Q (.bl (btwV lo hi v)) H
theorem ok_btw {f c : Addr} {fd : FuncData} (D : DefIn K mg "is_whole_between" s_is_whole_between ["thing", "least", "most"] f fd c) (D1 : Df P w K mg base 1 "is_whole" ["thing"] (sp_is_whole K)) : Df P w K mg base 2 "is_whole_between" ["thing", "least", "most"] (sp_btw K) := by
  obtain ⟨f1, fd1, G1, k1, b1, g1⟩ := D1
  refine D.df (D.fc.toFun.ok sc_is_whole_between (fun vs H Q E h => ?_) (fun cdv A outer s H vs Q E hr h => ?_))
  · obtain ⟨v, lo, hi, rfl, _⟩ := h
    rfl
  · obtain ⟨v, lo, hi, rfl, ht, q⟩ := h
    refine ⟨_, pss_one (ps_ret (pe_and (pe_call G1 hr (by rfl) g1 k1 b1 .nil pass0 (pa_cons (pv 0) pa_nil)) (pe_one (pe_chain op_le op_le (pv 1) (pv 0) (pv 2))))), ?_⟩
    refine ⟨v, rfl, v, rfl, ht, _, rfl, ?_⟩
    cases v with
    | int i =>
      refine iteT ⟨_, rfl, _, rfl, _, _, rfl, rfl, _, rfl, ?_⟩
      by_cases h1 : lo ≤ i
      · rw [if_pos (decide_eq_true h1)]
        refine ⟨_, rfl, _, _, rfl, rfl, ?_⟩
        simp only [btwV, decide_eq_true h1, Bool.true_and] at q
        exact q
      · rw [if_neg (by rw [decide_eq_false h1]; exact Bool.false_ne_true)]
        simp only [btwV, decide_eq_false h1, Bool.false_and] at q
        exact q
    | _ => exact iteF q

/-! ### check_bound, which may refuse -/
theorem sc_check_bound : FnScope ["bound"] ["bound"] (defScope s_check_bound) := ⟨rfl, rfl, rfl, by decide +kernel, rfl, by decide +kernel, by decide +kernel⟩
def sp_cbX (K : PySem.W.Frag) (CB : Addr) : Sp := fun vs H Q E => ∃ v, vs = [v] ∧ TyOk K H v ∧ (btwV 2 16 v = true → Q .non H) ∧ (btwV 2 16 v = false → E (.ref CB) none H)
theorem ok_cbX {f c CB : Addr} {fd : FuncData} {tl tg : Tok} (D : DefIn K mg "check_bound" s_check_bound ["bound"] f fd c) (D2 : Df P w K mg base 2 "is_whole_between" ["thing", "least", "most"] (sp_btw K)) (gl : mg "LEAST_BOUND" = some (.int 2 tl)) (gg : mg "GREATEST_BOUND" = some (.int 16 tg)) (R : X1.Rse K mg "NoBound" CB) :
    X1.DfX P w K mg base 3 "check_bound" ["bound"] (sp_cbX K CB) := by
  obtain ⟨f2, fd2, G2, k2, b2, g2⟩ := D2
  refine X1.dfX D (X1.FunC.okX D.fc sc_check_bound (fun vs H Q E h => ?_) (fun A outer s H vs Q E hr h => ?_))
  · obtain ⟨v, rfl, _⟩ := h
    rfl
  · obtain ⟨v, rfl, ht, q1, q2⟩ := h
    refine ⟨_, pss_one (ps_if (pt_not (pt_val (pe_call G2 hr (by rfl) g2 k2 b2 .nil pass0 (pa_cons (pv 0) (pa_cons (pe_glob (v := .int 2) (by rfl) gl ⟨_, rfl⟩) (pa_cons (pe_glob (v := .int 16) (by rfl) gg ⟨_, rfl⟩) pa_nil))))))
      (pss_one (ps_raise rfl (takes_of rfl rfl rfl rfl) (SkE.pmk_own1 PySem.F.excBase_ValueError R.q R.g R.k (raises_own R.b R.t) (by rfl)
        (pe_joined (.cons pe_str (.cons (pe_fmt (pe_glob (v := .int 2) (by rfl) gl ⟨_, rfl⟩)) (.cons pe_str (.cons (pe_fmt (pe_glob (v := .int 16) (by rfl) gg ⟨_, rfl⟩)) .nil)))))))) pss_nil), ?_⟩
    refine ⟨_, rfl, v, 2, 16, rfl, ht, _, rfl, ?_⟩
    refine ite_b (fun hb => ?_) fun hb => ?_
    · have hb : btwV 2 16 v = false := by simpa using hb
      refine ⟨_, rfl, by decide, .inr ⟨2, rfl, by decide, _, rfl, by decide, _, rfl, by decide, .inr ⟨16, rfl, by decide, _, rfl, by decide, ?_⟩⟩⟩
      exact q2 hb
    · exact q1 (by simpa using hb)

/-! ### check_between, which may refuse -/
theorem sc_check_between : FnScope ["number", "least", "most"] ["number", "least", "most"] (defScope s_check_between) := ⟨rfl, rfl, rfl, by decide +kernel, rfl, by decide +kernel, by decide +kernel⟩
/-- an int that may be written into a text -/
structure ShI (n : Int) : Prop where
  lg : n.natAbs.log2 < 1000
  ln : (PyData.shown (.int n)).length ≤ 60
theorem shI_small {n : Int} (h0 : 0 ≤ n) (h1 : n < 10 ^ 15) : ShI n := ⟨by have := log_small h0 h1; omega, Nat.le_trans (short_int h0 h1) (by decide)⟩
def sp_cwX (K : PySem.W.Frag) (CN : Addr) : Sp := fun vs H Q E => ∃ (v : V) (lo hi : Int), vs = [v, .int lo, .int hi] ∧ TyOk K H v ∧ ShI lo ∧ ShI hi ∧ (btwV lo hi v = true → Q .non H) ∧ (btwV lo hi v = false → E (.ref CN) none H)
theorem ok_cwX {f c CN : Addr} {fd : FuncData} (D : DefIn K mg "check_between" s_check_between ["number", "least", "most"] f fd c) (D2 : Df P w K mg base 2 "is_whole_between" ["thing", "least", "most"] (sp_btw K)) (R : X1.Rse K mg "NoNumber" CN) :
    X1.DfX P w K mg base 3 "check_between" ["number", "least", "most"] (sp_cwX K CN) := by
  obtain ⟨f2, fd2, G2, k2, b2, g2⟩ := D2
  refine X1.dfX D (X1.FunC.okX D.fc sc_check_between (fun vs H Q E h => ?_) (fun A outer s H vs Q E hr h => ?_))
  · obtain ⟨v, lo, hi, rfl, _⟩ := h
    rfl
  · obtain ⟨v, lo, hi, rfl, ht, slo, shi, q1, q2⟩ := h
    refine ⟨_, pss_one (ps_if (pt_not (pt_val (pe_call G2 hr (by rfl) g2 k2 b2 .nil pass0 (pa_cons (pv 0) (pa_cons (pv 1) (pa_cons (pv 2) pa_nil))))))
      (pss_one (ps_raise rfl (takes_of rfl rfl rfl rfl) (SkE.pmk_own1 PySem.F.excBase_ValueError R.q R.g R.k (raises_own R.b R.t) (by rfl)
        (pe_joined (.cons pe_str (.cons (pe_fmt (pv 1)) (.cons pe_str (.cons (pe_fmt (pv 2)) (.cons pe_str .nil))))))))) pss_nil), ?_⟩
    refine ⟨_, rfl, _, rfl, _, rfl, v, lo, hi, rfl, ht, _, rfl, ?_⟩
    refine ite_b (fun hn => ?_) fun hn => ?_
    · have hn : btwV lo hi v = false := by simpa using hn
      have h1 := slo.ln
      have h2 := shi.ln
      have l1 := slo.lg
      have l2 := shi.lg
      simp only [PyData.shown] at h1 h2
      refine ⟨_, rfl, by decide, _, rfl, .inr ⟨lo, rfl, by omega, _, rfl, ?_, _, rfl, ?_, _, rfl, .inr ⟨hi, rfl, by omega, _, rfl, ?_, _, rfl, ?_, ?_⟩⟩⟩
      · exact jl (n := 100) (jl0 (by decide)) h1 (by decide)
      · exact jl (n := 160) (m := 100) (jl (n := 100) (jl0 (by decide)) h1 (Nat.le_refl _)) (by decide) (by decide)
      · exact jl (n := 260) (m := 60) (jl (n := 160) (m := 100) (jl (n := 100) (jl0 (by decide)) h1 (Nat.le_refl _)) (by decide) (Nat.le_refl _)) h2 (by decide)
      · exact jl (n := 320) (m := 100) (jl (n := 260) (m := 60) (jl (n := 160) (m := 100) (jl (n := 100) (jl0 (by decide)) h1 (Nat.le_refl _)) (by decide) (Nat.le_refl _)) h2 (Nat.le_refl _)) (by decide) (by decide)
      · exact q2 hn
    · exact q1 (by simpa using hn)

/-! ### check_number by check_between, which may refuse -/
theorem sc_check_number : FnScope ["bound", "number"] ["bound", "number"] (defScope s_check_number) := ⟨rfl, rfl, rfl, by decide +kernel, rfl, by decide +kernel, by decide +kernel⟩
def sp_cnX (K : PySem.W.Frag) (CN : Addr) : Sp := fun vs H Q E => ∃ (b : Int) (v : V), vs = [.int b, v] ∧ Bd b ∧ TyOk K H v ∧ (btwV 0 (b - 1) v = true → Q .non H) ∧ (btwV 0 (b - 1) v = false → E (.ref CN) none H)
theorem ok_cnX {f c CN : Addr} {fd : FuncData} (D : DefIn K mg "check_number" s_check_number ["bound", "number"] f fd c) (D3 : X1.DfX P w K mg base 3 "check_between" ["number", "least", "most"] (sp_cwX K CN)) :
    X1.DfX P w K mg base 4 "check_number" ["bound", "number"] (sp_cnX K CN) := by
  obtain ⟨f3, fd3, G3, k3, b3, g3⟩ := D3
  refine X1.dfX D (X1.FunC.okX D.fc sc_check_number (fun vs H Q E h => ?_) (fun A outer s H vs Q E hr h => ?_))
  · obtain ⟨b, v, rfl, _⟩ := h
    rfl
  · obtain ⟨b, v, rfl, hb, ht, q1, q2⟩ := h
    refine ⟨_, pss_one (ps_expr (pe_callS G3 hr (by rfl) g3 k3 b3 (fun σ => passAt (takes_of rfl rfl rfl rfl) σ) (pa_cons (pv 1) (pa_cons pe_int (pa_cons (pe_op op_sub (pv 0) pe_int) pa_nil))))), ?_⟩
    have h0 := hb.1
    have h1 := hb.2
    exact ⟨_, rfl, _, rfl, _, _, rfl, rfl, v, 0, b - 1, rfl, ht, shI_small (by decide) (by decide), shI_small (by omega) (by omega), q1, q2⟩

/-! ### find_back -/
/-- the back of n by b -/
def bk (b n : Int) : Option Nat := (List.range b.toNat).find? fun (o : Nat) => decide (n * (o : Int) % b = 1)
def bkV (b n : Int) : V := match bk b n with
  | some o => .int (o : Int)
  | none => .non
theorem bk_lt {b n : Int} {o : Nat} (h : bk b n = some o) : o < b.toNat := List.mem_range.mp (List.mem_of_find?_eq_some h)
theorem sc_find_back : FnScope ["bound", "number", "other"] ["bound", "number"] (defScope s_find_back) := ⟨rfl, rfl, rfl, by decide +kernel, rfl, by decide +kernel, by decide +kernel⟩
def sp_fb : Sp := fun vs H Q _ => ∃ (b n : Int), vs = [.int b, .int n] ∧ Bd b ∧ 0 ≤ n ∧ n < b ∧ Q (bkV b n) H
theorem find_more {p : Nat → Bool} {n i : Nat} (h : i ≤ n) (hn : ∀ j < i, p j = false) : (List.range n).find? p = ((List.range n).drop i).find? p := by
  have e : (List.range n).find? p = ((List.range n).take i ++ (List.range n).drop i).find? p := by rw [List.take_append_drop]
  rw [e, List.find?_append]
  have : ((List.range n).take i).find? p = none := by
    rw [List.find?_eq_none]
    intro x hx
    rw [List.take_range, List.mem_range] at hx
    rw [hn x (by omega)]
    exact Bool.false_ne_true
  rw [this]
  rfl
theorem ok_fb {f c : Addr} {fd : FuncData} (D : DefIn K mg "find_back" s_find_back ["bound", "number"] f fd c) (Z : Blt mg) : Df P w K mg base 1 "find_back" ["bound", "number"] sp_fb := by
  refine D.df (D.fc.toFun.ok sc_find_back (fun vs H Q E h => ?_) (fun cdv A outer s H vs Q E hr h => ?_))
  · obtain ⟨b, n, rfl, _⟩ := h
    rfl
  · obtain ⟨b, n, rfl, hb, hn0, hn1, q⟩ := h
    have h0 := hb.1
    have h1 := hb.2
    refine ⟨_, pss_cons (ps_for PassesOwn.never rfl (pi_range1 (by rfl) Z.range (pa_cons (pv 0) pa_nil)) (pg_name (i := 2) sc_find_back.nd rfl (Or.inl rfl))
        (pss_one (ps_if (pt_cmpR op_eq (pe_op op_mod (pe_op op_mul (pv 1) (pv 2)) (pv 0)) pe_int (nomark _)) (pss_one (ps_ret (pv 2))) pss_nil)))
      (pss_one (ps_ret pe_non)), ?_⟩
    refine ⟨_, rfl, b, rfl, by omega, by omega, ?_⟩
    refine ⟨fun i m σ H' => ∃ y, σ = [some (.int b), some (.int n), y] ∧ m = b.toNat - i ∧ i ≤ b.toNat ∧ H' = H ∧ ∀ j < i, decide (n * ((j : Nat) : Int) % b = 1) = false, ⟨_, none, rfl, rfl, Nat.zero_le _, rfl, fun j hj => by omega⟩, ?_⟩
    rintro i m σ H' ⟨y, rfl, rfl, hi, rfl, hno⟩
    by_cases hlt : i < b.toNat
    · refine .inr ⟨hlt, fun σ' H'' => ∃ y, σ' = [some (.int b), some (.int n), y] ∧ H'' = H' ∧ ∀ j < i + 1, decide (n * ((j : Nat) : Int) % b = 1) = false, fun σ' H'' hN => ?_, fun v H'' hy => ?_⟩
      · obtain ⟨y', e1, e2, e3⟩ := hN
        exact ⟨_, by omega, y', e1, rfl, hlt, e2, e3⟩
      · obtain ⟨rfl, rfl⟩ := hy
        refine ⟨_, rfl, _, rfl, _, _, rfl, rfl, .inl ⟨by omega, by omega⟩, _, rfl, _, _, rfl, rfl, (show (0 : Int) < b by omega), rfl, _, rfl, ?_⟩
        refine ite_b (fun he => ?_) fun he => ?_
        · have he : n * ((i : Nat) : Int) % b = 1 := by
            have := of_decide_eq_true he
            rw [Int.zero_add] at this
            exact V.int.inj this
          have e : bk b n = some i := by
            unfold bk
            rw [find_more (Nat.le_of_lt hlt) hno, List.drop_eq_getElem_cons (by simpa using hlt), List.find?_cons_of_pos (by simpa using he)]
            simp
          have e2 : bkV b n = .int ((i : Nat) : Int) := by unfold bkV; rw [e]
          rw [e2] at q
          refine ⟨_, rfl, ?_⟩
          rw [Int.zero_add]
          exact q
        · refine ⟨_, rfl, rfl, fun j hj => ?_⟩
          by_cases hji : j < i
          · exact hno j hji
          · have ej : j = i := by omega
            subst ej
            rw [Int.zero_add] at he
            rw [decide_eq_false_iff_not] at he ⊢
            exact fun z => he (by show V.int (n * ((j : Nat) : Int) % b) = V.int 1; rw [z])
    · refine .inl ⟨by show b.toNat ≤ i; omega, ?_⟩
      have e : bk b n = none := by
        unfold bk
        rw [find_more (Nat.le_refl _) (fun j hj => hno j (by omega)), List.drop_eq_nil_iff.mpr (by simp)]
        rfl
      have e2 : bkV b n = .non := by unfold bkV; rw [e]
      rw [e2] at q
      exact q

/-! ### back_of -/
theorem sc_back_of : FnScope ["bound", "number", "back"] ["bound", "number"] (defScope s_back_of) := ⟨rfl, rfl, rfl, by decide +kernel, rfl, by decide +kernel, by decide +kernel⟩
def sp_bo (K : PySem.W.Frag) (CB CN CA : Addr) : Sp := fun vs H Q E => ∃ (u v : V), vs = [u, v] ∧ TyOk K H u ∧ TyOk K H v ∧ (btwV 2 16 u = false → E (.ref CB) none H) ∧
  (∀ b, u = .int b → Bd b → btwV 0 (b - 1) v = false → E (.ref CN) none H) ∧
  (∀ b n, u = .int b → v = .int n → Bd b → 0 ≤ n → n < b → (∀ o, bk b n = some o → Q (.int (o : Nat)) H) ∧ (bk b n = none → E (.ref CA) none H))
theorem ok_bo {f c CB CN CA : Addr} {fd : FuncData} (D : DefIn K mg "back_of" s_back_of ["bound", "number"] f fd c) (D1 : X1.DfX P w K mg base 3 "check_bound" ["bound"] (sp_cbX K CB)) (D2 : X1.DfX P w K mg base 4 "check_number" ["bound", "number"] (sp_cnX K CN)) (D3 : Df P w K mg base 1 "find_back" ["bound", "number"] sp_fb) (R : X1.Rse K mg "Apart" CA) :
    X1.DfX P w K mg base 5 "back_of" ["bound", "number"] (sp_bo K CB CN CA) := by
  obtain ⟨f1, fd1, G1, k1, b1, g1⟩ := D1
  obtain ⟨f2, fd2, G2, k2, b2, g2⟩ := D2
  obtain ⟨f3, fd3, G3, k3, b3, g3⟩ := D3
  refine X1.dfX D (X1.FunC.okX D.fc sc_back_of (fun vs H Q E h => ?_) (fun A outer s H vs Q E hr h => ?_))
  · obtain ⟨u, v, rfl, _⟩ := h
    rfl
  · obtain ⟨u, v, rfl, tu, tv, q1, q2, q3⟩ := h
    refine ⟨_, pss_cons (ps_expr (pe_callS G1 (hr.mono (by decide)) (by rfl) g1 k1 b1 (fun σ => passAt (takes_of rfl rfl rfl rfl) σ) (pa_cons (pv 0) pa_nil)))
      (pss_cons (ps_expr (pe_callS G2 (hr.mono (by decide)) (by rfl) g2 k2 b2 (fun σ => passAt (takes_of rfl rfl rfl rfl) σ) (pa_cons (pv 0) (pa_cons (pv 1) pa_nil))))
      (pss_cons (ps_set (i := 2) sc_back_of.nd rfl (Or.inl rfl) (pe_call G3 (hr.mono (by decide)) (by rfl) g3 k3 b3 .nil pass0 (pa_cons (pv 0) (pa_cons (pv 1) pa_nil))))
      (pss_cons (ps_if (pt_cmp (pc_isN (pv 2))) (pss_one (ps_raise rfl (takes_of rfl rfl rfl rfl) (SkE.pmk_own1 PySem.F.excBase_ValueError R.q R.g R.k (raises_own R.b R.t) (by rfl)
          (pe_joined (.cons (pe_fmt (pv 1)) (.cons pe_str (.cons (pe_fmt (pv 0)) .nil))))))) pss_nil)
      (pss_one (ps_ret (pv 2)))))), ?_⟩
    refine ⟨u, rfl, u, rfl, tu, fun hb => ?_, q1⟩
    obtain ⟨b, rfl, hb0, hb1⟩ := btw_int hb
    have hb : Bd b := ⟨hb0, hb1⟩
    refine ⟨_, rfl, v, rfl, b, v, rfl, hb, tv, fun hn => ?_, q2 b rfl hb⟩
    obtain ⟨n, rfl, hn0, hn1⟩ := btw_int hn
    obtain ⟨q4, q5⟩ := q3 b n rfl rfl hb hn0 (by omega)
    refine ⟨_, rfl, _, rfl, b, n, rfl, hb, hn0, by omega, ?_⟩
    cases e : bk b n with
    | some o =>
      have e2 : bkV b n = .int (o : Int) := by unfold bkV; rw [e]
      rw [e2]
      refine ⟨_, rfl, _, rfl, iteF ⟨_, rfl, q4 o e⟩⟩
    | none =>
      have e2 : bkV b n = .non := by unfold bkV; rw [e]
      rw [e2]
      have l1 := log_small (n := n) (by omega) (by omega)
      have l2 := log_small (n := b) (by omega) (by omega)
      have s1 := short_int (n := n) (by omega) (by omega)
      have s2 := short_int (n := b) (by omega) (by omega)
      simp only [PyData.shown] at s1 s2
      refine ⟨_, rfl, _, rfl, iteT ⟨_, rfl, .inr ⟨n, rfl, by omega, _, rfl, ?_, _, rfl, ?_, _, rfl, .inr ⟨b, rfl, by omega, _, rfl, ?_, q5 e⟩⟩⟩⟩
      · exact jl0 (Nat.le_trans s1 (by decide))
      · exact jl (n := 16) (m := 100) (jl0 s1) (by decide) (by decide)
      · exact jl (n := 116) (m := 16) (jl (n := 16) (m := 100) (jl0 s1) (by decide) (Nat.le_refl _)) s2 (by decide)

/-! ### units -/
theorem sc_units : FnScope ["bound", "number"] ["bound"] (defScope s_units) := ⟨rfl, rfl, rfl, by decide +kernel, rfl, by decide +kernel, by decide +kernel⟩
def unitsL (b : Int) : List Int := ((List.range b.toNat).filter fun (n : Nat) => (bk b (n : Int)).isSome).map fun (n : Nat) => (n : Int)
def sp_un (K : PySem.W.Frag) (CB : Addr) : Sp := fun vs H Q E => ∃ (u : V), vs = [u] ∧ TyOk K H u ∧ (btwV 2 16 u = false → E (.ref CB) none H) ∧
  (∀ b, u = .int b → Bd b → ∀ H' p, Same H H' → H p = none → H' p = some (.lst ((unitsL b).map V.int)) → Q (.ref p) H')
theorem filt_take {p : Nat → Bool} {n i : Nat} (h : i < n) : ((List.range n).take (i + 1)).filter p = ((List.range n).take i).filter p ++ (if p i = true then [i] else []) := by
  rw [List.take_add_one, List.getElem?_range h, List.filter_append]
  congr 1
  simp [List.filter_cons]
theorem ok_un {f c CB : Addr} {fd : FuncData} (D : DefIn K mg "units" s_units ["bound"] f fd c) (D1 : X1.DfX P w K mg base 3 "check_bound" ["bound"] (sp_cbX K CB)) (D3 : Df P w K mg base 1 "find_back" ["bound", "number"] sp_fb) (Z : Blt mg) :
    X1.DfX P w K mg base 5 "units" ["bound"] (sp_un K CB) := by
  obtain ⟨f1, fd1, G1, k1, b1, g1⟩ := D1
  obtain ⟨f3, fd3, G3, k3, b3, g3⟩ := D3
  refine X1.dfX D (X1.FunC.okX D.fc sc_units (fun vs H Q E h => ?_) (fun A outer s H vs Q E hr h => ?_))
  · obtain ⟨u, rfl, _⟩ := h
    rfl
  · obtain ⟨u, rfl, tu, q1, q2⟩ := h
    refine ⟨_, pss_cons (ps_expr (pe_callS G1 (hr.mono (by decide)) (by rfl) g1 k1 b1 (fun σ => passAt (takes_of rfl rfl rfl rfl) σ) (pa_cons (pv 0) pa_nil)))
      (pss_one (ps_ret (pe_lc (own := [("number", 1)]) (g := gName 1) rfl sc_units.nd (pi_range1 (by rfl) Z.range (pa_cons (pv 0) pa_nil)) (blkOk_by (N := ["bound", "number"]) (sc := defScope s_units) (by decide +kernel))
        (fun _ _ _ _ _ => pg_name (i := 1) sc_units.nd rfl (Or.inl rfl)) (fun _ _ _ _ _ => pts_one (pt_cmp (pc_notN (pe_call G3 (hr.mono (by decide)) (by rfl) g3 k3 b3 .nil pass0 (pa_cons (pv 0) (pa_cons (pv 1) pa_nil)))))) (fun _ _ _ _ _ => pv 1)))), ?_⟩
    refine ⟨u, rfl, u, rfl, tu, fun hb => ?_, q1⟩
    obtain ⟨b, rfl, hb0, hb1⟩ := btw_int hb
    have hb : Bd b := ⟨hb0, hb1⟩
    refine ⟨_, rfl, b, rfl, by omega, by omega, fun L nL => ?_⟩
    refine lc_range (fun i H' => Same H H' ∧ H' L = some (.lst (((((List.range b.toNat).take i).filter fun (n : Nat) => (bk b (n : Int)).isSome).map fun (n : Nat) => (n : Int)).map V.int))) ⟨same_upd nL, upd_same⟩ (fun i H5 hi hP => ?_) (fun H5 hP => ?_)
    · obtain ⟨e5, hL5⟩ := hP
      refine ⟨rfl, ?_⟩
      refine ⟨_, rfl, _, rfl, b, 0 + (i : Int), rfl, hb, by omega, by omega, _, rfl, ?_⟩
      have ei : (0 : Int) + (i : Int) = (i : Int) := Int.zero_add _
      rw [ei]
      refine ite_b (fun hs => ?_) fun hs => ?_
      · have hs : (bk b (i : Int)).isSome = true := by
          unfold bkV at hs
          cases e : bk b (i : Int) with
          | some o => rfl
          | none => rw [e] at hs; exact absurd hs (by decide)
        refine ⟨_, rfl, _, hL5, ?_, fun bb o eb => ?_, ?_⟩
        · rw [List.length_map, List.length_map]
          have h1 : (((List.range b.toNat).take i).filter fun (n : Nat) => (bk b (n : Int)).isSome).length ≤ i := Nat.le_trans (List.length_filter_le _ _) (by rw [List.length_take]; omega)
          have : (16 : Nat) < sizeLine := by decide
          omega
        · rw [upd_ne (ne_of_none eb nL)]
          exact e5 _ _ eb
        · rw [upd_same, filt_take hi, if_pos hs, List.map_append, List.map_append]
          rfl
      · have hs : (bk b (i : Int)).isSome = false := by
          unfold bkV at hs
          cases e : bk b (i : Int) with
          | none => rfl
          | some o => rw [e] at hs; exact absurd hs (by simp)
        refine ⟨e5, ?_⟩
        rw [hL5, filt_take hi, if_neg (by rw [hs]; exact Bool.false_ne_true), List.append_nil]
    · obtain ⟨e5, hL5⟩ := hP
      have et : (List.range b.toNat).take b.toNat = List.range b.toNat := List.take_of_length_le (by simp)
      rw [et] at hL5
      exact q2 b rfl hb H5 L e5 nL hL5

end
end W

namespace W
open PySem PySem.Spec PyProof.Rows L2 B1
open L2H (RoomH PinOk cxH inv_startH roomH_of)
section
variable {P : Program} {w : World} {K : PySem.W.Frag} {mg : Str → Option Value} {base : Heap} {Ts : List Addr}
/-! ### _law_cell -/
theorem sc_cell : FnScope ["_law_script", "_law_k"] ["_law_script", "_law_k"] (defScope s_law_cell) := ⟨rfl, rfl, rfl, by decide +kernel, rfl, by decide +kernel, by decide +kernel⟩
def sp_cell (K : PySem.W.Frag) : Sp := fun vs H Q _ => ∃ (l : Addr) (ns : List Int) (j : Nat), vs = [.ref l, .int (j : Int)] ∧ SqL K H l (ns.map V.int) ∧ ∀ v : Int, (v = 0 ∨ v ∈ ns) → Q (.int v) H
theorem ok_cell {f c : Addr} {fd : FuncData} (D : DefIn K mg "_law_cell" s_law_cell ["_law_script", "_law_k"] f fd c) (Z : Blt mg) : Df P w K mg base 1 "_law_cell" ["_law_script", "_law_k"] (sp_cell K) := by
  have ml := Z.len
  refine D.df (D.fc.toFun.ok sc_cell (fun vs H Q E h => ?_) (fun cdv A outer s H vs Q E hr h => ?_))
  · obtain ⟨l, ns, j, rfl, _⟩ := h
    rfl
  · obtain ⟨l, ns, j, rfl, hq, q⟩ := h
    refine ⟨_, pss_cons (ps_if (pt_cmpR op_lt (pv 1) (pe_callB call_len_seq (by rfl) ml PySem.boot_len (pa_cons (pv 0) pa_nil)) (nomark _)) (pss_one (ps_ret (pe_ix ix_list (pv 0) (pv 1) (fun _ _ => rfl)))) pss_nil) (pss_one (ps_ret pe_int)), ?_⟩
    refine ⟨_, rfl, _, rfl, l, _, rfl, .inl hq, _, _, rfl, rfl, _, rfl, ?_⟩
    refine ite_b (fun hj => ?_) fun _ => ?_
    · have hj : j < ns.length := by
        have hj := of_decide_eq_true hj
        rw [List.length_map] at hj
        omega
      refine ⟨_, rfl, _, rfl, l, _, _, .int ns[j], rfl, rfl, hq, atI_nat (by rw [List.getElem?_map, List.getElem?_eq_getElem hj]; rfl), ?_⟩
      exact q _ (.inr (List.getElem_mem hj))
    · exact q 0 (.inl rfl)

/-! ### _law_pen -/
theorem sc_pen : FnScope ["_law_cell_here", "_law_left"] ["_law_cell_here"] (defScope s_law_pen) := ⟨rfl, rfl, rfl, by decide +kernel, rfl, by decide +kernel, by decide +kernel⟩
def sp_pen : Sp := fun vs H Q _ => ∃ c : Int, vs = [.int c] ∧ ∀ p l fl, H p = none → 0 ≤ l → Q (.ref p) (upd H p (.lst [.int l, .int fl]))
theorem ok_pen {f c : Addr} {fd : FuncData} (D : DefIn K mg "_law_pen" s_law_pen ["_law_cell_here"] f fd c) (Z : Blt mg) : Df P w K mg base 1 "_law_pen" ["_law_cell_here"] sp_pen := by
  have mm := Z.max
  have mi := Z.int
  refine D.df (D.fc.toFun.ok sc_pen (fun vs H Q E h => ?_) (fun cdv A outer s H vs Q E hr h => ?_))
  · obtain ⟨c, rfl, _⟩ := h
    rfl
  · obtain ⟨c, rfl, q⟩ := h
    refine ⟨_, pss_cons (ps_set (i := 1) sc_pen.nd rfl (Or.inl rfl) (pe_callB (call_max2 rfl) (by rfl) mm boot_max (pa_cons (pv 0) (pa_cons (pe_op op_sub pe_int (pv 0)) pa_nil))))
      (pss_one (ps_ret (pe_lst (pa_cons (pv 1) (pa_cons (pe_callTy call_int1 (by rfl) mi boot_int (pa_cons (pe_cmpR op_ge (pv 1) (pe_op op_pow pe_int pe_int) (nomark _)) pa_nil)) pa_nil))))), ?_⟩
    refine ⟨_, rfl, _, rfl, _, _, rfl, rfl, c, 0 - c, rfl, ?_⟩
    refine ⟨_, rfl, _, rfl, _, _, rfl, rfl, ⟨by decide, by decide, by decide⟩, _, _, rfl, rfl, .inr ⟨_, rfl, ?_⟩⟩
    refine ⟨by show 2 ≤ sizeLine; decide, fun p np => q p _ _ np ?_⟩
    split <;> omega

/-! ### _law_draw -/
theorem sc_draw : FnScope ["_law_pen_here", "_law_many", "_law_left", "_law_found", "_law_stir"] ["_law_pen_here", "_law_many"] (defScope s_law_draw) := ⟨rfl, rfl, rfl, by decide +kernel, rfl, by decide +kernel, by decide +kernel⟩
def sp_draw : Sp := fun vs H Q _ => ∃ (p : Addr) (m : Int), vs = [.ref p, .int m] ∧ Pen H p ∧ 1 ≤ m ∧ m < 1073741824 ∧ ∀ (r : Int) (H' : Hp), 0 ≤ r → r < m → ExB p H H' → Pen H' p → Q (.int r) H'
theorem ok_draw {f c : Addr} {fd : FuncData} (D : DefIn K mg "_law_draw" s_law_draw ["_law_pen_here", "_law_many"] f fd c) (Z : Blt mg) : Df P w K mg base 1 "_law_draw" ["_law_pen_here", "_law_many"] sp_draw := by
  have md := Z.divmod
  refine D.df (D.fc.toFun.ok sc_draw (fun vs H Q E h => ?_) (fun cdv A outer s H vs Q E hr h => ?_))
  · obtain ⟨p, m, rfl, _⟩ := h
    rfl
  · obtain ⟨p, m, rfl, ⟨l, fl, hp, hl⟩, hm1, hm2, q⟩ := h
    refine ⟨_, pss_cons (ps_if (pt_cmpR op_eq (pe_ix ix_list (pv 0) pe_int (fun _ _ => rfl)) pe_int (nomark _))
        (pss_cons (ps_asg (pe_callB call_divmod (by rfl) md boot_divmod (pa_cons (pe_ix ix_list (pv 0) pe_int (fun _ _ => rfl)) (pa_cons (pv 1) pa_nil)))
            (pg_tup rfl (pgs_cons (pg_name (i := 2) sc_draw.nd rfl (Or.inl rfl)) (pgs_cons (pg_name (i := 3) sc_draw.nd rfl (Or.inl rfl)) pgs_nil))))
          (pss_cons (ps_asg (pv 2) (pg_sub (pv 0) pe_int set_list)) (pss_one (ps_ret (pv 3))))) pss_nil)
      (pss_cons (ps_set (i := 4) sc_draw.nd rfl (Or.inl rfl) (pe_op op_mod (pe_op op_mul (pe_op op_add (pe_op op_mod (pe_ix ix_list (pv 0) pe_int (fun _ _ => rfl)) pe_int) pe_int) pe_int) pe_int))
      (pss_cons (ps_set (i := 4) sc_draw.nd rfl (Or.inl rfl) (pe_op op_mod (pe_op op_add (pe_op op_mul (pv 4) (pv 4)) pe_int) pe_int))
      (pss_cons (ps_asg (pe_op op_mod (pe_op op_add (pe_op op_mul (pv 4) pe_int) pe_int) pe_int) (pg_sub (pv 0) pe_int set_list))
      (pss_one (ps_ret (pe_op op_mod (pe_op op_fdiv (pe_ix ix_list (pv 0) pe_int (fun _ _ => rfl)) pe_int) (pv 1))))))), ?_⟩
    have hq : SqL K H p [.int l, .int fl] := SqL.of hp
    refine ⟨_, rfl, p, _, 1, .int fl, rfl, rfl, hq, atI_nat (j := 1) rfl, rfl, _, rfl, ?_⟩
    refine ite2 (fun h1 => ?_) fun h1 => ?_
    · refine ⟨_, rfl, p, _, 0, .int l, rfl, rfl, hq, atI_nat (j := 0) rfl, _, rfl, l, m, rfl, ⟨by omega, hm2⟩, fun t nt => ?_⟩
      have npt : p ≠ t := ne_of_none hp nt
      refine ⟨t, _, rfl, SqT.of upd_same, rfl, _, _, rfl, _, _, rfl, rfl, ?_⟩
      refine ⟨_, rfl, _, rfl, p, _, 0, 0, rfl, rfl, by rw [upd_ne npt]; exact hp, rfl, ?_⟩
      refine ⟨_, rfl, q _ _ (Int.emod_nonneg _ (by omega)) (Int.emod_lt_of_pos _ (by omega)) (fun b o nb e => ?_) ⟨l / m, fl, upd_same, Int.ediv_nonneg hl (by omega)⟩⟩
      rw [upd_ne nb, upd_ne (ne_of_none e nt)]
      exact e
    · refine ⟨_, rfl, p, _, 0, .int l, rfl, rfl, hq, atI_nat (j := 0) rfl, _, _, rfl, rfl, (by show (0 : Int) < 2147483647; decide), _, _, rfl, rfl, _, _, rfl, rfl, .inr ⟨by decide, by decide⟩, _, _, rfl, rfl, (by show (0 : Int) < 2147483629; decide), ?_⟩
      have h69 : ∀ x : Int, 0 ≤ x % 2147483629 ∧ x % 2147483629 < 2147483629 := fun x => ⟨Int.emod_nonneg _ (by decide), Int.emod_lt_of_pos _ (by decide)⟩
      have h87 : ∀ x : Int, 0 ≤ x % 2147483587 ∧ x % 2147483587 < 2147483587 := fun x => ⟨Int.emod_nonneg _ (by decide), Int.emod_lt_of_pos _ (by decide)⟩
      refine ⟨_, rfl, _, rfl, _, _, rfl, rfl, .inl ⟨by have := (h69 ((l % 2147483647 + 40503) * 69621)).1; omega, by have := (h69 ((l % 2147483647 + 40503) * 69621)).2; omega⟩, _, _, rfl, rfl, _, _, rfl, rfl, (by show (0 : Int) < 2147483587; decide), ?_⟩
      refine ⟨_, rfl, _, _, rfl, rfl, .inr ⟨by decide, by decide⟩, _, _, rfl, rfl, _, _, rfl, rfl, (by show (0 : Int) < 2147483629; decide), ?_⟩
      refine ⟨_, rfl, p, _, 0, 0, rfl, rfl, hp, rfl, ?_⟩
      refine ⟨_, rfl, p, _, 0, _, rfl, rfl, SqL.of upd_same, atI_nat (j := 0) rfl, _, _, rfl, rfl, ⟨by decide, by decide⟩, _, rfl, _, m, rfl, rfl, by omega, ?_⟩
      exact q _ _ (Int.emod_nonneg _ (by omega)) (Int.emod_lt_of_pos _ (by omega)) (fun b o nb e => by rw [upd_ne nb]; exact e) ⟨_, fl, upd_same, (h69 _).1⟩

/-! ### _law_same -/
theorem sc_same : FnScope ["_law_found", "_law_due"] ["_law_found", "_law_due"] (defScope s_law_same) := ⟨rfl, rfl, rfl, by decide +kernel, rfl, by decide +kernel, by decide +kernel⟩
def sp_same (K : PySem.W.Frag) : Sp := fun vs H Q _ => ∃ (v u : V) (d : PyData), vs = [v, u] ∧ Dp K H v d ∧ Dp K H u d ∧ Sm d ∧ Q (.bl true) H
theorem ok_same {f c : Addr} {fd : FuncData} (D : DefIn K mg "_law_same" s_law_same ["_law_found", "_law_due"] f fd c) (Z : Blt mg) : DfG P w K mg base 1 "_law_same" ["_law_found", "_law_due"] (sp_same K) := by
  have mr := Z.repr
  refine D.dfG (D.fc.okG sc_same (fun vs H Q E h => ?_) (fun A outer s H vs Q E hgd hr h => ?_))
  · obtain ⟨v, u, d, rfl, _⟩ := h
    rfl
  · obtain ⟨v, u, d, rfl, h1, h2, sm, q⟩ := h
    refine ⟨_, pss_one (ps_ret (pe_cmpR op_eq (pe_callB (call_reprG hgd hr) (by rfl) mr boot_repr (pa_cons (pv 0) pa_nil)) (pe_callB (call_reprG hgd hr) (by rfl) mr boot_repr (pa_cons (pv 1) pa_nil)) (nomark _))), ?_⟩
    refine ⟨v, rfl, v, d, rfl, h1, sm, u, rfl, u, d, rfl, h2, sm, rfl, ?_⟩
    rw [decide_eq_true rfl]
    exact q

/-! ### _law_bound -/
theorem sc_bound : FnScope ["_law_pen_here"] ["_law_pen_here"] (defScope s_law_bound) := ⟨rfl, rfl, rfl, by decide +kernel, rfl, by decide +kernel, by decide +kernel⟩
def sp_bound : Sp := fun vs H Q _ => ∃ p, vs = [.ref p] ∧ Pen H p ∧ ∀ (b : Int) (H' : Hp), Bd b → ExB p H H' → Pen H' p → Q (.int b) H'
theorem bounds_at (i : Nat) (h : i < 16) : ∃ b : Int, (([2, 3, 4, 5, 6, 7, 8, 9, 10, 12, 16, 14, 15, 4, 13, 11] : List Int).map V.int)[i]? = some (.int b) ∧ Bd b := by
  have hl : i < ([2, 3, 4, 5, 6, 7, 8, 9, 10, 12, 16, 14, 15, 4, 13, 11] : List Int).length := h
  have all : ∀ x ∈ ([2, 3, 4, 5, 6, 7, 8, 9, 10, 12, 16, 14, 15, 4, 13, 11] : List Int), 2 ≤ x ∧ x ≤ 16 := by decide
  exact ⟨_, by rw [List.getElem?_map, List.getElem?_eq_getElem hl]; rfl, all _ (List.getElem_mem hl)⟩
theorem ok_bound {f c : Addr} {fd : FuncData} (D : DefIn K mg "_law_bound" s_law_bound ["_law_pen_here"] f fd c) (D1 : Df P w K mg base 1 "_law_draw" ["_law_pen_here", "_law_many"] sp_draw) : Df P w K mg base 2 "_law_bound" ["_law_pen_here"] sp_bound := by
  obtain ⟨f1, fd1, G1, k1, b1, g1⟩ := D1
  refine D.df (D.fc.toFun.ok sc_bound (fun vs H Q E h => ?_) (fun cdv A outer s H vs Q E hr h => ?_))
  · obtain ⟨p, rfl, _⟩ := h
    rfl
  · obtain ⟨p, rfl, hp, q⟩ := h
    refine ⟨_, pss_one (ps_ret (pe_ix ix_list (pe_lst (pa_cons pe_int (pa_cons pe_int (pa_cons pe_int (pa_cons pe_int (pa_cons pe_int (pa_cons pe_int (pa_cons pe_int (pa_cons pe_int (pa_cons pe_int (pa_cons pe_int (pa_cons pe_int (pa_cons pe_int (pa_cons pe_int (pa_cons pe_int (pa_cons pe_int (pa_cons pe_int pa_nil)))))))))))))))))
      (pe_call G1 hr (by rfl) g1 k1 b1 .nil pass0 (pa_cons (pv 0) (pa_cons pe_int pa_nil))) (fun _ _ => rfl))), ?_⟩
    refine ⟨by show 16 ≤ sizeLine; decide, fun t nt => ?_⟩
    refine ⟨_, rfl, p, 16, rfl, pen_upd hp nt, by decide, by decide, fun r H' h0 h1 e1 hp1 => ?_⟩
    obtain ⟨b, eb, hb⟩ := bounds_at r.toNat (by omega)
    have hr' : r = (r.toNat : Int) := by omega
    refine ⟨t, _, r, .int b, rfl, rfl, SqL.of (e1 t _ (hp.ne nt).symm upd_same), at_of hr' eb, ?_⟩
    exact q b H' hb ((exb_upd nt).trans e1) hp1

/-! ### _law_said -/
theorem pe_imp {X : Cx} {e : Expr} {t t' : TE} (h : PE X e t) (i : ∀ σ H Q, t' σ H Q → t σ H Q) : PE X e t' := ⟨fun pins s σ H Q I q => h.run pins s σ H Q I (i σ H Q q)⟩
theorem sc_said : FnScope ["_law_call", "_law_found", "_law_e", "_law_word"] ["_law_call"] (defScope s_law_said) := ⟨rfl, rfl, rfl, by decide +kernel, rfl, by decide +kernel, by decide +kernel⟩
/-- the answer, or the word of the refusal -/
def TSaid (K : PySem.W.Frag) (c : Nat → Addr) (CO : Addr) : (XK → Hp → VK → Prop) → Hp → VK → Prop := fun tl H Q =>
  tl (fun cls d H' => ∃ (D : Addr) (j : Nat), cls = .ref D ∧ d = none ∧ Kind K c D j ∧ j < 8 ∧ PySem.W.exmOne K (.ref D) (.ref CO) = some true ∧ ∀ H'' t, Same H' H'' → H'' t = some (.tup [.str (wordAt j)]) → Q (.ref t) H'') H
    (fun v H' => ∃ u, (some (some v) : Option (Option V)) = some (some u) ∧ [V.str "told", u].length ≤ sizeLine ∧ ∀ t, H' t = none → Q (.ref t) (upd H' t (.tup [.str "told", u])))
theorem words_few : ∀ j, j < 8 → ((V.str (wordAt j)) = .str "great") = False ∧ inV (.str (wordAt j)) [.str "list", .str "text"] = false := by
  intro j hj
  have : ∀ j, j < 8 → wordAt j ≠ "great" ∧ wordAt j ≠ "list" ∧ wordAt j ≠ "text" := by decide +kernel
  obtain ⟨h1, h2, h3⟩ := this j hj
  refine ⟨by simpa using h1, ?_⟩
  simp [inV, eqV, h2.symm, h3.symm]
theorem said_gives {X : Cx} {f cc fk ck CO : Addr} {fdk : FuncData} {c : Nat → Addr} {q : Str} (hr : Room 3 X.A) (Dk : DefIn X.K X.mg "_law_kind" s_law_kind ["_law_e"] fk fdk ck) (C : Clss X.mg c) (Z : Blt X.mg) (hO : X.mg "OnceError" = some (.ref CO)) :
    LamX.GivesTo X ["_law_call", "_law_found", "_law_e", "_law_word"] "_law_said" (defScope s_law_said) f (.ref cc) (defBody s_law_said) "_law_call" q (TSaid X.K c CO) := by
  intro fl c' s H Q tl act hc h
  have hgl : Gl (cxOf C8.CX0 X.prog X.w X.K X.mg X.base ["_law_call", "_law_found", "_law_e", "_law_word"] "_law_said" (defScope s_law_said) f (.ref cc) X.A X.stack s H C8.E0).nox "OnceError" := by rfl
  refine ⟨_, pss_cons (ps_try_as (X := (cxOf C8.CX0 X.prog X.w X.K X.mg X.base ["_law_call", "_law_found", "_law_e", "_law_word"] "_law_said" (defScope s_law_said) f (.ref cc) X.A X.stack s H C8.E0).nox) (c := .ref CO) (i := 2)
      (tb := fun W D σ H => ∃ Ech : XK, (∀ cls d σ' H', Ech cls d H' → σ'.length = 4 → W cls d σ' H') ∧ σ[0]? = some (some (.ref fl)) ∧ H c' = some (LamX.CodeO c' q) ∧ tl Ech H (fun v H' => D.nx (σ.set 1 (some v)) H'))
      (ts := fun a cls d => tSeq (tAsg (fun σ H Q => ∃ v, σ[2]? = some (some v) ∧ v = .ref a ∧ ∃ (D : Addr) (j : Nat), cls = .ref D ∧ d = none ∧ Kind X.K c D j ∧ ∀ H', Same H H' → Q (.str (wordAt j)) H') (gName 3)) (tSeq (tIfS (tTest (tOp (rIn X.K false) (tVar 3) (tTup (tCons (tC (.str "list")) (tCons (tC (.str "text")) tNil))))) tNever tNext) (tSeq (tIfS (tTest (tOp rEq (tVar 3) (tC (.str "great")))) tNever tNext) (tRet (tTup (tCons (tVar 3) tNil))))))
      rfl rfl sc_said.nd rfl rfl ⟨hgl, by decide, .inl hO⟩ takes0 (fun W pn xe tk _ => ?_)
      (fun a oe cls d pn hz hf => pss_cons (ps_set (i := 3) sc_said.nd rfl (Or.inl rfl) (pe_imp (X1.pe_callK (p := (a, oe)) (ok_kind Dk C Z) ?_ List.mem_cons_self (by rfl) Dk.g Dk.fc.kp Dk.b (pa_cons (pv 2) pa_nil)) ?_))
        (pss_cons (ps_if (pt_cmpR op_in_seq (pv 3) (pe_tup (pa_cons pe_str (pa_cons pe_str pa_nil))) (by rfl)) pss_never pss_nil)
        (pss_cons (ps_if (pt_cmpR op_eq (pv 3) pe_str (nomark _)) pss_never pss_nil)
        (pss_one (ps_ret (pe_tup (pa_cons (pv 3) pa_nil))))))))
    (pss_one (ps_ret (pe_tup (pa_cons pe_str (pa_cons (pv 1) pa_nil))))), ?_⟩
  · refine ⟨fun pins s' σ H' D I h' => ?_⟩
    obtain ⟨Ech, hW, h1, h2, h3⟩ := h'
    exact (pss_one (ps_set (i := 1) sc_said.nd rfl (Or.inl rfl) (act (fun cls d σ H => σ.length = 4 → W cls d σ H) pn xe Ech _ _ (X1.takes_len tk) hW))).run pins s' σ H' D I ⟨h1, h2, h3⟩
  · have h1 := hr.dp
    have h2 := hr.un
    refine ⟨?_, ?_⟩
    · show X.A.depth + 1 + 3 * 1 + 5 < recursionLimit
      omega
    · show X.A.units + 3 + 16 * 1 + 200 < cLine
      omega
  · rintro σ H1 Q1 ⟨v, hv, rfl, D, j, rfl, rfl, kd, hq⟩
    exact ⟨_, hv, D, j, rfl, hz, hf, kd, hq⟩
  · refine ⟨fun cls d H' => ∃ (D : Addr) (j : Nat), cls = .ref D ∧ d = none ∧ Kind X.K c D j ∧ j < 8 ∧ PySem.W.exmOne X.K (.ref D) (.ref CO) = some true ∧ ∀ H'' t, Same H' H'' → H'' t = some (.tup [.str (wordAt j)]) → Q (.ref t) H'', ?_, rfl, hc, ?_⟩
    · rintro cls d σ' H' ⟨D, j, rfl, rfl, kd, hj, hx, hq⟩ hl
      refine ⟨true, hx, fun _ a na => ?_, fun z => by cases z⟩
      match σ', hl with
      | [x0, x1, x2, x3], _ =>
        refine ⟨_, rfl, rfl, D, j, rfl, rfl, kd, fun H1 s1 => ?_⟩
        refine ⟨_, rfl, by show 2 ≤ sizeLine; decide, fun t nt => ⟨t, _, rfl, .inr (SqT.of upd_same), rfl, rfl, _, rfl, ?_⟩⟩
        obtain ⟨w1, w2⟩ := words_few j hj
        show (if (if false = true then !inV (.str (wordAt j)) [.str "list", .str "text"] else inV (.str (wordAt j)) [.str "list", .str "text"]) = true then _ else _)
        rw [if_neg Bool.false_ne_true, w2]
        refine iteF ?_
        refine ⟨_, rfl, rfl, _, rfl, ?_⟩
        rw [decide_eq_false (by rw [w1]; exact id)]
        refine iteF ?_
        refine ⟨_, rfl, by show 1 ≤ sizeLine; decide, fun t2 nt2 => ?_⟩
        exact hq _ t2 (s1.trans ((same_upd nt).trans (same_upd nt2))) upd_same
    · exact h

/-! ### menus of odd things -/
theorem ExB.ty {K : PySem.W.Frag} {p : Addr} {H H' : Hp} {v : V} (e : ExB p H H') (hp : Pen H p) (hp' : Pen H' p) (h : TyOk K H v) : TyOk K H' v := by
  obtain ⟨t, ht, hk⟩ := h
  refine ⟨t, ?_, hk⟩
  obtain ⟨l, fl, ep, _⟩ := hp
  obtain ⟨l', fl', ep', _⟩ := hp'
  cases ht with
  | base b =>
    cases b with
    | non => exact .base .non
    | bl x => exact .base (.bl x)
    | int i => exact .base (.int i)
    | str x => exact .base (.str x)
    | flt x => exact .base (.flt x)
    | lst q =>
      rename_i a xs
      by_cases z : a = p
      · subst z; exact .base (.lst ep')
      · exact .base (.lst (e _ _ z q))
    | frz q => exact .base (.frz (e _ _ (fun z => by rw [z, ep] at q; cases q) q))
    | tup q => exact .base (.tup (e _ _ (fun z => by rw [z, ep] at q; cases q) q))
    | dK q => exact .base (.dK (e _ _ (fun z => by rw [z, ep] at q; cases q) q))
    | dT q => exact .base (.dT (e _ _ (fun z => by rw [z, ep] at q; cases q) q))
  | byt b => exact .byt b
  | set q => exact .set (e _ _ (fun z => by rw [z, ep] at q; cases q) q)
  | kList q c => exact .kList q c
  | kTuple q c => exact .kTuple q c
  | kDict q c => exact .kDict q c
  | fTuple q => exact .fTuple (e _ _ (fun z => by rw [z, ep] at q; cases q) q)
  | fDict q => exact .fDict (e _ _ (fun z => by rw [z, ep] at q; cases q) q)
theorem menu_at {zs : List V} {C : V → Prop} (h : ∀ v ∈ zs, C v) {r : Int} (h0 : 0 ≤ r) (h1 : r < (zs.length : Int)) : ∃ v, zs[r.toNat]? = some v ∧ C v := by
  have hl : r.toNat < zs.length := by omega
  exact ⟨_, List.getElem?_eq_getElem hl, h _ (List.getElem_mem hl)⟩
theorem ty_non {K : PySem.W.Frag} {H : Hp} : TyOk K H .non := ⟨"NoneType", .base .non, by decide⟩
theorem ty_bl {K : PySem.W.Frag} {H : Hp} (b : Bool) : TyOk K H (.bl b) := ⟨"bool", .base (.bl b), by decide⟩
theorem ty_str {K : PySem.W.Frag} {H : Hp} (x : Str) : TyOk K H (.str x) := ⟨"str", .base (.str x), by decide⟩
theorem ty_tup {K : PySem.W.Frag} {H : Hp} {a : Addr} {xs : List V} (h : H a = some (.tup xs)) : TyOk K H (.ref a) := ⟨"tuple", .base (.tup h), by decide⟩
theorem ty_lst {K : PySem.W.Frag} {H : Hp} {a : Addr} {xs : List V} (h : H a = some (.lst xs)) : TyOk K H (.ref a) := ⟨"list", .base (.lst h), by decide⟩
theorem ty_dK {K : PySem.W.Frag} {H : Hp} {a : Addr} {xs : List (Key × V)} (h : H a = some (.dK xs)) : TyOk K H (.ref a) := ⟨"dict", .base (.dK h), by decide⟩
theorem upd_upd {H : Hp} {t : Addr} {a b : HO} : upd (upd H t a) t b = upd H t b := by
  funext c
  by_cases z : c = t
  · rw [z, upd_same, upd_same]
  · rw [upd_ne z, upd_ne z, upd_ne z]

/-! ### _law_no_bound -/
theorem sc_nob : FnScope ["_law_pen_here", "_law_some"] ["_law_pen_here"] (defScope s_law_no_bound) := ⟨rfl, rfl, rfl, by decide +kernel, rfl, by decide +kernel, by decide +kernel⟩
def sp_nob (K : PySem.W.Frag) : Sp := fun vs H Q _ => ∃ p, vs = [.ref p] ∧ Pen H p ∧ ∀ (v : V) (H' : Hp), TyOk K H' v → btwV 2 16 v = false → ExB p H H' → Pen H' p → Q v H'
theorem ok_nob {f c : Addr} {fd : FuncData} (D : DefIn K mg "_law_no_bound" s_law_no_bound ["_law_pen_here"] f fd c) (D1 : Df P w K mg base 1 "_law_draw" ["_law_pen_here", "_law_many"] sp_draw) : Df P w K mg base 2 "_law_no_bound" ["_law_pen_here"] (sp_nob K) := by
  obtain ⟨f1, fd1, G1, k1, b1, g1⟩ := D1
  refine D.df (D.fc.toFun.ok sc_nob (fun vs H Q E h => ?_) (fun cdv A outer s H vs Q E hr h => ?_))
  · obtain ⟨p, rfl, _⟩ := h
    rfl
  · obtain ⟨p, rfl, hp, q⟩ := h
    refine ⟨_, pss_cons (ps_set (i := 1) sc_nob.nd rfl (Or.inl rfl) (pe_lst (pa_cons pe_int (pa_cons pe_int (pa_cons pe_int (pa_cons (pe_un un_neg pe_int) (pa_cons pe_non (pa_cons pe_bl (pa_cons pe_str (pa_cons (pe_tup (pa_cons pe_int pa_nil)) (pa_cons (pe_lst (pa_cons pe_int pa_nil)) (pa_cons (pe_op op_pow pe_int pe_int) (pa_cons pe_bl (pa_cons (pe_disp (pps_cons pe_str pe_int pps_nil) rfl rfl (by simp) (by decide)) pa_nil))))))))))))))
      (pss_one (ps_ret (pe_ix ix_list (pv 1) (pe_call G1 hr (by rfl) g1 k1 b1 .nil pass0 (pa_cons (pv 0) (pa_cons pe_int pa_nil))) (fun _ _ => rfl)))), ?_⟩
    refine ⟨_, rfl, by show 1 ≤ sizeLine; decide, fun t1 n1 => ⟨by show 1 ≤ sizeLine; decide, fun t2 n2 => ⟨_, _, rfl, rfl, ⟨by decide, by decide, by decide⟩, fun t3 n3 => ⟨upd_same, [(.inr "a", .int 1)], rfl, by decide, by show 12 ≤ sizeLine; decide, fun l nl => ?_⟩⟩⟩⟩
    have p1 := pen_upd (o := .tup [.int 5]) hp n1
    have p2 := pen_upd (o := .lst [.int 5]) p1 n2
    have p3 := pen_upd (o := .dK (mergeK [] [(.inr "a", .int 1)])) p2 n3
    have e1 := same_upd (o := .tup [.int 5]) n1
    have e2 := same_upd (o := .lst [.int 5]) n2
    have e3 := same_upd (o := .dK (mergeK [] [(.inr "a", .int 1)])) n3
    rw [upd_upd] at nl
    have e4 := same_upd (o := .lst [.int 1, .int 0, .int 17, .int (-1), .non, .bl true, .str "5", .ref t1, .ref t2, .int (10 ^ 30), .bl false, .ref t3]) nl
    have p4 := pen_upd (o := .lst [.int 1, .int 0, .int 17, .int (-1), .non, .bl true, .str "5", .ref t1, .ref t2, .int (10 ^ 30), .bl false, .ref t3]) p3 nl
    have h1 := (e2.trans (e3.trans e4)) _ _ (upd_same (H := H) (a := t1))
    have h2 := (e3.trans e4) _ _ (upd_same (H := upd H t1 (.tup [.int 5])) (a := t2))
    have h3 := e4 _ _ (upd_same (H := upd (upd H t1 (.tup [.int 5])) t2 (.lst [.int 5])) (a := t3))
    have hE : ExB p H _ := fun b o _ e => (e1.trans (e2.trans (e3.trans e4))) b o e
    have hl : upd (upd (upd (upd H t1 (.tup [.int 5])) t2 (.lst [.int 5])) t3 (.dK (mergeK [] [(.inr "a", .int 1)]))) l (.lst [.int 1, .int 0, .int 17, .int (-1), .non, .bl true, .str "5", .ref t1, .ref t2, .int (10 ^ 30), .bl false, .ref t3]) l = some (.lst [.int 1, .int 0, .int 17, .int (-1), .non, .bl true, .str "5", .ref t1, .ref t2, .int (10 ^ 30), .bl false, .ref t3]) := upd_same
    have npl : l ≠ p := (p3.ne nl).symm
    rw [upd_upd]
    change tSeq _ _ _ [some (.ref p), some (.ref l)] (upd (upd (upd (upd H t1 (.tup [.int 5])) t2 (.lst [.int 5])) t3 (.dK (mergeK [] [(.inr "a", .int 1)]))) l (.lst [.int 1, .int 0, .int 17, .int (-1), .non, .bl true, .str "5", .ref t1, .ref t2, .int (10 ^ 30), .bl false, .ref t3]))
    generalize upd (upd (upd (upd H t1 (.tup [.int 5])) t2 (.lst [.int 5])) t3 (.dK (mergeK [] [(.inr "a", .int 1)]))) l (.lst [.int 1, .int 0, .int 17, .int (-1), .non, .bl true, .str "5", .ref t1, .ref t2, .int (10 ^ 30), .bl false, .ref t3]) = H5 at p4 h1 h2 h3 hE hl
    refine ⟨_, rfl, _, rfl, p, 12, rfl, p4, by decide, by decide, fun r H' h0 hr1 ee hp1 => ?_⟩
    have good : ∀ v ∈ ([.int 1, .int 0, .int 17, .int (-1), .non, .bl true, .str "5", .ref t1, .ref t2, .int (10 ^ 30), .bl false, .ref t3] : List V), TyOk K H5 v ∧ btwV 2 16 v = false := fun v hv => by
      simp only [List.mem_cons, List.not_mem_nil, or_false] at hv
      rcases hv with rfl | rfl | rfl | rfl | rfl | rfl | rfl | rfl | rfl | rfl | rfl | rfl
      · exact ⟨ty_int _, by decide⟩
      · exact ⟨ty_int _, by decide⟩
      · exact ⟨ty_int _, by decide⟩
      · exact ⟨ty_int _, by decide⟩
      · exact ⟨ty_non, rfl⟩
      · exact ⟨ty_bl _, rfl⟩
      · exact ⟨ty_str _, rfl⟩
      · exact ⟨ty_tup h1, rfl⟩
      · exact ⟨ty_lst h2, rfl⟩
      · exact ⟨ty_int _, by decide⟩
      · exact ⟨ty_bl _, rfl⟩
      · exact ⟨ty_dK h3, rfl⟩
    obtain ⟨v, ev, hv1, hv2⟩ := menu_at good h0 hr1
    refine ⟨l, _, r, v, rfl, rfl, SqL.of (ee l _ npl hl), at_of (by omega) ev, ?_⟩
    exact q v H' (ee.ty p4 hp1 hv1) hv2 (hE.trans ee) hp1

/-! ### _law_no_number -/
theorem sc_non : FnScope ["_law_pen_here", "_law_bound_here"] ["_law_pen_here", "_law_bound_here"] (defScope s_law_no_number) := ⟨rfl, rfl, rfl, by decide +kernel, rfl, by decide +kernel, by decide +kernel⟩
def sp_non (K : PySem.W.Frag) : Sp := fun vs H Q _ => ∃ p b, vs = [.ref p, .int b] ∧ Bd b ∧ Pen H p ∧ ∀ (v : V) (H' : Hp), TyOk K H' v → btwV 0 (b - 1) v = false → ExB p H H' → Pen H' p → Q v H'
theorem ok_non {f c : Addr} {fd : FuncData} (D : DefIn K mg "_law_no_number" s_law_no_number ["_law_pen_here", "_law_bound_here"] f fd c) (D1 : Df P w K mg base 1 "_law_draw" ["_law_pen_here", "_law_many"] sp_draw) : Df P w K mg base 2 "_law_no_number" ["_law_pen_here", "_law_bound_here"] (sp_non K) := by
  obtain ⟨f1, fd1, G1, k1, b1, g1⟩ := D1
  refine D.df (D.fc.toFun.ok sc_non (fun vs H Q E h => ?_) (fun cdv A outer s H vs Q E hr h => ?_))
  · obtain ⟨p, b, rfl, _⟩ := h
    rfl
  · obtain ⟨p, b, rfl, hb, hp, q⟩ := h
    have hb0 := hb.1
    have hb1 := hb.2
    refine ⟨_, pss_one (ps_ret (pe_ix ix_list (pe_lst (pa_cons (pv 1) (pa_cons (pe_un un_neg pe_int) (pa_cons pe_non (pa_cons pe_bl (pa_cons pe_str (pa_cons (pe_tup (pa_cons pe_int pa_nil)) (pa_cons (pe_op op_pow pe_int pe_int) (pa_cons (pe_lst (pa_cons pe_int pa_nil)) (pa_cons pe_bl (pa_cons (pe_op op_add (pv 1) pe_int) pa_nil)))))))))))
       (pe_call G1 hr (by rfl) g1 k1 b1 .nil pass0 (pa_cons (pv 0) (pa_cons pe_int pa_nil))) (fun _ _ => rfl))), ?_⟩
    refine ⟨_, rfl, _, rfl, by show 1 ≤ sizeLine; decide, fun t1 n1 => ⟨_, _, rfl, rfl, ⟨by decide, by decide, by decide⟩, by show 1 ≤ sizeLine; decide, fun t2 n2 => ⟨_, rfl, _, _, rfl, rfl, by show 10 ≤ sizeLine; decide, fun l nl => ?_⟩⟩⟩
    have p1 := pen_upd (o := .tup [.int 0]) hp n1
    have p2 := pen_upd (o := .lst [.int 0]) p1 n2
    have e1 := same_upd (o := .tup [.int 0]) n1
    have e2 := same_upd (o := .lst [.int 0]) n2
    have e4 := same_upd (o := .lst [.int b, .int (-1), .non, .bl true, .str "0", .ref t1, .int (10 ^ 30), .ref t2, .bl false, .int (b + 3)]) nl
    have p4 := pen_upd (o := .lst [.int b, .int (-1), .non, .bl true, .str "0", .ref t1, .int (10 ^ 30), .ref t2, .bl false, .int (b + 3)]) p2 nl
    have h1 := (e2.trans e4) _ _ (upd_same (H := H) (a := t1))
    have h2 := e4 _ _ (upd_same (H := upd H t1 (.tup [.int 0])) (a := t2))
    have hE : ExB p H _ := fun b o _ e => (e1.trans (e2.trans e4)) b o e
    have hl : upd (upd (upd H t1 (.tup [.int 0])) t2 (.lst [.int 0])) l (.lst [.int b, .int (-1), .non, .bl true, .str "0", .ref t1, .int (10 ^ 30), .ref t2, .bl false, .int (b + 3)]) l = some (.lst [.int b, .int (-1), .non, .bl true, .str "0", .ref t1, .int (10 ^ 30), .ref t2, .bl false, .int (b + 3)]) := upd_same
    have npl : l ≠ p := (p2.ne nl).symm
    refine ⟨_, rfl, p, 10, rfl, p4, by decide, by decide, fun r H' h0 hr1 ee hp1 => ?_⟩
    have good : ∀ v ∈ ([.int b, .int (-1), .non, .bl true, .str "0", .ref t1, .int (10 ^ 30), .ref t2, .bl false, .int (b + 3)] : List V), TyOk K (upd (upd (upd H t1 (.tup [.int 0])) t2 (.lst [.int 0])) l (.lst [.int b, .int (-1), .non, .bl true, .str "0", .ref t1, .int (10 ^ 30), .ref t2, .bl false, .int (b + 3)])) v ∧ btwV 0 (b - 1) v = false := fun v hv => by
      simp only [List.mem_cons, List.not_mem_nil, or_false] at hv
      rcases hv with rfl | rfl | rfl | rfl | rfl | rfl | rfl | rfl | rfl | rfl
      · exact ⟨ty_int _, by simp only [btwV, Bool.and_eq_false_iff, decide_eq_false_iff_not]; omega⟩
      · exact ⟨ty_int _, by simp only [btwV, Bool.and_eq_false_iff, decide_eq_false_iff_not]; omega⟩
      · exact ⟨ty_non, rfl⟩
      · exact ⟨ty_bl _, rfl⟩
      · exact ⟨ty_str _, rfl⟩
      · exact ⟨ty_tup h1, rfl⟩
      · exact ⟨ty_int _, by simp only [btwV, Bool.and_eq_false_iff, decide_eq_false_iff_not]; omega⟩
      · exact ⟨ty_lst h2, rfl⟩
      · exact ⟨ty_bl _, rfl⟩
      · exact ⟨ty_int _, by simp only [btwV, Bool.and_eq_false_iff, decide_eq_false_iff_not]; omega⟩
    obtain ⟨v, ev, hv1, hv2⟩ := menu_at good h0 hr1
    refine ⟨l, _, r, v, rfl, rfl, SqL.of (ee l _ npl hl), at_of (by omega) ev, ?_⟩
    exact q v H' (ee.ty p4 hp1 hv1) hv2 (hE.trans ee) hp1

/-! ### how much is shown -/
structure Sz (d : PyData) (m n : Nat) : Prop where
  sh : d.showable = true
  nd : d.hasDict = false
  dp : d.depth ≤ m
  ls : d.leavesShort 16 = true
  wt : d.weight ≤ n
theorem Sz.sm {d : PyData} {m n : Nat} (h : Sz d m n) (hm : m ≤ 30) (hn : n ≤ 500000) : Sm d := by
  refine ⟨h.sh, h.nd, Nat.le_trans h.dp hm, ?_⟩
  have h1 := PyData.shown_le 16 (by decide) d h.ls
  have h2 := h.wt
  have e : sizeLine = 16777216 := by decide
  omega
theorem Sz.mono {d : PyData} {m n m' n' : Nat} (h : Sz d m n) (hm : m ≤ m') (hn : n ≤ n') : Sz d m' n' := ⟨h.sh, h.nd, Nat.le_trans h.dp hm, h.ls, Nat.le_trans h.wt hn⟩
theorem sz_int {n : Int} (h0 : 0 ≤ n) (h1 : n < 10 ^ 15) : Sz (.int n) 0 51 := by
  have h2 := log_small h0 h1
  refine ⟨by simp only [PyData.showable, decide_eq_true_eq]; omega, rfl, Nat.le_refl _, by simp only [PyData.leavesShort, decide_eq_true_eq]; exact short_int h0 h1, ?_⟩
  simp only [PyData.weight]
  split <;> omega
theorem sz_none : Sz .none 0 0 := ⟨rfl, rfl, Nat.le_refl _, rfl, Nat.le_refl _⟩
theorem sz_bool (b : Bool) : Sz (.bool b) 0 0 := ⟨rfl, rfl, Nat.le_refl _, rfl, Nat.le_refl _⟩
theorem sz_tints {ns : List Int} (h : ∀ n ∈ ns, 0 ≤ n ∧ n < 10 ^ 15) : Sz (.tuple (ns.map PyData.int)) 1 (52 * ns.length) :=
  ⟨by simp only [PyData.showable]; exact show_ints h, by simp only [PyData.hasDict]; exact dict_ints ns, by simp only [PyData.depth, depth_ints]; exact Nat.le_refl _, by simp only [PyData.leavesShort]; exact short_ints h, by simp only [PyData.weight]; exact weight_ints h⟩
theorem sz_lints {ns : List Int} (h : ∀ n ∈ ns, 0 ≤ n ∧ n < 10 ^ 15) : Sz (.list (ns.map PyData.int)) 1 (52 * ns.length) :=
  ⟨by simp only [PyData.showable]; exact show_ints h, by simp only [PyData.hasDict]; exact dict_ints ns, by simp only [PyData.depth, depth_ints]; exact Nat.le_refl _, by simp only [PyData.leavesShort]; exact short_ints h, by simp only [PyData.weight]; exact weight_ints h⟩
theorem sz_told {d : PyData} {m n : Nat} (h : Sz d m n) : Sz (.tuple [.str "told", d]) (m + 1) (n + 10) := by
  refine ⟨?_, ?_, ?_, ?_, ?_⟩
  · simp only [PyData.showable, PyData.showableAll, h.sh, Bool.and_self]
  · simp only [PyData.hasDict, PyData.hasDictAll, h.nd, Bool.or_self]
  · have := h.dp
    simp only [PyData.depth, PyData.depthAll]
    omega
  · have e : PyData.leavesShort 16 (.str "told") = true := by decide
    simp only [PyData.leavesShort] at e
    simp only [PyData.leavesShort, PyData.leavesShortAll, h.ls, e, Bool.and_self]
  · have := h.wt
    have e : PyData.weight (.str "told") = 4 := by decide
    simp only [PyData.weight] at e
    simp only [PyData.weight, PyData.weightAll, e]
    omega
/-- the refusals: classes, and what each is -/
structure Rfs (K : PySem.W.Frag) (mg : Str → Option Value) (c : Nat → Addr) (CO : Addr) (js : List Nat) : Prop where
  cl : Clss mg c
  kd : ∀ j, j ∈ js → Kind K c (c j) j
  ex : ∀ j, j ∈ js → PySem.W.exmOne K (.ref (c j)) (.ref CO) = some true
  mo : mg "OnceError" = some (.ref CO)
theorem sm_word (j : Nat) (h : j < 11) : Sm (.tuple [.str (wordAt j)]) := by
  have all : ∀ j, j < 11 → (PyData.showable (.tuple [.str (wordAt j)]) = true ∧ PyData.hasDict (.tuple [.str (wordAt j)]) = false ∧ PyData.depth (.tuple [.str (wordAt j)]) ≤ 1 ∧ PyData.leavesShort 16 (.tuple [.str (wordAt j)]) = true ∧ PyData.weight (.tuple [.str (wordAt j)]) ≤ 20) := by decide +kernel
  obtain ⟨h1, h2, h3, h4, h5⟩ := all j h
  exact Sz.sm ⟨h1, h2, h3, h4, h5⟩ (by decide) (by decide)
theorem Same.ext {H H' : Hp} (s : Same H H') : Ext H H' := fun b o e _ => s b o e
theorem tabs_same {T : List (Addr × Str)} {H H' : Hp} (t : LamX.Tabs T H) (s : Same H H') : LamX.Tabs T H' := t.ext s
theorem ext_put {H H' : Hp} {l : Addr} {o : HO} (e : Ext H H') (n : H l = none) : Ext H (upd H' l o) := fun b u eb nt => by
  rw [upd_ne (ne_of_none eb n)]
  exact e b u eb nt
theorem tabs_put {T : List (Addr × Str)} {H : Hp} {l : Addr} {o : HO} {xs : List V} (t : LamX.Tabs T H) (h : H l = some (.lst xs)) : LamX.Tabs T (upd H l o) := fun p hp => by
  obtain ⟨ps, h1, h2, h3⟩ := t p hp
  refine ⟨ps, by rw [upd_ne (fun z => by rw [z, h] at h1; cases h1)]; exact h1, h2, fun pos cv hc => ?_⟩
  obtain ⟨c, e1, e2⟩ := h3 pos cv hc
  exact ⟨c, e1, by rw [upd_ne (fun z => by rw [z, h] at e2; unfold LamX.CodeO at e2; cases e2)]; exact e2⟩
theorem ExB.tabs {p : Addr} {H H' : Hp} {T : List (Addr × Str)} (e : ExB p H H') (h : Pen H p) (t : LamX.Tabs T H) : LamX.Tabs T H' := fun q hq => by
  obtain ⟨l, fl, ep, _⟩ := h
  obtain ⟨ps, h1, h2, h3⟩ := t q hq
  refine ⟨ps, e _ _ (fun z => by rw [z, ep] at h1; cases h1) h1, h2, fun pos cv hc => ?_⟩
  obtain ⟨c, e1, e2⟩ := h3 pos cv hc
  exact ⟨c, e1, e _ _ (fun z => by rw [z, ep] at e2; unfold LamX.CodeO at e2; cases e2) e2⟩
theorem Pen.ext {p : Addr} {H H' : Hp} (h : Pen H p) (e : Ext H H') : Pen H' p := by
  obtain ⟨l, fl, ee, hl⟩ := h
  exact ⟨l, fl, e _ _ ee (fun ps z => by cases z), hl⟩
theorem shaped_word (x : Str) (hx : PyData.strOk x = true) : SeqAt.shaped (.tuple [.str x]) = true := by
  unfold SeqAt.shaped
  simp [hx, PyData.canLay0, PyData.canLayAll0, PyData.depth, PyData.depthAll]
theorem sz_pair {d e : PyData} {m n k : Nat} (h : Sz d m n) (h' : Sz e m k) : Sz (.tuple [d, e]) (m + 1) (n + k + 2) := by
  refine ⟨?_, ?_, ?_, ?_, ?_⟩
  · simp only [PyData.showable, PyData.showableAll, h.sh, h'.sh, Bool.and_self]
  · simp only [PyData.hasDict, PyData.hasDictAll, h.nd, h'.nd, Bool.or_self]
  · have := h.dp
    have := h'.dp
    simp only [PyData.depth, PyData.depthAll]
    omega
  · simp only [PyData.leavesShort, PyData.leavesShortAll, h.ls, h'.ls, Bool.and_self]
  · have := h.wt
    have := h'.wt
    simp only [PyData.weight, PyData.weightAll]
    omega
theorem map_int_inj {xs ys : List Int} (h : xs.map V.int = ys.map V.int) : xs = ys := by
  induction xs generalizing ys with
  | nil =>
    cases ys with
    | nil => rfl
    | cons y ys => cases h
  | cons x xs ih =>
    cases ys with
    | nil => cases h
    | cons y ys =>
      rw [List.map_cons, List.map_cons] at h
      injection h with h1 h2
      cases h1
      rw [ih h2]

/-! ### _law_right of k02 -/
theorem sc_right : FnScope ["_law_bound_here", "_law_found", "_law_number", "_law_fit", "_law_other", "_law_due", "_law_told_here"] ["_law_bound_here"] (defScope s_law_right) := ⟨rfl, rfl, rfl, by decide +kernel, rfl, by decide +kernel, by decide +kernel⟩
abbrev lamQ (x : Str) : Str := x ++ ".<locals>." ++ "<lambda>"
def sp_right (T : List (Addr × Str)) : Sp := fun vs H Q _ => ∃ (b : Int), vs = [.int b] ∧ Bd b ∧ LamX.Tabs T H ∧ ∀ H', Ext H H' → LamX.Tabs T H' → Q (.bl true) H'
def fitL (b n : Int) : List Int := ((List.range b.toNat).filter fun (o : Nat) => decide (n * (o : Int) % b = 1)).map fun (o : Nat) => (o : Int)
theorem fit_some {b n : Int} {o : Nat} (h : bk b n = some o) : ∃ t, fitL b n = (o : Int) :: t := by
  unfold bk at h
  rw [← List.head?_filter] at h
  unfold fitL
  cases e : (List.range b.toNat).filter fun (o : Nat) => decide (n * (o : Int) % b = 1) with
  | nil => rw [e] at h; cases h
  | cons x t => rw [e] at h; cases h; exact ⟨_, rfl⟩
theorem fit_none {b n : Int} (h : bk b n = none) : fitL b n = [] := by
  unfold bk at h
  rw [← List.head?_filter] at h
  unfold fitL
  cases e : (List.range b.toNat).filter fun (o : Nat) => decide (n * (o : Int) % b = 1) with
  | nil => rfl
  | cons x t => rw [e] at h; cases h
def unitsT (b : Int) (i : Nat) : List Int := ((((List.range b.toNat).take i).filter fun (n : Nat) => (bk b (n : Int)).isSome).map fun (n : Nat) => (n : Int))
theorem ok_right {f c fs cs fk ck CO PT : Addr} {fd fds fdk : FuncData} {cl : Nat → Addr} {T : List (Addr × Str)} (D : DefIn K mg "_law_right" s_law_right ["_law_bound_here"] f fd c) (Ds : DefIn K mg "_law_said" s_law_said ["_law_call"] fs fds cs) (Dk : DefIn K mg "_law_kind" s_law_kind ["_law_e"] fk fdk ck)
    (D1 : X1.DfX P w K mg base 5 "back_of" ["bound", "number"] (sp_bo K (cl 0) (cl 3) (cl 6))) (D2 : X1.DfX P w K mg base 5 "units" ["bound"] (sp_un K (cl 0))) (D3 : DfG P w K mg base 1 "_law_same" ["_law_found", "_law_due"] (sp_same K)) (Z : Blt mg) (R : Rfs K mg cl CO [0, 3, 6])
    (TB : LamX.TabB base mg c PT) (hT : (PT, lamQ "_law_right") ∈ T) (hu : ∀ p ∈ T, p.1 = PT → p.2 = lamQ "_law_right") : DfG P w K mg base 8 "_law_right" ["_law_bound_here"] (sp_right T) := by
  obtain ⟨f1, fd1, G1, k1, b1, g1⟩ := D1
  obtain ⟨f2, fd2, G2, k2, b2, g2⟩ := D2
  obtain ⟨f3, fd3, G3, k3, b3, g3⟩ := D3
  have nd := sc_right.nd
  obtain ⟨oc, od, kV, doc, pm, an, ct, osl, rfl, lks, hcs⟩ := Ds.fc.ex
  refine D.dfG (D.fc.okG sc_right (fun vs H Q E h => ?_) (fun A outer s H vs Q E hgd hr h => ?_))
  · obtain ⟨b, rfl, _⟩ := h
    rfl
  · obtain ⟨b, rfl, hb, hTt, q⟩ := h
    refine ⟨_, pss_cons (ps_set (i := 1) nd rfl (Or.inl rfl) (pe_lst pa_nil))
      (pss_cons (ps_for PassesOwn.never rfl (pi_range1 (by rfl) Z.range (pa_cons (pv 0) pa_nil)) (pg_name (i := 2) nd rfl (Or.inr rfl))
        (pss_cons (ps_setLc (i := 3) (own := [("_law_other", 4)]) rfl nd rfl rfl (sw_true rfl rfl rfl (by decide +kernel)) (pi_range1 (by rfl) Z.range (pa_cons (pv 0) pa_nil)) (blkOk_by (N := ["_law_bound_here", "_law_found", "_law_number", "_law_fit", "_law_other", "_law_due", "_law_told_here"]) (sc := defScope s_law_right) (by decide +kernel))
            (fun _ _ _ _ _ => pg_name (i := 4) nd rfl (Or.inl rfl)) (fun _ _ _ _ _ => pts_one (pt_cmpR op_eq (pe_op op_mod (pe_op op_mul (pv 2) (pv 4)) (pv 0)) pe_int (nomark _))) (fun _ _ _ _ _ => pv 4))
        (pss_cons (ps_set (i := 5) nd rfl (Or.inl rfl) (pe_ifExp (pt_cmpR (op_neD hr.units) (pv 3) (pe_lst pa_nil) (nomark _)) (pe_tup (pa_cons pe_str (pa_cons (pe_ix ix_list (pv 3) pe_int (fun _ _ => rfl)) pa_nil))) (pe_tup (pa_cons pe_str pa_nil))))
        (pss_cons (ps_if (pt_not (pt_val (pe_callG G3 hgd (hr.mono (by decide)) (by rfl) g3 k3 b3 .nil pass0 (pa_cons (LamX.pe_lamcall (T := T) (k := 5) (by rfl) Ds.g Ds.fc.kp lks hcs Ds.b sc_said rfl (Or.inl rfl)
              (said_gives (hr.mono (by decide)) Dk R.cl Z R.mo) TB rfl hT hu hr (LamX.lamS_by (sc := defScope s_law_right) (by decide +kernel)) rfl (fun _ _ _ _ _ => rfl)
              (fun A outer s H E f c' hr2 => pe_callS G1 hr2 (by rfl) g1 k1 b1 (fun σ => passAt (takes_of rfl rfl rfl rfl) σ) (pa_cons (pv 0) (pa_cons (pv 2) pa_nil)))) (pa_cons (pv 5) pa_nil))))) pss_never pss_nil)
        (pss_one (ps_if (pt_cmpR (op_neD hr.units) (pv 3) (pe_lst pa_nil) (nomark _)) (pss_one (ps_expr (pe_bm PySem.F.plainAttrs_list PySem.F.slot_list_append PySem.F.type_list_append mt_append (pv 1) (pa_cons (pv 2) pa_nil)))) pss_nil))))))
      (pss_cons (ps_set (i := 6) nd rfl (Or.inl rfl) (pe_callS G2 (hr.mono (by decide)) (by rfl) g2 k2 b2 (fun σ => passAt LamX.takes0 σ) (pa_cons (pv 0) pa_nil)))
      (pss_cons (ps_if (pt_not (pt_val (pe_callG G3 hgd (hr.mono (by decide)) (by rfl) g3 k3 b3 .nil pass0 (pa_cons (pv 6) (pa_cons (pv 1) pa_nil))))) pss_never pss_nil)
      (pss_cons (ps_expr (pe_bm PySem.F.plainAttrs_list PySem.F.slot_list_append PySem.F.type_list_append mt_append (pv 6) (pa_cons pe_int pa_nil)))
      (pss_one (ps_ret (pe_callG G3 hgd (hr.mono (by decide)) (by rfl) g3 k3 b3 .nil pass0 (pa_cons (pe_callS G2 (hr.mono (by decide)) (by rfl) g2 k2 b2 (fun σ => passAt LamX.takes0 σ) (pa_cons (pv 0) pa_nil)) (pa_cons (pv 1) pa_nil)))))))))
      , ?_⟩
    refine ⟨Nat.zero_le _, fun lf nlf => ?_⟩
    have hb0 := hb.1
    have hb1 := hb.2
    refine ⟨_, rfl, b, rfl, by omega, by omega, ?_⟩
    refine ⟨fun i m σ H' => ∃ y2 y3 y5, σ = [some (.int b), some (.ref lf), y2, y3, none, y5, none] ∧ m = b.toNat - i ∧ i ≤ b.toNat ∧ Ext H H' ∧ LamX.Tabs T H' ∧ H' lf = some (.lst ((unitsT b i).map V.int)), ⟨_, none, none, none, rfl, rfl, Nat.zero_le _, ext_upd nlf, tabs_same hTt (same_upd nlf), upd_same⟩, ?_⟩
    rintro i m σ H1 ⟨y2, y3, y5, rfl, rfl, hi, e1, t1, hlf⟩
    by_cases hlt : i < b.toNat
    · refine .inr ⟨hlt, fun σ' H' => ∃ y2 y3 y5, σ' = [some (.int b), some (.ref lf), y2, y3, none, y5, none] ∧ Ext H H' ∧ LamX.Tabs T H' ∧ H' lf = some (.lst ((unitsT b (i + 1)).map V.int)), fun σ' H' hN => ?_, fun v H1' hy => ?_⟩
      · obtain ⟨z2, z3, z5, q1, q2, q3, q4⟩ := hN
        exact ⟨_, by omega, z2, z3, z5, q1, rfl, hlt, q2, q3, q4⟩
      · obtain ⟨rfl, rfl⟩ := hy
        rw [Int.zero_add]
        refine ⟨_, rfl, b, rfl, by omega, by omega, fun L nL => ?_⟩
        refine lc_range (fun j H' => Same H1' H' ∧ H' L = some (.lst (((((List.range b.toNat).take j).filter fun (o : Nat) => decide ((i : Int) * (o : Int) % b = 1)).map fun (o : Nat) => (o : Int)).map V.int))) ⟨same_upd nL, upd_same⟩ (fun j H5 hj hP => ?_) (fun H5 hP => ?_)
        · obtain ⟨e5, hL5⟩ := hP
          refine ⟨rfl, ?_⟩
          refine ⟨_, rfl, _, rfl, _, _, rfl, rfl, .inl ⟨by omega, by omega⟩, _, rfl, _, _, rfl, rfl, (show (0 : Int) < b by omega), rfl, _, rfl, ?_⟩
          rw [Int.zero_add]
          refine ite_b (fun hs => ?_) fun hs => ?_
          · have hs : (i : Int) * (j : Int) % b = 1 := V.int.inj (of_decide_eq_true hs)
            refine ⟨_, rfl, _, hL5, ?_, fun bb o eb => ?_, ?_⟩
            · rw [List.length_map, List.length_map]
              have h1 : (((List.range b.toNat).take j).filter fun (o : Nat) => decide ((i : Int) * (o : Int) % b = 1)).length ≤ j := Nat.le_trans (List.length_filter_le _ _) (by rw [List.length_take]; omega)
              have : (16 : Nat) < sizeLine := by decide
              omega
            · rw [upd_ne (ne_of_none eb nL)]
              exact e5 _ _ eb
            · rw [upd_same, filt_take hj, if_pos (decide_eq_true hs), List.map_append, List.map_append]
              rfl
          · have hs : ¬ (i : Int) * (j : Int) % b = 1 := fun z => of_decide_eq_false hs (congrArg V.int z)
            refine ⟨e5, ?_⟩
            rw [hL5, filt_take hj, if_neg (by rw [decide_eq_false hs]; exact Bool.false_ne_true), List.append_nil]
        · obtain ⟨e5, hL5⟩ := hP
          have et : (List.range b.toNat).take b.toNat = List.range b.toNat := List.take_of_length_le (by simp)
          rw [et] at hL5
          change H5 L = some (.lst ((fitL b i).map V.int)) at hL5
          have nLf : lf ≠ L := ne_of_none hlf nL
          have hlf5 := e5 _ _ hlf
          have x5 : Ext H1' H5 := Same.ext e5
          have t5 := tabs_same t1 e5
          have ut : (unitsT b i).length ≤ i := by
            unfold unitsT
            rw [List.length_map]
            exact Nat.le_trans (List.length_filter_le _ _) (by rw [List.length_take]; omega)
          refine ⟨_, rfl, Nat.zero_le _, fun z1 nz1 => ⟨.list ((fitL b i).map PyData.int), .list [], .lst (SqL.of (same_upd nz1 _ _ hL5)) (dp_ints _), .lst (SqL.of upd_same) .nil, shaped_list _, by decide, _, rfl, ?_⟩⟩
          rw [eqv_nil]
          have s6 := same_upd (o := .lst []) nz1
          generalize upd H5 z1 (.lst []) = H6 at s6
          cases e : bk b (i : Int) with
          | some o =>
            obtain ⟨tl, eL⟩ := fit_some e
            have ho := bk_lt e
            have hL6 := s6 _ _ hL5
            rw [eL] at hL6 ⊢
            refine iteT ⟨_, rfl, L, _, 0, .int (o : Int), rfl, rfl, SqL.of hL6, atI_nat (j := 0) rfl, by show 2 ≤ sizeLine; decide, fun td ntd => ?_⟩
            have s7 := same_upd (o := .tup [.str "told", .int (o : Int)]) ntd
            have htd : (upd H6 td (.tup [.str "told", .int (o : Int)])) td = some (.tup [.str "told", .int (o : Int)]) := upd_same
            change tSeq _ _ _ [some (.int b), some (.ref lf), some (.int (i : Int)), some (.ref L), none, some (.ref td), none] (upd H6 td (.tup [.str "told", .int (o : Int)]))
            generalize upd H6 td (.tup [.str "told", .int (o : Int)]) = H7 at s7 htd
            refine ⟨tabs_same t5 (s6.trans s7), fun H8 e8 t8 => ?_⟩
            refine ⟨_, rfl, _, rfl, .int b, .int (i : Int), rfl, ty_int _, ty_int _, fun hn => absurd hn (by simp only [btwV]; simp; omega), fun b' eb _ hn => ?_, fun b' n' eb en _ _ _ => ⟨fun o' eo => ?_, fun eo => ?_⟩⟩
            · cases eb
              exact absurd hn (by simp only [btwV]; simp; omega)
            · cases eb
              cases en
              rw [e] at eo
              cases eo
              refine ⟨_, rfl, by show 2 ≤ sizeLine; decide, fun t nt => ?_⟩
              have s9 := same_upd (o := .tup [.str "told", .int (o : Int)]) nt
              have htd8 := e8 _ _ htd fun ps z => by cases z
              refine ⟨_, rfl, _, _, .tuple [.str "told", .int (o : Int)], rfl, .tup (SqT.of upd_same) (.cons (.str _) (.cons (.int _) .nil)), .tup (SqT.of (s9 _ _ htd8)) (.cons (.str _) (.cons (.int _) .nil)), (sz_told (sz_int (by omega) (by omega))).sm (by decide) (by decide), _, rfl, iteF ?_⟩
              have x9 : Ext H5 _ := Ext.trans (Same.ext (s6.trans s7)) (Ext.trans e8 (Same.ext s9))
              have t9 := tabs_same t8 s9
              generalize upd H8 t (.tup [.str "told", .int (o : Int)]) = H9 at x9 t9
              have hL9 := x9 _ _ hL5 fun ps z => by cases z
              have hlf9 := x9 _ _ hlf5 fun ps z => by cases z
              refine ⟨_, rfl, Nat.zero_le _, fun z2 nz2 => ⟨.list ((fitL b i).map PyData.int), .list [], .lst (SqL.of (same_upd nz2 _ _ hL9)) (dp_ints _), .lst (SqL.of upd_same) .nil, shaped_list _, by decide, _, rfl, ?_⟩⟩
              rw [eqv_nil, eL]
              have hlf10 := same_upd (o := .lst []) nz2 _ _ hlf9
              refine iteT ⟨_, rfl, .inl ⟨rfl, _, SqL.of hlf10⟩, _, rfl, lf, _, _, rfl, rfl, hlf10, ?_, _, _, _, rfl, ?_, ?_, ?_⟩
              · rw [List.length_map]
                have : (16 : Nat) < sizeLine := by decide
                omega
              · exact ext_put (Ext.trans e1 (Ext.trans x5 (Ext.trans x9 (ext_upd nz2)))) nlf
              · exact tabs_put (tabs_same t9 (same_upd nz2)) hlf10
              · rw [upd_same]
                unfold unitsT
                rw [filt_take hlt, if_pos (by rw [e]; rfl), List.map_append, List.map_append]
                rfl
            · cases eb
              cases en
              rw [e] at eo
              cases eo
          | none =>
            have eL := fit_none e
            rw [eL]
            refine iteF ⟨by show 1 ≤ sizeLine; decide, fun td ntd => ?_⟩
            have s7 := same_upd (o := .tup [.str "apart"]) ntd
            have htd : (upd H6 td (.tup [.str "apart"])) td = some (.tup [.str "apart"]) := upd_same
            change tSeq _ _ _ [some (.int b), some (.ref lf), some (.int (i : Int)), some (.ref L), none, some (.ref td), none] (upd H6 td (.tup [.str "apart"]))
            generalize upd H6 td (.tup [.str "apart"]) = H7 at s7 htd
            refine ⟨tabs_same t5 (s6.trans s7), fun H8 e8 t8 => ?_⟩
            refine ⟨_, rfl, _, rfl, .int b, .int (i : Int), rfl, ty_int _, ty_int _, fun hn => absurd hn (by simp only [btwV]; simp; omega), fun b' eb _ hn => ?_, fun b' n' eb en _ _ _ => ⟨fun o' eo => ?_, fun eo => ?_⟩⟩
            · cases eb
              exact absurd hn (by simp only [btwV]; simp; omega)
            · cases eb
              cases en
              rw [e] at eo
              cases eo
            · refine ⟨cl 6, 6, rfl, rfl, R.kd 6 (by decide), by decide, R.ex 6 (by decide), fun H9 t s9 ht => ?_⟩
              have htd8 := e8 _ _ htd fun ps z => by cases z
              refine ⟨_, rfl, _, _, .tuple [.str (wordAt 6)], rfl, .tup (SqT.of ht) (.cons (.str _) .nil), .tup (SqT.of (s9 _ _ htd8)) (.cons (.str _) .nil), sm_word 6 (by decide), _, rfl, iteF ?_⟩
              have x9 : Ext H5 _ := Ext.trans (Same.ext (s6.trans s7)) (Ext.trans e8 (Same.ext s9))
              have t9 := tabs_same t8 s9
              have hL9 := x9 _ _ hL5 fun ps z => by cases z
              have hlf9 := x9 _ _ hlf5 fun ps z => by cases z
              refine ⟨_, rfl, Nat.zero_le _, fun z2 nz2 => ⟨.list ((fitL b i).map PyData.int), .list [], .lst (SqL.of (same_upd nz2 _ _ hL9)) (dp_ints _), .lst (SqL.of upd_same) .nil, shaped_list _, by decide, _, rfl, ?_⟩⟩
              rw [eqv_nil, eL]
              refine iteF ⟨_, _, _, rfl, ?_, ?_, ?_⟩
              · exact Ext.trans e1 (Ext.trans x5 (Ext.trans x9 (ext_upd nz2)))
              · exact tabs_same t9 (same_upd nz2)
              · rw [same_upd nz2 _ _ hlf9]
                unfold unitsT
                rw [filt_take hlt, if_neg (by rw [e]; exact Bool.false_ne_true), List.append_nil]
    · refine .inl ⟨by show b.toNat ≤ i; omega, ?_⟩
      have ei : i = b.toNat := by omega
      subst ei
      have eu : unitsT b b.toNat = unitsL b := by
        unfold unitsT unitsL
        rw [List.take_of_length_le (by simp)]
      rw [eu] at hlf
      have hun : ∀ n ∈ unitsL b, 0 ≤ n ∧ n < 10 ^ 15 := fun n hn => by
        unfold unitsL at hn
        obtain ⟨m, hm, rfl⟩ := List.mem_map.mp hn
        have := List.mem_range.mp (List.mem_filter.mp hm).1
        omega
      have hul : (unitsL b).length ≤ 16 := by
        unfold unitsL
        rw [List.length_map]
        exact Nat.le_trans (List.length_filter_le _ _) (by rw [List.length_range]; omega)
      have smu : Sm (.list ((unitsL b).map PyData.int)) := (sz_lints hun).sm (by decide) (by omega)
      have nbt : ¬ btwV 2 16 (.int b) = false := by simp only [btwV]; simp; omega
      refine ⟨_, rfl, _, rfl, ty_int _, fun hn => absurd hn nbt, fun b' eb _ H2 p s2 np hp => ?_⟩
      cases eb
      have hlf2 := s2 _ _ hlf
      have t2 := tabs_same t1 s2
      refine ⟨_, rfl, _, rfl, _, _, _, rfl, .lst (SqL.of hp) (dp_ints _), .lst (SqL.of hlf2) (dp_ints _), smu, _, rfl, iteF ?_⟩
      refine ⟨_, rfl, .inl ⟨rfl, _, SqL.of hp⟩, p, _, _, rfl, rfl, hp, ?_, ?_⟩
      · rw [List.length_map]
        have : (16 : Nat) < sizeLine := by decide
        omega
      · have npl : lf ≠ p := ne_of_none hlf np
        have hlf3 : (upd H2 p (.lst ((unitsL b).map V.int ++ [.int 0]))) lf = some (.lst ((unitsL b).map V.int)) := by rw [upd_ne npl]; exact hlf2
        have t3 := tabs_put (o := .lst ((unitsL b).map V.int ++ [.int 0])) t2 hp
        have e3 : Ext H (upd H2 p (.lst ((unitsL b).map V.int ++ [.int 0]))) := fun bb o eb nt => by
          have e4 := e1 bb o eb nt
          rw [upd_ne (ne_of_none e4 np)]
          exact s2 _ _ e4
        refine ⟨_, rfl, _, rfl, ty_int _, fun hn => absurd hn nbt, fun b' eb _ H4 p4 s4 np4 hp4 => ?_⟩
        cases eb
        refine ⟨_, rfl, _, _, _, rfl, .lst (SqL.of hp4) (dp_ints _), .lst (SqL.of (s4 _ _ hlf3)) (dp_ints _), smu, ?_⟩
        exact q H4 (Ext.trans e3 (Same.ext s4)) (tabs_same t3 s4)

/-! ### law of k02 -/
theorem sc_law : FnScope ["_law_script", "_law_cell_here", "_law_pen_here", "_law_bound_here", "_law_none", "_law_bad"] ["_law_script"] (defScope s_law) := ⟨rfl, rfl, rfl, by decide +kernel, rfl, by decide +kernel, by decide +kernel⟩
def sp_law (K : PySem.W.Frag) (T : List (Addr × Str)) : Sp := fun vs H Q _ => ∃ (a : Addr) (ns : List Int), vs = [.ref a] ∧ SqL K H a (ns.map V.int) ∧ ns.length ≤ 63 ∧ LamX.Tabs T H ∧ ∀ H', Q (.bl true) H'
theorem ok_law {f c fs cs fk ck CO PT : Addr} {fd fds fdk : FuncData} {cl : Nat → Addr} {T : List (Addr × Str)} (D : DefIn K mg "law" s_law ["_law_script"] f fd c) (Ds : DefIn K mg "_law_said" s_law_said ["_law_call"] fs fds cs) (Dk : DefIn K mg "_law_kind" s_law_kind ["_law_e"] fk fdk ck)
    (D1 : X1.DfX P w K mg base 5 "back_of" ["bound", "number"] (sp_bo K (cl 0) (cl 3) (cl 6))) (D2 : X1.DfX P w K mg base 5 "units" ["bound"] (sp_un K (cl 0))) (Dr : DfG P w K mg base 8 "_law_right" ["_law_bound_here"] (sp_right T))
    (Dc : Df P w K mg base 1 "_law_cell" ["_law_script", "_law_k"] (sp_cell K)) (Dp : Df P w K mg base 1 "_law_pen" ["_law_cell_here"] sp_pen) (Db : Df P w K mg base 2 "_law_bound" ["_law_pen_here"] sp_bound) (Dn : Df P w K mg base 2 "_law_no_bound" ["_law_pen_here"] (sp_nob K)) (Dm : Df P w K mg base 2 "_law_no_number" ["_law_pen_here", "_law_bound_here"] (sp_non K))
    (Z : Blt mg) (R : Rfs K mg cl CO [0, 3, 6]) (TB : LamX.TabB base mg c PT) (hT : (PT, lamQ "law") ∈ T) (hu : ∀ p ∈ T, p.1 = PT → p.2 = lamQ "law") : FnG P w K mg base CX0 9 f fd ["_law_script"] (sp_law K T) := by
  obtain ⟨f1, fd1, G1, k1, b1, g1⟩ := D1
  obtain ⟨f2, fd2, G2, k2, b2, g2⟩ := D2
  obtain ⟨f3, fd3, G3, k3, b3, g3⟩ := Dr
  obtain ⟨f4, fd4, G4, k4, b4, g4⟩ := Dc
  obtain ⟨f5, fd5, G5, k5, b5, g5⟩ := Dp
  obtain ⟨f6, fd6, G6, k6, b6, g6⟩ := Db
  obtain ⟨f7, fd7, G7, k7, b7, g7⟩ := Dn
  obtain ⟨f8, fd8, G8, k8, b8, g8⟩ := Dm
  have nd := sc_law.nd
  obtain ⟨oc, od, kV, doc, pm, an, ct, osl, rfl, lks, hcs⟩ := Ds.fc.ex
  refine D.fc.okG sc_law (fun vs H Q E h => ?_) (fun A outer s H vs Q E hgd hr h => ?_)
  · obtain ⟨a, ns, rfl, _⟩ := h
    rfl
  · obtain ⟨a, ns, rfl, hq, hl, hTt, q⟩ := h
    refine ⟨_, pss_cons (ps_for PassesOwn.never rfl (pi_list (pe_op op_cat (pe_lst (pa_cons (pe_call G4 (hr.mono (by decide)) (by rfl) g4 k4 b4 .nil pass0 (pa_cons (pv 0) (pa_cons pe_int pa_nil))) pa_nil)) (pe_slice sl_list (pv 0) (po_some pe_int) (po_some pe_int)))) (pg_name (i := 1) nd rfl (Or.inl rfl))
        (pss_cons (ps_set (i := 2) nd rfl (Or.inl rfl) (pe_call G5 (hr.mono (by decide)) (by rfl) g5 k5 b5 .nil pass0 (pa_cons (pv 1) pa_nil)))
        (pss_cons (ps_set (i := 3) nd rfl (Or.inr rfl) (pe_call G6 (hr.mono (by decide)) (by rfl) g6 k6 b6 .nil pass0 (pa_cons (pv 2) pa_nil)))
        (pss_cons (ps_if (pt_not (pt_val (pe_callG G3 hgd hr (by rfl) g3 k3 b3 .nil pass0 (pa_cons (pv 3) pa_nil)))) pss_never pss_nil)
        (pss_cons (ps_asg (pe_tup (pa_cons (pe_call G7 (hr.mono (by decide)) (by rfl) g7 k7 b7 .nil pass0 (pa_cons (pv 2) pa_nil)) (pa_cons (pe_call G8 (hr.mono (by decide)) (by rfl) g8 k8 b8 .nil pass0 (pa_cons (pv 2) (pa_cons (pv 3) pa_nil))) pa_nil)))
            (pg_tup rfl (pgs_cons (pg_name (i := 4) nd rfl (Or.inr rfl)) (pgs_cons (pg_name (i := 5) nd rfl (Or.inr rfl)) pgs_nil))))
        (pss_cons (ps_if (pt_cmpR (op_neD hr.units) (LamX.pe_lamcall (T := T) (k := 5) (by rfl) Ds.g Ds.fc.kp lks hcs Ds.b sc_said rfl (Or.inl rfl)
              (said_gives (hr.mono (by decide)) Dk R.cl Z R.mo) TB rfl hT hu (hr.mono (by decide)) (LamX.lamS_by (sc := defScope s_law) (by decide +kernel)) rfl (fun _ _ _ _ _ => rfl)
              (fun A outer s H E f c' hr2 => pe_callS G1 hr2 (by rfl) g1 k1 b1 (fun σ => passAt (takes_of rfl rfl rfl rfl) σ) (pa_cons (pv 3) (pa_cons (pv 5) pa_nil)))) (pe_tup (pa_cons pe_str pa_nil)) (nomark _)) pss_never pss_nil)
        (pss_cons (ps_if (pt_cmpR (op_neD hr.units) (LamX.pe_lamcall (T := T) (k := 5) (by rfl) Ds.g Ds.fc.kp lks hcs Ds.b sc_said rfl (Or.inl rfl)
              (said_gives (hr.mono (by decide)) Dk R.cl Z R.mo) TB rfl hT hu (hr.mono (by decide)) (LamX.lamS_by (sc := defScope s_law) (by decide +kernel)) rfl (fun _ _ _ _ _ => rfl)
              (fun A outer s H E f c' hr2 => pe_callS G1 hr2 (by rfl) g1 k1 b1 (fun σ => passAt (takes_of rfl rfl rfl rfl) σ) (pa_cons (pv 4) (pa_cons (pv 5) pa_nil)))) (pe_tup (pa_cons pe_str pa_nil)) (nomark _)) pss_never pss_nil)
        (pss_one (ps_if (pt_cmpR (op_neD hr.units) (LamX.pe_lamcall (T := T) (k := 5) (by rfl) Ds.g Ds.fc.kp lks hcs Ds.b sc_said rfl (Or.inl rfl)
              (said_gives (hr.mono (by decide)) Dk R.cl Z R.mo) TB rfl hT hu (hr.mono (by decide)) (LamX.lamS_by (sc := defScope s_law) (by decide +kernel)) rfl (fun _ _ _ _ _ => rfl)
              (fun A outer s H E f c' hr2 => pe_callS G2 hr2 (by rfl) g2 k2 b2 (fun σ => passAt (takes_of rfl rfl rfl rfl) σ) (pa_cons (pv 4) pa_nil))) (pe_tup (pa_cons pe_str pa_nil)) (nomark _)) pss_never pss_nil)))))))))
      (pss_one (ps_ret pe_bl)), ?_⟩
    refine ⟨_, rfl, a, ns, 0, rfl, hq, fun v0 _ => ?_⟩
    refine ⟨by show 1 ≤ sizeLine; decide, fun l1 nl1 => ?_⟩
    refine ⟨_, rfl, 1, rfl, 6, rfl, a, _, rfl, Ext.lst (ext_upd nl1) hq, fun l2 nl2 => ?_⟩
    have ne12 : l1 ≠ l2 := fun z => by rw [z] at nl2; rw [upd_same] at nl2; cases nl2
    refine ⟨l1, l2, _, _, rfl, rfl, by rw [upd_ne ne12]; exact upd_same, upd_same, ?_, fun l3 nl3 => ⟨l3, rfl, ⟨_, SqL.of upd_same⟩, ?_⟩⟩
    · have h1 : (cutV (ns.map V.int) (some 1) (some 6)).length ≤ ns.length := Nat.le_trans cut_len (by rw [List.length_map]; exact Nat.le_refl _)
      have : (1000 : Nat) ≤ sizeLine := by decide
      simp only [List.length_singleton]
      omega
    have intz : ∀ v ∈ ([.int v0] ++ cutV (ns.map V.int) (some 1) (some 6) : List V), ∃ c : Int, v = .int c := fun v hv => by
      rcases List.mem_append.mp hv with hv | hv
      · exact ⟨v0, List.mem_singleton.mp hv⟩
      · obtain ⟨c, _, rfl⟩ := List.mem_map.mp (cut_mem hv)
        exact ⟨c, rfl⟩
    have t2 : LamX.Tabs T (upd (upd (upd H l1 (.lst [.int v0])) l2 (.lst (cutV (ns.map V.int) (some 1) (some 6)))) l3 (.lst ([.int v0] ++ cutV (ns.map V.int) (some 1) (some 6)))) := tabs_same (tabs_same (tabs_same hTt (same_upd nl1)) (same_upd nl2)) (same_upd nl3)
    have hl3 : (upd (upd (upd H l1 (.lst [.int v0])) l2 (.lst (cutV (ns.map V.int) (some 1) (some 6)))) l3 (.lst ([.int v0] ++ cutV (ns.map V.int) (some 1) (some 6)))) l3 = some (.lst ([.int v0] ++ cutV (ns.map V.int) (some 1) (some 6))) := upd_same
    generalize upd (upd (upd H l1 (.lst [.int v0])) l2 (.lst (cutV (ns.map V.int) (some 1) (some 6)))) l3 (.lst ([.int v0] ++ cutV (ns.map V.int) (some 1) (some 6))) = H2 at t2 hl3
    generalize ([.int v0] ++ cutV (ns.map V.int) (some 1) (some 6) : List V) = zs at intz hl3
    refine ⟨fun j m σ H' => ∃ y1 y2 y3 y4 y5, σ = [some (.ref a), y1, y2, y3, y4, y5] ∧ m = zs.length - j ∧ j ≤ zs.length ∧ H' l3 = some (.lst zs) ∧ LamX.Tabs T H', ⟨_, none, none, none, none, none, rfl, rfl, Nat.zero_le _, hl3, t2⟩, ?_⟩
    rintro j m σ H3 ⟨z1, z2, z3, z4, z5, rfl, rfl, hj, hl4, t3⟩
    by_cases hjl : j < zs.length
    · refine .inr ⟨⟨_, _, SqL.of hl4, List.getElem?_eq_getElem hjl⟩, fun σ' H' => ∃ y1 y2 y3 y4 y5, σ' = [some (.ref a), y1, y2, y3, y4, y5] ∧ H' l3 = some (.lst zs) ∧ LamX.Tabs T H', fun σ' H' hN => ?_, fun v H3' hy => ?_⟩
      · obtain ⟨u1, u2, u3, u4, u5, q1, q2, q3⟩ := hN
        exact ⟨_, by omega, u1, u2, u3, u4, u5, q1, rfl, hjl, q2, q3⟩
      · obtain ⟨rfl, hv⟩ := hy
        obtain ⟨cv, rfl⟩ := intz v (List.mem_of_getElem? (hv _ (SqL.of hl4)))
        refine ⟨_, rfl, cv, rfl, fun p l fl np hl0 => ?_⟩
        have hpen : Pen (upd H3' p (.lst [.int l, .int fl])) p := ⟨l, fl, upd_same, hl0⟩
        have nlp : l3 ≠ p := ne_of_none hl4 np
        refine ⟨_, rfl, p, rfl, hpen, fun b H4 hb e4 hp4 => ?_⟩
        have t4 := e4.tabs hpen (tabs_same t3 (same_upd np))
        have hl5 := e4 l3 _ nlp (by rw [upd_ne nlp]; exact hl4)
        refine ⟨_, rfl, b, rfl, hb, t4, fun H5 e5 t5 => ⟨_, rfl, iteF ?_⟩⟩
        have hp5 := hp4.ext e5
        have hl6 := e5 _ _ hl5 fun ps z => by cases z
        refine ⟨_, rfl, p, rfl, hp5, fun v6 H6 ty6 bt6 e6 hp6 => ⟨_, rfl, _, rfl, p, b, rfl, hb, hp6, fun v7 H7 ty7 bt7 e7 hp7 => ⟨by show 2 ≤ sizeLine; decide, fun t nt => ?_⟩⟩⟩
        have t7 := e7.tabs hp6 (e6.tabs hp5 t5)
        have ty6 := e7.ty hp6 hp7 ty6
        have hl7 := e7 _ _ nlp (e6 _ _ nlp hl6)
        have s8 := same_upd (o := .tup [v6, v7]) nt
        refine ⟨t, _, rfl, SqT.of upd_same, rfl, _, _, rfl, _, _, rfl, rfl, ?_⟩
        have t8 := tabs_same t7 s8
        have ty6 := Ext.ty (Same.ext s8) ty6
        have ty7 := Ext.ty (Same.ext s8) ty7
        have hl8 := s8 _ _ hl7
        change tSeq _ _ _ [some (.ref a), some (.int cv), some (.ref p), some (.int b), some v6, some v7] (upd H7 t (.tup [v6, v7]))
        generalize upd H7 t (.tup [v6, v7]) = H8 at t8 ty6 ty7 hl8
        clear s8 hl7 t7 nt e7 e6 hp7 hp6 hp5 e5 hl6 t5 hl5
        have nbt : ¬ btwV 2 16 (.int b) = false := by have := hb.1; have := hb.2; simp only [btwV]; simp; omega
        refine ⟨t8, fun H9 e9 t9 => ⟨_, rfl, _, rfl, .int b, v7, rfl, ty_int _, Ext.ty e9 ty7, fun hn => absurd hn nbt, fun b' eb _ hn => ?_, fun b' n' eb en _ h0 h1 => ?_⟩⟩
        rotate_left
        · cases eb
          rw [en] at bt7
          exact absurd bt7 (by simp only [btwV]; simp; omega)
        refine ⟨cl 3, 3, rfl, rfl, R.kd 3 (by decide), by decide, R.ex 3 (by decide), fun H10 r1 s10 hr1 => ⟨by show 1 ≤ sizeLine; decide, fun r2 n2 => ⟨.tuple [.str (wordAt 3)], .tuple [.str "number"], .tup (SqT.of (same_upd n2 _ _ hr1)) (.cons (.str _) .nil), .tup (SqT.of upd_same) (.cons (.str _) .nil), shaped_word _ (by decide +kernel), shaped_word _ (by decide +kernel), _, rfl, ?_⟩⟩⟩
        have ev : PyData.eqv (.tuple [.str (wordAt 3)]) (.tuple [.str "number"]) = true := by decide
        rw [ev]
        refine iteF ?_
        have x10 : Ext H8 (upd H10 r2 (.tup [.str "number"])) := Ext.trans e9 (Same.ext (s10.trans (same_upd n2)))
        have t10 := tabs_same t9 (s10.trans (same_upd (o := .tup [.str "number"]) n2))
        generalize upd H10 r2 (.tup [.str "number"]) = H11 at x10 t10
        clear hr1 s10 n2 e9 t9 t8
        have ev : PyData.eqv (.tuple [.str (wordAt 0)]) (.tuple [.str "bound"]) = true := by decide
        refine ⟨t10, fun H12 e12 t12 => ⟨_, rfl, _, rfl, v6, v7, rfl, Ext.ty (Ext.trans x10 e12) ty6, Ext.ty (Ext.trans x10 e12) ty7, fun _ => ?_, fun b' eb hb' => absurd bt6 (by rw [eb]; have := hb'.1; have := hb'.2; simp only [btwV]; simp; omega), fun b' n' eb en hb' => absurd bt6 (by rw [eb]; have := hb'.1; have := hb'.2; simp only [btwV]; simp; omega)⟩⟩
        refine ⟨cl 0, 0, rfl, rfl, R.kd 0 (by decide), by decide, R.ex 0 (by decide), fun H13 r1 s13 hr1 => ⟨by show 1 ≤ sizeLine; decide, fun r2 n2 => ⟨.tuple [.str (wordAt 0)], .tuple [.str "bound"], .tup (SqT.of (same_upd n2 _ _ hr1)) (.cons (.str _) .nil), .tup (SqT.of upd_same) (.cons (.str _) .nil), shaped_word _ (by decide +kernel), shaped_word _ (by decide +kernel), _, rfl, ?_⟩⟩⟩
        rw [ev]
        refine iteF ?_
        have x13 : Ext H8 (upd H13 r2 (.tup [.str "bound"])) := Ext.trans x10 (Ext.trans e12 (Same.ext (s13.trans (same_upd n2))))
        have t13 := tabs_same t12 (s13.trans (same_upd (o := .tup [.str "bound"]) n2))
        generalize upd H13 r2 (.tup [.str "bound"]) = H14 at x13 t13
        clear hr1 s13 n2 e12 t12 t10 x10
        refine ⟨t13, fun H15 e15 t15 => ⟨_, rfl, v6, rfl, Ext.ty (Ext.trans x13 e15) ty6, fun _ => ?_, fun b' eb hb' => absurd bt6 (by rw [eb]; have := hb'.1; have := hb'.2; simp only [btwV]; simp; omega)⟩⟩
        refine ⟨cl 0, 0, rfl, rfl, R.kd 0 (by decide), by decide, R.ex 0 (by decide), fun H16 r1 s16 hr1 => ⟨by show 1 ≤ sizeLine; decide, fun r2 n2 => ⟨.tuple [.str (wordAt 0)], .tuple [.str "bound"], .tup (SqT.of (same_upd n2 _ _ hr1)) (.cons (.str _) .nil), .tup (SqT.of upd_same) (.cons (.str _) .nil), shaped_word _ (by decide +kernel), shaped_word _ (by decide +kernel), _, rfl, ?_⟩⟩⟩
        rw [ev]
        refine iteF ⟨_, _, _, _, _, rfl, ?_, ?_⟩
        · exact (Ext.trans x13 (Ext.trans e15 (Same.ext (s16.trans (same_upd n2))))) _ _ hl8 fun ps z => by cases z
        · exact tabs_same t15 (s16.trans (same_upd n2))
    · refine .inl ⟨⟨_, SqL.of hl4, by omega⟩, ?_⟩
      exact q _

/-! ### classes of refusals -/
def clOf (a0 a1 a2 a3 a4 a5 a6 a7 a8 a9 a10 : Addr) : Nat → Addr := fun i => [a0, a1, a2, a3, a4, a5, a6, a7, a8, a9, a10].getD i 0
theorem kind_mk {K : PySem.W.Frag} {a0 a1 a2 a3 a4 a5 a6 a7 a8 a9 a10 D : Addr} {j : Nat} (E : ExcC K D) (ve : PySem.W.kitOne K (.ref D) (.type "ValueError") = some true)
    (h0 : PySem.W.kitOne K (.ref D) (.ref a0) = some (decide (0 = j))) (h1 : PySem.W.kitOne K (.ref D) (.ref a1) = some (decide (1 = j))) (h2 : PySem.W.kitOne K (.ref D) (.ref a2) = some (decide (2 = j))) (h3 : PySem.W.kitOne K (.ref D) (.ref a3) = some (decide (3 = j)))
    (h4 : PySem.W.kitOne K (.ref D) (.ref a4) = some (decide (4 = j))) (h5 : PySem.W.kitOne K (.ref D) (.ref a5) = some (decide (5 = j))) (h6 : PySem.W.kitOne K (.ref D) (.ref a6) = some (decide (6 = j))) (h7 : PySem.W.kitOne K (.ref D) (.ref a7) = some (decide (7 = j)))
    (h8 : PySem.W.kitOne K (.ref D) (.ref a8) = some (decide (8 = j))) (h9 : PySem.W.kitOne K (.ref D) (.ref a9) = some (decide (9 = j))) (h10 : PySem.W.kitOne K (.ref D) (.ref a10) = some (decide (10 = j))) (hj : j < 11) : Kind K (clOf a0 a1 a2 a3 a4 a5 a6 a7 a8 a9 a10) D j := by
  refine ⟨E, ve, fun i hi => ?_, hj⟩
  match i, hi with
  | 0, _ => exact h0
  | 1, _ => exact h1
  | 2, _ => exact h2
  | 3, _ => exact h3
  | 4, _ => exact h4
  | 5, _ => exact h5
  | 6, _ => exact h6
  | 7, _ => exact h7
  | 8, _ => exact h8
  | 9, _ => exact h9
  | 10, _ => exact h10
  | n + 11, z => exact absurd z (by omega)
theorem exm_mk {K : PySem.W.Frag} {D C : Addr} (b : PySem.W.subIn K (.ref C) (.type "BaseException") = some true) (i : PySem.W.isClsIn K C = true) (t : PySem.W.typeIn K (.ref C) = some (.type "type")) (s : PySem.W.subIn K (.ref D) (.ref C) = some true) : PySem.W.exmOne K (.ref D) (.ref C) = some true := by
  have i' : (PySem.W.clsIn K C).isSome = true := i
  unfold PySem.W.exmOne PySem.W.kitCls
  rw [b]
  show (if (some true == some true) = true then (if ((PySem.W.clsIn K C).isSome && PySem.W.typeIn K (.ref C) == some (.type "type")) = true then PySem.W.subIn K (.ref D) (.ref C) else none) else none) = some true
  rw [t, i', s]
  rfl
/-- what is known of a class of refusals -/
structure RfK (K : PySem.W.Frag) (a : Addr) (CO : Addr) : Prop where
  q : PySem.W.excIn K a [.type "ValueError", .type "Exception", .type "BaseException", .type "object"] "ValueError.__new__" = true
  k : PySem.W.keepIn K (.ref a) = true
  b : PySem.W.subIn K (.ref a) (.type "BaseException") = some true
  t : PySem.W.typeIn K (.ref a) = some (.type "type")
/-- a def where the top has put it -/
structure DefAt (K : PySem.W.Frag) (x : Str) (st : Stmt) (f : Addr) (fd : FuncData) (c : Addr) : Prop where
  ns : PySem.W.nsIn K mainGlobals x = some (some (.ref f))
  fc : FunC K x x st f fd c
theorem def_mk {K : PySem.W.Frag} {x : Str} {st : Stmt} {f c : Addr} {oc : Value} {od an : Option Addr} {osl : Array (Option Value)} {kV doc pm ct : Value} (a : PySem.W.nsIn K mainGlobals x = some (some (.ref f))) (l : K.lookup f = some ⟨oc, od, .func (PySem.W.fnOf x x (defArgs st) (defBody st) (defScope st) .none kV doc pm an (.ref c) ct), osl⟩)
    (hc : PySem.W.codeIn K (.ref c) x = true) (k : PySem.W.keepIn K (.ref f) = true) : DefAt K x st f (PySem.W.fnOf x x (defArgs st) (defBody st) (defScope st) .none kV doc pm an (.ref c) ct) c := ⟨a, funC_mk l hc k⟩
theorem DefAt.tab {K : PySem.W.Frag} {mg : Str → Option Value} {h : Heap} {names : List Str} {x : Str} {st : Stmt} {f c P : Addr} {fd : FuncData} {e : Value} {dd : Option Addr} {vs : Array Value} {sl : Array (Option Value)} (D : DefAt K x st f fd c) (T : TabOf mg h names) (hx : x ∈ names) (KX : K.In h) (g : mg x = some (.ref f))
    (lc : K.lookup c = some ⟨e, dd, .fields vs, sl⟩) (hP : vs[11]? = some (.ref P)) : PySem.W.CodeHd h c P ∧ h.get? P = some { cls := .none, data := .fields #[] } := by
  obtain ⟨oc, od, kV, doc, pm, an, ct, osl, rfl, lk, _⟩ := D.fc.ex
  exact tab_at T hx KX g lk rfl rfl lc hP
theorem RfK.rse {K : PySem.W.Frag} {mg : Str → Option Value} {x : Str} {a CO : Addr} (r : RfK K a CO) (g : mg x = some (.ref a)) : X1.Rse K mg x a := ⟨g, r.q, r.k, r.b, r.t⟩
theorem lamtb {base : Heap} {mg : Str → Option Value} {c P : Addr} (t : LamX.TabB base mg c P) : GxR.TabB base mg c P := ⟨t.code, t.bm, t.gP⟩

end
end W

namespace W
open PySem PySem.Spec PyProof.Rows L2 B1
theorem all_mk {w : World} {K : PySem.W.Frag} {h : Heap} {mg : Str → Option Value} {fa f0 f1 f2 f3 f4 f5 f6 f7 f8 f9 f10 f11 f12 f13 f14 f15 f16 f17 f18 f19 c0 c1 c2 c3 c4 c5 c6 c7 c8 c9 c10 c11 c12 c13 c14 c15 c16 c17 c18 c19 P18 P19 : Addr} {d0 d1 d2 d3 d4 d5 d6 d7 d8 d9 d10 d11 d12 d13 d14 d15 d16 d17 d18 d19 : FuncData} (KX : K.In h) (G : h.Ns mainGlobals mg) (hfa : mg "law" = some (.ref fa)) (T : TabOf mg h ["_law_right", "law"])
    (D0 : DefAt K "is_whole" s_is_whole f0 d0 c0)
    (D1 : DefAt K "is_whole_between" s_is_whole_between f1 d1 c1)
    (D2 : DefAt K "check_bound" s_check_bound f2 d2 c2)
    (D3 : DefAt K "check_between" s_check_between f3 d3 c3)
    (D4 : DefAt K "check_number" s_check_number f4 d4 c4)
    (D5 : DefAt K "back_of" s_back_of f5 d5 c5)
    (D6 : DefAt K "units" s_units f6 d6 c6)
    (D7 : DefAt K "find_back" s_find_back f7 d7 c7)
    (D8 : DefAt K "_law_cell" s_law_cell f8 d8 c8)
    (D9 : DefAt K "_law_pen" s_law_pen f9 d9 c9)
    (D10 : DefAt K "_law_draw" s_law_draw f10 d10 c10)
    (D11 : DefAt K "_law_whole" s_law_whole f11 d11 c11)
    (D12 : DefAt K "_law_kind" s_law_kind f12 d12 c12)
    (D13 : DefAt K "_law_said" s_law_said f13 d13 c13)
    (D14 : DefAt K "_law_same" s_law_same f14 d14 c14)
    (D15 : DefAt K "_law_bound" s_law_bound f15 d15 c15)
    (D16 : DefAt K "_law_no_bound" s_law_no_bound f16 d16 c16)
    (D17 : DefAt K "_law_no_number" s_law_no_number f17 d17 c17)
    (D18 : DefAt K "_law_right" s_law_right f18 d18 c18)
    (D19 : DefAt K "law" s_law f19 d19 c19)
    (z0 : PySem.W.nsIn K mainGlobals "isinstance" = some none)
    (z1 : PySem.W.nsIn K mainGlobals "int" = some none)
    (z2 : PySem.W.nsIn K mainGlobals "bool" = some none)
    (z3 : PySem.W.nsIn K mainGlobals "tuple" = some none)
    (z4 : PySem.W.nsIn K mainGlobals "list" = some none)
    (z5 : PySem.W.nsIn K mainGlobals "all" = some none)
    (z6 : PySem.W.nsIn K mainGlobals "len" = some none)
    (z7 : PySem.W.nsIn K mainGlobals "range" = some none)
    (z8 : PySem.W.nsIn K mainGlobals "reversed" = some none)
    (z9 : PySem.W.nsIn K mainGlobals "enumerate" = some none)
    (z10 : PySem.W.nsIn K mainGlobals "zip" = some none)
    (z11 : PySem.W.nsIn K mainGlobals "repr" = some none)
    (z12 : PySem.W.nsIn K mainGlobals "max" = some none)
    (z13 : PySem.W.nsIn K mainGlobals "min" = some none)
    (z14 : PySem.W.nsIn K mainGlobals "sum" = some none)
    (z15 : PySem.W.nsIn K mainGlobals "divmod" = some none)
    {t0 : Tok} (k0 : PySem.W.nsIn K mainGlobals "LEAST_BOUND" = some (some (.int 2 t0)))
    {t1 : Tok} (k1 : PySem.W.nsIn K mainGlobals "GREATEST_BOUND" = some (some (.int 16 t1)))
    {e18 : Value} {o18 : Option Addr} {v18 : Array Value} {s18 : Array (Option Value)} (lc18 : K.lookup c18 = some ⟨e18, o18, .fields v18, s18⟩) (lp18 : v18[11]? = some (.ref P18)) (np18 : K.lookup P18 = none)
    {e19 : Value} {o19 : Option Addr} {v19 : Array Value} {s19 : Array (Option Value)} (lc19 : K.lookup c19 = some ⟨e19, o19, .fields v19, s19⟩) (lp19 : v19[11]? = some (.ref P19)) (np19 : K.lookup P19 = none)
    (ne18_19 : P18 ≠ P19)
    {a0 a1 a2 a3 a4 a5 a6 a7 a8 a9 a10 CO : Addr}
    (w0 : PySem.W.nsIn K mainGlobals "NoBound" = some (some (.ref a0)))
    (w1 : PySem.W.nsIn K mainGlobals "NoPrime" = some (some (.ref a1)))
    (w2 : PySem.W.nsIn K mainGlobals "NoPower" = some (some (.ref a2)))
    (w3 : PySem.W.nsIn K mainGlobals "NoNumber" = some (some (.ref a3)))
    (w4 : PySem.W.nsIn K mainGlobals "NoFunction" = some (some (.ref a4)))
    (w5 : PySem.W.nsIn K mainGlobals "NoPoly" = some (some (.ref a5)))
    (w6 : PySem.W.nsIn K mainGlobals "Apart" = some (some (.ref a6)))
    (w7 : PySem.W.nsIn K mainGlobals "NoRow" = some (some (.ref a7)))
    (w8 : PySem.W.nsIn K mainGlobals "NoList" = some (some (.ref a8)))
    (w9 : PySem.W.nsIn K mainGlobals "NoText" = some (some (.ref a9)))
    (w10 : PySem.W.nsIn K mainGlobals "TooGreat" = some (some (.ref a10)))
    (wO : PySem.W.nsIn K mainGlobals "OnceError" = some (some (.ref CO))) (wV : PySem.W.nsIn K mainGlobals "ValueError" = some none)
    (y0 : Kind K (clOf a0 a1 a2 a3 a4 a5 a6 a7 a8 a9 a10) a0 0) (x0 : PySem.W.exmOne K (.ref a0) (.ref CO) = some true) (r0 : RfK K a0 CO)
    (y3 : Kind K (clOf a0 a1 a2 a3 a4 a5 a6 a7 a8 a9 a10) a3 3) (x3 : PySem.W.exmOne K (.ref a3) (.ref CO) = some true) (r3 : RfK K a3 CO)
    (y6 : Kind K (clOf a0 a1 a2 a3 a4 a5 a6 a7 a8 a9 a10) a6 6) (x6 : PySem.W.exmOne K (.ref a6) (.ref CO) = some true) (r6 : RfK K a6 CO)
    : LawG PySem.Challenge.rw_onceeach_k02_numbers_with_a_back w K 9 63 "_law_script" mg fa h := by
  have e := hfa.symm.trans (PySem.W.mg_of KX G D19.ns)
  cases e
  have I0 : DefIn K mg "is_whole" s_is_whole ["thing"] f0 d0 c0 := ⟨D0.fc, D0.fc.toFun.binds fun _ _ _ _ _ _ us hl => (match us, hl with | [_], _ => rfl), PySem.W.mg_of KX G D0.ns⟩
  have I1 : DefIn K mg "is_whole_between" s_is_whole_between ["thing", "least", "most"] f1 d1 c1 := ⟨D1.fc, D1.fc.toFun.binds fun _ _ _ _ _ _ us hl => (match us, hl with | [_, _, _], _ => rfl), PySem.W.mg_of KX G D1.ns⟩
  have I2 : DefIn K mg "check_bound" s_check_bound ["bound"] f2 d2 c2 := ⟨D2.fc, D2.fc.toFun.binds fun _ _ _ _ _ _ us hl => (match us, hl with | [_], _ => rfl), PySem.W.mg_of KX G D2.ns⟩
  have I3 : DefIn K mg "check_between" s_check_between ["number", "least", "most"] f3 d3 c3 := ⟨D3.fc, D3.fc.toFun.binds fun _ _ _ _ _ _ us hl => (match us, hl with | [_, _, _], _ => rfl), PySem.W.mg_of KX G D3.ns⟩
  have I4 : DefIn K mg "check_number" s_check_number ["bound", "number"] f4 d4 c4 := ⟨D4.fc, D4.fc.toFun.binds fun _ _ _ _ _ _ us hl => (match us, hl with | [_, _], _ => rfl), PySem.W.mg_of KX G D4.ns⟩
  have I5 : DefIn K mg "back_of" s_back_of ["bound", "number"] f5 d5 c5 := ⟨D5.fc, D5.fc.toFun.binds fun _ _ _ _ _ _ us hl => (match us, hl with | [_, _], _ => rfl), PySem.W.mg_of KX G D5.ns⟩
  have I6 : DefIn K mg "units" s_units ["bound"] f6 d6 c6 := ⟨D6.fc, D6.fc.toFun.binds fun _ _ _ _ _ _ us hl => (match us, hl with | [_], _ => rfl), PySem.W.mg_of KX G D6.ns⟩
  have I7 : DefIn K mg "find_back" s_find_back ["bound", "number"] f7 d7 c7 := ⟨D7.fc, D7.fc.toFun.binds fun _ _ _ _ _ _ us hl => (match us, hl with | [_, _], _ => rfl), PySem.W.mg_of KX G D7.ns⟩
  have I8 : DefIn K mg "_law_cell" s_law_cell ["_law_script", "_law_k"] f8 d8 c8 := ⟨D8.fc, D8.fc.toFun.binds fun _ _ _ _ _ _ us hl => (match us, hl with | [_, _], _ => rfl), PySem.W.mg_of KX G D8.ns⟩
  have I9 : DefIn K mg "_law_pen" s_law_pen ["_law_cell_here"] f9 d9 c9 := ⟨D9.fc, D9.fc.toFun.binds fun _ _ _ _ _ _ us hl => (match us, hl with | [_], _ => rfl), PySem.W.mg_of KX G D9.ns⟩
  have I10 : DefIn K mg "_law_draw" s_law_draw ["_law_pen_here", "_law_many"] f10 d10 c10 := ⟨D10.fc, D10.fc.toFun.binds fun _ _ _ _ _ _ us hl => (match us, hl with | [_, _], _ => rfl), PySem.W.mg_of KX G D10.ns⟩
  have I11 : DefIn K mg "_law_whole" s_law_whole ["_law_thing"] f11 d11 c11 := ⟨D11.fc, D11.fc.toFun.binds fun _ _ _ _ _ _ us hl => (match us, hl with | [_], _ => rfl), PySem.W.mg_of KX G D11.ns⟩
  have I12 : DefIn K mg "_law_kind" s_law_kind ["_law_e"] f12 d12 c12 := ⟨D12.fc, D12.fc.toFun.binds fun _ _ _ _ _ _ us hl => (match us, hl with | [_], _ => rfl), PySem.W.mg_of KX G D12.ns⟩
  have I13 : DefIn K mg "_law_said" s_law_said ["_law_call"] f13 d13 c13 := ⟨D13.fc, D13.fc.toFun.binds fun _ _ _ _ _ _ us hl => (match us, hl with | [_], _ => rfl), PySem.W.mg_of KX G D13.ns⟩
  have I14 : DefIn K mg "_law_same" s_law_same ["_law_found", "_law_due"] f14 d14 c14 := ⟨D14.fc, D14.fc.toFun.binds fun _ _ _ _ _ _ us hl => (match us, hl with | [_, _], _ => rfl), PySem.W.mg_of KX G D14.ns⟩
  have I15 : DefIn K mg "_law_bound" s_law_bound ["_law_pen_here"] f15 d15 c15 := ⟨D15.fc, D15.fc.toFun.binds fun _ _ _ _ _ _ us hl => (match us, hl with | [_], _ => rfl), PySem.W.mg_of KX G D15.ns⟩
  have I16 : DefIn K mg "_law_no_bound" s_law_no_bound ["_law_pen_here"] f16 d16 c16 := ⟨D16.fc, D16.fc.toFun.binds fun _ _ _ _ _ _ us hl => (match us, hl with | [_], _ => rfl), PySem.W.mg_of KX G D16.ns⟩
  have I17 : DefIn K mg "_law_no_number" s_law_no_number ["_law_pen_here", "_law_bound_here"] f17 d17 c17 := ⟨D17.fc, D17.fc.toFun.binds fun _ _ _ _ _ _ us hl => (match us, hl with | [_, _], _ => rfl), PySem.W.mg_of KX G D17.ns⟩
  have I18 : DefIn K mg "_law_right" s_law_right ["_law_bound_here"] f18 d18 c18 := ⟨D18.fc, D18.fc.toFun.binds fun _ _ _ _ _ _ us hl => (match us, hl with | [_], _ => rfl), PySem.W.mg_of KX G D18.ns⟩
  have I19 : DefIn K mg "law" s_law ["_law_script"] _ d19 c19 := ⟨D19.fc, D19.fc.toFun.binds fun _ _ _ _ _ _ us hl => (match us, hl with | [_], _ => rfl), PySem.W.mg_of KX G D19.ns⟩
  have Z : Blt mg := ⟨PySem.W.mg_none_of KX G z0, PySem.W.mg_none_of KX G z1, PySem.W.mg_none_of KX G z2, PySem.W.mg_none_of KX G z3, PySem.W.mg_none_of KX G z4, PySem.W.mg_none_of KX G z5, PySem.W.mg_none_of KX G z6, PySem.W.mg_none_of KX G z7, PySem.W.mg_none_of KX G z8, PySem.W.mg_none_of KX G z9, PySem.W.mg_none_of KX G z10, PySem.W.mg_none_of KX G z11, PySem.W.mg_none_of KX G z12, PySem.W.mg_none_of KX G z13, PySem.W.mg_none_of KX G z14, PySem.W.mg_none_of KX G z15⟩
  have q0 := PySem.W.mg_of KX G k0
  have q1 := PySem.W.mg_of KX G k1
  have C : Clss mg (clOf a0 a1 a2 a3 a4 a5 a6 a7 a8 a9 a10) := ⟨PySem.W.mg_of KX G w0, PySem.W.mg_of KX G w1, PySem.W.mg_of KX G w2, PySem.W.mg_of KX G w3, PySem.W.mg_of KX G w4, PySem.W.mg_of KX G w5, PySem.W.mg_of KX G w6, PySem.W.mg_of KX G w7, PySem.W.mg_of KX G w8, PySem.W.mg_of KX G w9, PySem.W.mg_of KX G w10, PySem.W.mg_none_of KX G wV⟩
  have R : Rfs K mg (clOf a0 a1 a2 a3 a4 a5 a6 a7 a8 a9 a10) CO [0, 3, 6] := by
    refine ⟨C, fun j hj => ?_, fun j hj => ?_, PySem.W.mg_of KX G wO⟩
    · simp only [List.mem_cons, List.not_mem_nil, or_false] at hj
      rcases hj with rfl | rfl | rfl
      · exact y0
      · exact y3
      · exact y6
    · simp only [List.mem_cons, List.not_mem_nil, or_false] at hj
      rcases hj with rfl | rfl | rfl
      · exact x0
      · exact x3
      · exact x6
  have R0 : X1.Rse K mg "NoBound" (clOf a0 a1 a2 a3 a4 a5 a6 a7 a8 a9 a10 0) := r0.rse (PySem.W.mg_of KX G w0)
  have R3 : X1.Rse K mg "NoNumber" (clOf a0 a1 a2 a3 a4 a5 a6 a7 a8 a9 a10 3) := r3.rse (PySem.W.mg_of KX G w3)
  have R6 : X1.Rse K mg "Apart" (clOf a0 a1 a2 a3 a4 a5 a6 a7 a8 a9 a10 6) := r6.rse (PySem.W.mg_of KX G w6)
  obtain ⟨hc18, ht18⟩ := D18.tab T (by simp) KX I18.g lc18 lp18
  obtain ⟨hc19, ht19⟩ := D19.tab T (by simp) KX I19.g lc19 lp19
  refine ⟨d19, [(c18, P18), (c19, P19)], sp_law K [(P18, lamQ "_law_right"), (P19, lamQ "law")], (by intro p hp; simp only [List.mem_cons, List.not_mem_nil, or_false] at hp; rcases hp with rfl | rfl <;> first | exact ht18 | exact ht19), (by intro p hp; simp only [List.mem_cons, List.not_mem_nil, or_false] at hp; rcases hp with rfl | rfl <;> first | exact np18 | exact np19), (by intro p hp; simp only [List.mem_cons, List.not_mem_nil, or_false] at hp; rcases hp with rfl | rfl <;> first | exact hc18 | exact hc19), fun s u => ?_, fun H a ns hl hbits hH hS => ?_, fun base KB GB TB => ?_⟩
  · obtain ⟨oc, od, kV, doc, pm, an, ct, osl, rfl, lk, _⟩ := D19.fc.ex
    exact .of_eq rfl
  · have hTs : Tbs [] H := fun P hP => by cases hP
    have hTl : LamX.Tabs [(P18, lamQ "_law_right"), (P19, lamQ "law")] H := fun p hp => by
      simp only [List.mem_cons, List.not_mem_nil, or_false] at hp
      rcases hp with rfl | rfl
      · exact LamX.TabS.nil (hH (c18, P18) (by simp))
      · exact LamX.TabS.nil (hH (c19, P19) (by simp))
    exact ⟨a, ns, rfl, hS, hl, hTl, fun _ => rfl⟩
  · have TBL := TB
    have L18 := TB (c18, P18) (by simp)
    have L19 := TB (c19, P19) (by simp)
    have u18 : ∀ p ∈ ([(P18, lamQ "_law_right"), (P19, lamQ "law")] : List (Addr × Str)), p.1 = P18 → p.2 = lamQ "_law_right" := by
      intro p hp e
      simp only [List.mem_cons, List.not_mem_nil, or_false] at hp
      rcases hp with rfl | rfl
      · rfl
      · exact absurd e.symm ne18_19
    have u19 : ∀ p ∈ ([(P18, lamQ "_law_right"), (P19, lamQ "law")] : List (Addr × Str)), p.1 = P19 → p.2 = lamQ "law" := by
      intro p hp e
      simp only [List.mem_cons, List.not_mem_nil, or_false] at hp
      rcases hp with rfl | rfl
      · exact absurd e ne18_19
      · rfl
    have E1 := ok_is_whole (P := PySem.Challenge.rw_onceeach_k02_numbers_with_a_back.prog) (w := w) (base := base) I0 Z
    have E2 := ok_btw I1 E1
    have E4 := ok_cbX I2 E2 q0 q1 R0
    have E3 := ok_cwX I3 E2 R3
    have E5 := ok_cnX I4 E3
    have E6 := ok_fb (P := PySem.Challenge.rw_onceeach_k02_numbers_with_a_back.prog) (w := w) (base := base) I7 Z
    have E7 := ok_bo I5 E4 E5 E6 R6
    have E8 := ok_un I6 E4 E6 Z
    have E9 := ok_same (P := PySem.Challenge.rw_onceeach_k02_numbers_with_a_back.prog) (w := w) (base := base) I14 Z
    have F1 := ok_draw (P := PySem.Challenge.rw_onceeach_k02_numbers_with_a_back.prog) (w := w) (base := base) I10 Z
    exact ok_law I19 I13 I12 E7 E8 (ok_right I18 I13 I12 E7 E8 E9 Z R L18 (by simp) u18) (ok_cell I8 Z) (ok_pen I9 Z) (ok_bound I15 F1) (ok_nob I16 F1) (ok_non I17 F1) Z R L19 (by simp) u19
end W
open PySem PySem.W PyProof.Rows
set_option maxHeartbeats 0 in
theorem PySem.Challenge.cw_onceeach_k02_numbers_with_a_back_holds : PySem.Challenge.rw_onceeach_k02_numbers_with_a_back.Holds := by
  w_on; o_law; k_head; (case hw => w_witness2)
  k_fill
  refine B1.walk_G (l := PySem.Challenge.rw_onceeach_k02_numbers_with_a_back) (n := 63) (k := 9) (x := "_law_script") ["_law_right", "law"] rfl (by decide) rfl ⟨rfl, by decide, by decide⟩ (by decide +kernel) (fun w h Y => PySem.W.km_in_of Y) ?F
  case F =>
    intro w mg fa h KX G hmg T
    refine' W.all_mk KX G hmg T ?D0 ?D1 ?D2 ?D3 ?D4 ?D5 ?D6 ?D7 ?D8 ?D9 ?D10 ?D11 ?D12 ?D13 ?D14 ?D15 ?D16 ?D17 ?D18 ?D19 ?z0 ?z1 ?z2 ?z3 ?z4 ?z5 ?z6 ?z7 ?z8 ?z9 ?z10 ?z11 ?z12 ?z13 ?z14 ?z15 ?k0 ?k1 ?lc18 ?lp18 ?np18 ?lc19 ?lp19 ?np19 ?ne18_19 ?w0 ?w1 ?w2 ?w3 ?w4 ?w5 ?w6 ?w7 ?w8 ?w9 ?w10 ?wO ?wV ?y0 ?x0 ?r0 ?y3 ?x3 ?r3 ?y6 ?x6 ?r6
    (case D0 => (refine' W.def_mk ?a ?l ?c ?k; (case a => k_is); (case l => k_is); (case c => k_is); (case k => k_is)))
    (case D1 => (refine' W.def_mk ?a ?l ?c ?k; (case a => k_is); (case l => k_is); (case c => k_is); (case k => k_is)))
    (case D2 => (refine' W.def_mk ?a ?l ?c ?k; (case a => k_is); (case l => k_is); (case c => k_is); (case k => k_is)))
    (case D3 => (refine' W.def_mk ?a ?l ?c ?k; (case a => k_is); (case l => k_is); (case c => k_is); (case k => k_is)))
    (case D4 => (refine' W.def_mk ?a ?l ?c ?k; (case a => k_is); (case l => k_is); (case c => k_is); (case k => k_is)))
    (case D5 => (refine' W.def_mk ?a ?l ?c ?k; (case a => k_is); (case l => k_is); (case c => k_is); (case k => k_is)))
    (case D6 => (refine' W.def_mk ?a ?l ?c ?k; (case a => k_is); (case l => k_is); (case c => k_is); (case k => k_is)))
    (case D7 => (refine' W.def_mk ?a ?l ?c ?k; (case a => k_is); (case l => k_is); (case c => k_is); (case k => k_is)))
    (case D8 => (refine' W.def_mk ?a ?l ?c ?k; (case a => k_is); (case l => k_is); (case c => k_is); (case k => k_is)))
    (case D9 => (refine' W.def_mk ?a ?l ?c ?k; (case a => k_is); (case l => k_is); (case c => k_is); (case k => k_is)))
    (case D10 => (refine' W.def_mk ?a ?l ?c ?k; (case a => k_is); (case l => k_is); (case c => k_is); (case k => k_is)))
    (case D11 => (refine' W.def_mk ?a ?l ?c ?k; (case a => k_is); (case l => k_is); (case c => k_is); (case k => k_is)))
    (case D12 => (refine' W.def_mk ?a ?l ?c ?k; (case a => k_is); (case l => k_is); (case c => k_is); (case k => k_is)))
    (case D13 => (refine' W.def_mk ?a ?l ?c ?k; (case a => k_is); (case l => k_is); (case c => k_is); (case k => k_is)))
    (case D14 => (refine' W.def_mk ?a ?l ?c ?k; (case a => k_is); (case l => k_is); (case c => k_is); (case k => k_is)))
    (case D15 => (refine' W.def_mk ?a ?l ?c ?k; (case a => k_is); (case l => k_is); (case c => k_is); (case k => k_is)))
    (case D16 => (refine' W.def_mk ?a ?l ?c ?k; (case a => k_is); (case l => k_is); (case c => k_is); (case k => k_is)))
    (case D17 => (refine' W.def_mk ?a ?l ?c ?k; (case a => k_is); (case l => k_is); (case c => k_is); (case k => k_is)))
    (case D18 => (refine' W.def_mk ?a ?l ?c ?k; (case a => k_is); (case l => k_is); (case c => k_is); (case k => k_is)))
    (case D19 => (refine' W.def_mk ?a ?l ?c ?k; (case a => k_is); (case l => k_is); (case c => k_is); (case k => k_is)))
    (case z0 => k_is)
    (case z1 => k_is)
    (case z2 => k_is)
    (case z3 => k_is)
    (case z4 => k_is)
    (case z5 => k_is)
    (case z6 => k_is)
    (case z7 => k_is)
    (case z8 => k_is)
    (case z9 => k_is)
    (case z10 => k_is)
    (case z11 => k_is)
    (case z12 => k_is)
    (case z13 => k_is)
    (case z14 => k_is)
    (case z15 => k_is)
    (case k0 => k_is)
    (case k1 => k_is)
    (case lc18 => k_is); (case lp18 => rfl); (case np18 => first | rfl | with_unfolding_all rfl | decide +kernel | (trace_state; k_is))
    (case lc19 => k_is); (case lp19 => rfl); (case np19 => first | rfl | with_unfolding_all rfl | decide +kernel | (trace_state; k_is))
    (case ne18_19 => first | decide | decide +kernel | (trace_state; omega))
    (case w0 => k_is)
    (case w1 => k_is)
    (case w2 => k_is)
    (case w3 => k_is)
    (case w4 => k_is)
    (case w5 => k_is)
    (case w6 => k_is)
    (case w7 => k_is)
    (case w8 => k_is)
    (case w9 => k_is)
    (case w10 => k_is)
    (case wO => k_is)
    (case wV => k_is)
    (case y0 => (refine' W.kind_mk ⟨?ye0_0, ?ye0_1, ?ye0_2, ?ye0_3, ?ye0_4, ?ye0_5, ?ye0_6, ?ye0_7⟩ ?yv0 ?yh0_0 ?yh0_1 ?yh0_2 ?yh0_3 ?yh0_4 ?yh0_5 ?yh0_6 ?yh0_7 ?yh0_8 ?yh0_9 ?yh0_10 (by decide); (case ye0_0 => k_is); (case ye0_1 => k_is); (case ye0_2 => k_is); (case ye0_3 => k_is); (case ye0_4 => k_is); (case ye0_5 => k_is); (case ye0_6 => k_is); (case ye0_7 => k_is); (case yv0 => kit_is); (case yh0_0 => kit_is); (case yh0_1 => kit_is); (case yh0_2 => kit_is); (case yh0_3 => kit_is); (case yh0_4 => kit_is); (case yh0_5 => kit_is); (case yh0_6 => kit_is); (case yh0_7 => kit_is); (case yh0_8 => kit_is); (case yh0_9 => kit_is); (case yh0_10 => kit_is)))
    (case x0 => (refine' W.exm_mk ?xb0 ?xi0 ?xt0 ?xs0; (case xb0 => k_is); (case xi0 => k_is); (case xt0 => k_is); (case xs0 => k_is)))
    (case r0 => (refine' W.RfK.mk ?rq0 ?rk0 ?rb0 ?rt0; (case rq0 => k_exc); (case rk0 => k_is); (case rb0 => k_is); (case rt0 => k_is)))
    (case y3 => (refine' W.kind_mk ⟨?ye3_0, ?ye3_1, ?ye3_2, ?ye3_3, ?ye3_4, ?ye3_5, ?ye3_6, ?ye3_7⟩ ?yv3 ?yh3_0 ?yh3_1 ?yh3_2 ?yh3_3 ?yh3_4 ?yh3_5 ?yh3_6 ?yh3_7 ?yh3_8 ?yh3_9 ?yh3_10 (by decide); (case ye3_0 => k_is); (case ye3_1 => k_is); (case ye3_2 => k_is); (case ye3_3 => k_is); (case ye3_4 => k_is); (case ye3_5 => k_is); (case ye3_6 => k_is); (case ye3_7 => k_is); (case yv3 => kit_is); (case yh3_0 => kit_is); (case yh3_1 => kit_is); (case yh3_2 => kit_is); (case yh3_3 => kit_is); (case yh3_4 => kit_is); (case yh3_5 => kit_is); (case yh3_6 => kit_is); (case yh3_7 => kit_is); (case yh3_8 => kit_is); (case yh3_9 => kit_is); (case yh3_10 => kit_is)))
    (case x3 => (refine' W.exm_mk ?xb3 ?xi3 ?xt3 ?xs3; (case xb3 => k_is); (case xi3 => k_is); (case xt3 => k_is); (case xs3 => k_is)))
    (case r3 => (refine' W.RfK.mk ?rq3 ?rk3 ?rb3 ?rt3; (case rq3 => k_exc); (case rk3 => k_is); (case rb3 => k_is); (case rt3 => k_is)))
    (case y6 => (refine' W.kind_mk ⟨?ye6_0, ?ye6_1, ?ye6_2, ?ye6_3, ?ye6_4, ?ye6_5, ?ye6_6, ?ye6_7⟩ ?yv6 ?yh6_0 ?yh6_1 ?yh6_2 ?yh6_3 ?yh6_4 ?yh6_5 ?yh6_6 ?yh6_7 ?yh6_8 ?yh6_9 ?yh6_10 (by decide); (case ye6_0 => k_is); (case ye6_1 => k_is); (case ye6_2 => k_is); (case ye6_3 => k_is); (case ye6_4 => k_is); (case ye6_5 => k_is); (case ye6_6 => k_is); (case ye6_7 => k_is); (case yv6 => kit_is); (case yh6_0 => kit_is); (case yh6_1 => kit_is); (case yh6_2 => kit_is); (case yh6_3 => kit_is); (case yh6_4 => kit_is); (case yh6_5 => kit_is); (case yh6_6 => kit_is); (case yh6_7 => kit_is); (case yh6_8 => kit_is); (case yh6_9 => kit_is); (case yh6_10 => kit_is)))
    (case x6 => (refine' W.exm_mk ?xb6 ?xi6 ?xt6 ?xs6; (case xb6 => k_is); (case xi6 => k_is); (case xt6 => k_is); (case xs6 => k_is)))
    (case r6 => (refine' W.RfK.mk ?rq6 ?rk6 ?rb6 ?rt6; (case rq6 => k_exc); (case rk6 => k_is); (case rb6 => k_is); (case rt6 => k_is)))
