import PyProof.Rows.All
import Wide.All
import OpenK.AllK
import Wide.FinOn
import HandS.ForMost
import HandS.ForExc
import HandS.AnyAll
import HandS.GenList
import HandS.Lambda
import PyProof.TupleOfGen
import HandS.RaiseMore
import HandS.IsInst
import HandS.Wide
import HandS.WideBits
import HandS.Flow
import HandS.Rev
import HandS.Conv
import HandS.TupAny
import HandS.EndTab
import HandS.EndOwn
import PyProof.ReprRoads
import PyProof.ReprLen
import PySem.Challenge.RW_onceeach_k11_worths_of_polynomials
set_option Elab.async false
set_option linter.all false
set_option maxRecDepth 100000
set_option maxHeartbeats 4000000
/-! generator expressions whose elements call -/
namespace GX
open PySem PySem.Spec PyProof.Rows L2 GenW

/-- the context of the generator expression's element -/
abbrev genX (X : Cx) (Aw : Around) (s : Shared) (H : Hp) (cenv : Env) (fp : List Addr) (pn : List (Addr × Obj)) : Cx :=
  { X with A := Aw.deeper cenv, s_0 := s, H_0 := H, env := cenv, outer := X.stack, stack := cenv :: X.stack, ex := fp, fn := fun _ => false, calm := true, pn := pn, xe := fun _ _ => False }

theorem over_gen {A : Around} {elt : Expr} {gs : List Comprehension} {scope : Scope} {pos : Pos} {it acc : Value} {env : Env} :
    A.over (.compLoop (.GeneratorExp elt gs scope pos) 0 it acc env) [] = A.deeper env := by
  first
    | rfl
    | (obtain ⟨hd, d, fr, gs, u⟩ := A; simp [Around.over, Around.deeper, marksOver, frameCount, unitsOf, envsOf, guardsOf, pushEnvs, pushGuards, Code.envs, Code.env?, Code.isFrame, Code.guards, Code.isGuard, Code.weight, Code.frames, Code.isCreation, Code.isCaller, Code.cUnits])
theorem over_genS {A : Around} {elt : Expr} {gs : List Comprehension} {scope : Scope} {pos : Pos} {it acc : Value} {env : Env} :
    A.over (.compStart (.GeneratorExp elt gs scope pos) 0 it acc env) [] = A.deeper env := by
  first
    | rfl
    | (obtain ⟨hd, d, fr, gs, u⟩ := A; simp [Around.over, Around.deeper, marksOver, frameCount, unitsOf, envsOf, guardsOf, pushEnvs, pushGuards, Code.envs, Code.env?, Code.isFrame, Code.guards, Code.isGuard, Code.weight, Code.frames, Code.isCreation, Code.isCaller, Code.cUnits])

section
variable {X : Cx} {pins : List (Addr × Obj)} {σ : L2.St} {H : Hp} {s : Shared}
/-- the generator's own state, freshly made -/
theorem gen_start {scope : Scope} {own : List (Str × Nat)} {fp : List Addr} {Aw : Around} {code : Value} {it : Value} {h' : Heap} {go : Obj} {gs : GenState} {tk : Nat} (I : Inv X pins σ H s) (ok : BlkOk X.N X.env.scope scope own) (hcell : ∀ y ∈ scope.names, y.2 ≠ .cell) (hN : X.N.Nodup)
    (hfp : ∀ b ∈ fp, FpOk X pins H b ∧ b < s.heap.objs.size) (hA : Aw.handled = none) (hfr : Aw.frames = some X.stack) (hgs : gs.bare = true)
    (hn : h'.Ns s.heap.objs.size (fun y => if y = ".0" then some it else none)) (hs : Heap.SameBut s.heap.objs.size (s.heap.push { cls := .type "frame", data := .dict #[] }) h')
    (hgo : ∀ v, go.data ≠ .cell v) (hgp : ∀ h : Heap, (h.push go).get? h.objs.size = some go) :
    Inv (genX X Aw s H (genEnv scope (cloFrom X.env.cells scope.names []) s.heap.objs.size code builtinsNs X.env) fp [(h'.objs.size, go)]) [] (wipe σ (own.map (·.2))) H
      { s with gens := s.gens.push gs, toks := tk, heap := h'.push go } := by
  have hfree : ∀ y ∈ scope.names, y.2 = .free → ∃ c, X.env.cells.lookup y.1 = some c := fun y hy e => by
    rcases ok.free y hy e with k | k
    · exact I.ok.has _ (.inl k)
    · exact I.ok.has _ (.inr k)
  have hsz : h'.objs.size = s.heap.objs.size + 1 := by rw [hs.1, Heap.size_push]
  have kp : ∀ b o, s.heap.get? b = some o → (h'.push go).get? b = some o := fun b o e => Heap.get?_push_of_some _ (hs.extBut b o (Nat.ne_of_lt (Heap.lt_size e)) (Heap.get?_push_of_some _ e))
  have cm : ∀ {y c}, (cloFrom X.env.cells scope.names []).lookup y = some c → X.env.cells.lookup y = some c := fun {y c} e => by
    rcases cloFrom_mem (PySem.mem_of_lookup e) with hm | ⟨h1, h2⟩
    · cases hm
    · obtain ⟨c1, hc⟩ := hfree _ h1 rfl
      have hc : X.env.cells.lookup y = some c1 := hc
      have e2 : c = c1 := by
        rw [h2, hc] <;> rfl
      rw [e2]
      exact hc
  have look : ∀ {y}, scope.names.lookup y = some .free → ∃ c, (cloFrom X.env.cells scope.names []).lookup y = some c := fun {y} hl => by
    have hy : (y, NameKind.free) ∈ scope.names := PySem.mem_of_lookup hl
    exact mem_lookup (cloFrom_has (cells := X.env.cells) (acc := []) hy)
  have clt : ∀ {y c}, X.env.cells.lookup y = some c → c < s.heap.objs.size := fun {y c} e => by
    obtain ⟨v, z⟩ := I.cell y c e
    exact z.lt
  have okB : (genX X Aw s H (genEnv scope (cloFrom X.env.cells scope.names []) s.heap.objs.size code builtinsNs X.env) fp [(h'.objs.size, go)]).Ok := by
    refine ⟨I.ok.mod, ok.kind, I.ok.glob, rfl, Nat.le_refl _, fun y z c e1 e2 => I.ok.inj y z c (cm e1) (cm e2), fun y hy => ?_, fun y c z _ => ?_, fun _ => hA, Around.frames_deeper hfr, .inr ⟨rfl, rfl⟩, fun b hb => ⟨?_, fun y c e z => ?_⟩, I.bs, Nat.le_trans I.ok.bsz I.sz, fun b o e hb => ?_, fun b hb z => ?_, I.stack, I.stkFree⟩
    · have hy : scope.names.lookup y = some .cell ∨ scope.names.lookup y = some .free := hy
      rcases hy with hy | hy
      · exact absurd rfl (hcell _ (PySem.mem_of_lookup hy))
      · exact look hy
    · have z : false = true := z
      cases z
    · exact Nat.ne_of_lt (hfp b hb).2
    · exact (hfp b hb).1.2.2.2.2.1 y c (cm e) z
    · rcases (hfp b hb).1.2.2.2.1 with z | z
      · exact I.ok.noex b o e z
      · exact absurd (Nat.lt_of_lt_of_le (Heap.lt_size e) (Nat.le_trans I.ok.bsz z)) (Nat.lt_irrefl _)
    · rcases List.mem_cons.mp (I.stkSub b z) with z | z
      · exact (hfp b hb).1.2.1 z
      · exact (hfp b hb).1.2.2.1 z
  refine ⟨okB, rfl, AllBare.push I.bare hgs, Un.kept kp, ⟨_, hn.push _, fun i y av e1 e2 e3 => ?_⟩, fun y c e => ?_, I.hok.fresh (Nat.le_refl _), fun y c e => I.freeC y c (cm e), fun p hp => ?_, I.hok.kept kp, by rw [wipe_length]; exact I.len⟩
  · obtain ⟨e2, hne⟩ := wipe_some e2
    have e3 : Vis scope y := e3
    have no : ∀ k, scope.names.lookup y = some k → k = .local ∨ k = .cell → False := fun k hk hh => by
      rcases ok.own _ (PySem.mem_of_lookup hk) hh with e' | e'
      · obtain ⟨p, hp, hpy⟩ := List.mem_map.mp e'
        have e3 := ok.ix p hp
        have : p.1 = y := hpy
        rw [this] at e3
        exact hne (List.mem_map.mpr ⟨p, hp, nodup_ix hN e3 e1⟩)
      · exact e' (List.mem_of_getElem? e1)
    rcases e3 with k | k | k
    · exact (no _ k (.inl rfl)).elim
    · exact (no _ k (.inr rfl)).elim
    · obtain ⟨m, hn', hl⟩ := I.loc
      have hvis : Vis X.env.scope y := (ok.free _ (PySem.mem_of_lookup k) rfl).elim (fun k => .inr (.inl k)) (fun k => .inr (.inr k))
      obtain ⟨w', r, q⟩ := hl i y av e1 e2 hvis
      obtain ⟨c2, h2⟩ := look k
      refine ⟨w', r, .inr ⟨.inr k, c2, h2, ?_⟩⟩
      have c1 := cm h2
      rcases q with ⟨k', _⟩ | ⟨_, c3, e', z⟩
      · have k' : X.env.scope.names.lookup y = some .local := k'
        rcases ok.free _ (PySem.mem_of_lookup k) rfl with k2 | k2 <;> rw [show X.env.scope.names.lookup y = _ from k2] at k' <;> cases k'
      · rw [c1] at e'
        cases e'
        exact z.keeps kp
  · obtain ⟨w', z⟩ := I.cell y c (cm e)
    exact ⟨w', z.keeps kp⟩
  · have hp' : p = (h'.objs.size, go) := by
      have : p ∈ [(h'.objs.size, go)] ++ ([] : List (Addr × Obj)) := hp
      simpa using this
    subst hp'
    refine ⟨hgp h', I.hok.fresh (by show s.heap.objs.size ≤ h'.objs.size; omega), ?_, fun z => ?_, hgo⟩
    · show h'.objs.size ≠ s.heap.objs.size
      omega
    · have z : h'.objs.size ∈ frs X.stack := z
      rcases List.mem_cons.mp (I.stkSub _ z) with e | e
      · have h1 := I.lt
        rw [← e] at h1
        have h2 : (h'.objs.size : Nat) < s.heap.objs.size := h1
        omega
      · exact I.nofs (a := h'.objs.size) (by omega) e
end

/-! ### the run of the generator -/
section
variable {X : Cx} {Aw : Around} {s3 : Shared} {H3 : Hp} {cenv : Env} {fp : List Addr} {pn : List (Addr × Obj)}
/-- what the consumer is told of an item, and how it goes on -/
def GYx (G : Cx) (σw : L2.St) (fp : List Addr) (tn : Nat → Heap → Prop) (W : Nat → Nat → Hp → Prop) (Yl : Nat → Nat → V → Hp → Prop) : Protocol := fun n _ v s kap =>
  ∃ i m y H, m ≤ n ∧ Inv G [] σw H s ∧ RelV y v ∧ tn (i + 1) s.heap ∧ (∀ b ∈ fp, H b = none) ∧ Yl i m y H ∧
    ∀ m' H' s', m' < m → Inv G [] σw H' s' → tn (i + 1) s'.heap → (∀ b ∈ fp, H' b = none) → W (i + 1) m' H' → kap (.send .none) s'
def GRx (G : Cx) (σw : L2.St) (Dn : Hp → Prop) : GenEnd := fun _ _ r s1 => ((r = .ok (.ret .none) ∨ r = .ok .next) ∧ ∃ H, Inv G [] σw H s1 ∧ Dn H) ∨ ∃ e, r = .error e ∧ False

theorem gx_loop {σ : L2.St} {own : List (Str × Nat)} {elt tg iter : Expr} {ifs : List Expr} {scope : Scope} {pos : Pos} {g : TG} {tt : TT} {te : TE} {J : It} {it : Addr} {tn : Nat → Heap → Prop} {W : Nat → Nat → Hp → Prop} {Dn : Hp → Prop} {Yl : Nat → Nat → V → Hp → Prop}
    (T : Turn X.prog X.w X.K tg J fp it tn) (hco : cenv.scope.isCoroutine = false)
    (pg : PG (genX X Aw s3 H3 cenv fp pn) tg g) (pt : PTs (genX X Aw s3 H3 cenv fp pn) ifs tt) (pe : PE (genX X Aw s3 H3 cenv fp pn) elt te)
    (hpn : ∀ p ∈ pn, p.1 ∉ fp)
    (turn : ∀ i m H, W i m H → (J.stop i H ∧ Dn H) ∨ (J.go i H ∧ ∀ x H', J.yld i H x H' → g x (wipe σ (own.map (·.2))) H' fun σ2 H2 => wipe σ2 (own.map (·.2)) = wipe σ (own.map (·.2)) ∧ tt σ2 H2 fun b H3 =>
      if b = true then te σ2 H3 (Yl i m) else ∃ m', m' < m ∧ W (i + 1) m' H3)) :
    ∀ (m n i : Nat) (H : Hp) (s₀ s : Shared), m < n → Inv (genX X Aw s3 H3 cenv fp pn) [] (wipe σ (own.map (·.2))) H s → tn i s.heap → (∀ b ∈ fp, H b = none) → W i m H →
      Seg (model X.prog X.w) Aw (GRx (genX X Aw s3 H3 cenv fp pn) (wipe σ (own.map (·.2))) Dn) (GYx (genX X Aw s3 H3 cenv fp pn) (wipe σ (own.map (·.2))) fp tn W Yl) n s₀
        (.compLoop (.GeneratorExp elt [⟨tg, iter, ifs, 0⟩] scope pos) 0 (.ref it) .none cenv)
        ((model X.prog X.w).den (.compLoop (.GeneratorExp elt [⟨tg, iter, ifs, 0⟩] scope pos) 0 (.ref it) .none cenv)) [] s := by
  have stat : ∀ {σ' : L2.St} {H' : Hp} {s' : Shared}, Inv (genX X Aw s3 H3 cenv fp pn) [] σ' H' s' → (∀ b ∈ fp, H' b = none) → ∀ b ∈ fp, FpOk (genX X Aw s3 H3 cenv fp pn) [] H' b := fun {σ' H' s'} I' hn b hb =>
    ⟨hn b hb, (I'.ok.exf b hb).1, I'.ok.exfs b hb, .inl hb, fun x c e => (I'.ok.exf b hb).2 x c e, fun p hp z => by
      have hp : p ∈ pn ++ [] := hp
      rw [List.append_nil] at hp
      exact hpn p hp (by rw [z]; exact hb)⟩
  intro m
  induction m using Nat.strongRecOn with
  | ind m ih =>
  intro n i H s₀ s hn I st nf w
  show Seg _ Aw _ _ _ s₀ _ ((compTurn (.GeneratorExp elt [⟨tg, iter, ifs, 0⟩] scope pos) 0 (.ref it) .none cenv).onRaise (leaving cenv)) [] s
  rw [compTurn_gen, Sem.onRaise_eq_wrap]
  refine seg_bind_wrap (wpAny_standAt ?_)
  rcases turn i m H w with ⟨stop, dn⟩ | ⟨go, step⟩
  · have td := T.done (genX X Aw s3 H3 cenv fp pn) rfl rfl rfl rfl i [] s _ H (fun _ _ => False) I (stat I nf) st stop
    refine seg_bind_wrap ?_
    rw [over_gen]
    refine thnF td fun r s6 ⟨hr, I6⟩ => ?_
    subst hr
    exact seg_end (.ok .next) (.inl ⟨.inr rfl, H, I6, dn⟩)
  · have ti := T.item (genX X Aw s3 H3 cenv fp pn) rfl rfl rfl rfl i [] s _ H (fun _ _ => False) I (stat I nf) st go
    refine seg_bind_wrap ?_
    rw [over_gen]
    refine thnF ti fun r s6 ⟨u, hr, h6⟩ => ?_
    subst hr
    refine seg_bind_wrap ?_
    rw [over_gen]
    refine thnF h6 fun _ s7 ⟨x, H7, I7, r7, y7, st7, n7⟩ => ?_
    have I7' := I7.pinned (stat I7 n7) (T.obj _ _ st7)
    refine seg_bind_wrap ?_
    rw [over_gen]
    refine thnF (pg.run _ s7 _ H7 x u _ I7' r7 (step x H7 y7)) fun _ s8 ⟨σ8, H8, I8, hw8, q8⟩ => ?_
    refine seg_bind_wrap ?_
    rw [over_gen]
    refine thnF (pt.run _ s8 σ8 H8 _ I8 q8) fun b s9 ⟨H9, I9, q9⟩ => ?_
    have fin : ∀ {s' : Shared} {H' : Hp}, Inv (genX X Aw s3 H3 cenv fp pn) ([] ++ pinsAt fp s7.heap) σ8 H' s' → Inv (genX X Aw s3 H3 cenv fp pn) [] (wipe σ (own.map (·.2))) H' s' ∧ tn (i + 1) s'.heap ∧ (∀ b ∈ fp, H' b = none) := fun {s' H'} I' => by
      have pin' : ∀ b ∈ fp, ∀ o, s7.heap.get? b = some o → s'.heap.get? b = some o ∧ H' b = none := fun b hb o e =>
        let z := I'.pin (b, o) (List.mem_append_right _ (List.mem_append_right _ (mem_pinsAt hb e)))
        ⟨z.1, z.2.1⟩
      have hl : (wipe σ (own.map (·.2))).length = σ8.length := by rw [← hw8, wipe_length]
      refine ⟨(I'.unpinned (pins := [])).weak hl (fun j v e => ?_), T.keep _ _ _ st7 fun b hb o e => (pin' b hb o e).1, fun b hb => ?_⟩
      · rw [← hw8] at e
        exact (wipe_some e).1
      · obtain ⟨o, e, _⟩ := T.obj _ _ st7 b hb
        exact (pin' b hb o e).2
    cases b with
    | false =>
      simp only [Bool.false_eq_true, if_false] at q9 ⊢
      obtain ⟨m', hm, w'⟩ := q9
      obtain ⟨J1, J2, J3⟩ := fin I9
      exact seg_again rfl (ih m' hm n (i + 1) H9 s₀ s9 (by omega) J1 J2 J3 w')
    | true =>
      simp only [if_true] at q9 ⊢
      have hy : ∀ v, yieldOut cenv v = yieldValue v := fun v => by simp only [yieldOut, hco, Bool.false_eq_true, if_false]
      simp only [hy]
      rw [Sem.bind_eq_wrap', Sem.bind_eq_wrap', Sem.wrap_wrap, Sem.wrap_wrap]
      refine seg_wrap ?_
      rw [over_gen]
      refine thnF (pe.run _ s9 σ8 H9 _ I9 q9) fun z s10 ⟨yv, H10, I10, r10, yl⟩ => ?_
      obtain ⟨J1, J2, J3⟩ := fin I10
      obtain ⟨n', rfl⟩ : ∃ n', n = n' + 1 := ⟨n - 1, by omega⟩
      refine seg_at (seg_yield rfl rfl rfl ⟨i, m, yv, H10, by omega, J1, r10, J2, J3, yl, fun m' H' s' hm I' st' nf' w' => ?_⟩)
      exact seg_again rfl (ih m' hm n' (i + 1) H' s' s' (by omega) I' st' nf' w')

theorem gx_start {elt tg iter : Expr} {ifs : List Expr} {scope : Scope} {pos : Pos} {it : Addr} {tn : Nat → Heap → Prop} {W : Nat → Nat → Hp → Prop} {R : GenEnd} {Y : Protocol} {J : It}
    (T : Turn X.prog X.w X.K tg J fp it tn) {n : Nat} {s₀ s : Shared} (st : tn 0 s.heap)
    (loop : Seg (model X.prog X.w) Aw R Y n s₀ (.compLoop (.GeneratorExp elt [⟨tg, iter, ifs, 0⟩] scope pos) 0 (.ref it) .none cenv)
        ((model X.prog X.w).den (.compLoop (.GeneratorExp elt [⟨tg, iter, ifs, 0⟩] scope pos) 0 (.ref it) .none cenv)) [] s) :
    Seg (model X.prog X.w) Aw R Y n s₀ (.compStart (.GeneratorExp elt [⟨tg, iter, ifs, 0⟩] scope pos) 0 (.ref it) .none cenv)
        ((model X.prog X.w).den (.compStart (.GeneratorExp elt [⟨tg, iter, ifs, 0⟩] scope pos) 0 (.ref it) .none cenv)) [] s := by
  show Seg _ Aw _ _ _ s₀ _ ((compStart (.GeneratorExp elt [⟨tg, iter, ifs, 0⟩] scope pos) 0 (.ref it) .none cenv).onRaise (leaving cenv)) [] s
  unfold compStart
  rw [Sem.onRaise_eq_wrap]
  show Seg _ Aw _ _ _ s₀ _ ((ask >>= _).wrap _ _ _ _) [] s
  refine seg_bind_wrap (wpAny_askSetting ?_)
  split
  · exact seg_again rfl loop
  · first
      | exact seg_bind_wrap (wpAny_rule (seg_bind_wrap (wpAny_standAt (seg_bind_wrap (T.self _ 0 s _ _ st (seg_again rfl loop))))))
      | (refine seg_bind_wrap (wpAny_rule ?_); show Seg _ Aw _ _ _ s₀ _ ((standAt iter.pos >>= _).wrap _ _ _ _) [] s; exact seg_bind_wrap (wpAny_standAt (seg_bind_wrap (T.self _ 0 s _ _ st (seg_again rfl loop)))))
end
end GX

namespace GX
open PySem PySem.Spec PyProof.Rows L2 GenW

/-- the generator at a, just made -/
structure Made (X : Cx) (pins : List (Addr × Obj)) (σ : L2.St) (own : List (Str × Nat)) (elt tg iter : Expr) (ifs : List Expr) (scope : Scope) (gpos : Pos) (J : It) (H4 : Hp) (a : Addr) (s5 : Shared) where
  s4 : Shared
  it : Addr
  fp : List Addr
  tn : Nat → Heap → Prop
  cenv : Env
  go : Obj
  g : Nat
  hsc : cenv.scope = scope
  I4 : Inv X pins σ H4 s4
  T : Turn X.prog X.w X.K tg J fp it tn
  st : tn 0 s5.heap
  hfp : ∀ b ∈ fp, FpOk X pins H4 b ∧ b < s4.heap.objs.size
  hge : s4.heap.objs.size < a
  hlt : a < s5.heap.objs.size
  gen : ∀ h : Heap, h.get? a = some go → h.IsGen a g
  gs : s5.gens[g]? = some (.fresh (.compStart (.GeneratorExp elt [⟨tg, iter, ifs, 0⟩] scope gpos) 0 (.ref it) .none cenv))
  env : ∃ code, cenv = genEnv scope (cloFrom X.env.cells scope.names []) s4.heap.objs.size code builtinsNs X.env
  inv : ∀ Aw : Around, Aw.handled = none → Aw.frames = some X.stack → Inv (genX X Aw s4 H4 cenv fp [(a, go)]) [] (wipe σ (own.map (·.2))) H4 s5

section
variable {X : Cx} {pins : List (Addr × Obj)} {σ : L2.St} {H : Hp} {s : Shared}
theorem gx_make {c P : Addr} {elt tg iter : Expr} {ifs : List Expr} {gpos : Pos} {scope : Scope} {own : List (Str × Nat)} {wi : TI} {k : Nat} {Q' : Value → Shared → Prop} {R : It → Hp → Prop}
    (hr : Room k X.A) (hN : X.N.Nodup) (TB : GxR.TabB X.base X.mg c P) (hcode : X.env.code = .ref c) (ok : BlkOk X.N X.env.scope scope own) (hcell : ∀ y ∈ scope.names, y.2 ≠ .cell) (hdot : scope.names.lookup (".0" : Str) = some NameKind.local) (hco : scope.isCoroutine = false)
    (hi : PI X tg iter wi) (hs : ∀ v, genFold iter X.env v = pure v) (I : Inv X pins σ H s) (h : wi σ H fun J H1 => GxR.TabG H1 P ∧ R J H1)
    (hQ : ∀ J H1 H4 a s5, R J H1 → GxR.Tabbed P H1 H4 → Nonempty (Made X pins σ own elt tg iter ifs scope gpos J H4 a s5) → Q' (.ref a) s5) :
    wpAny (model X.prog X.w) X.A (eval (.GeneratorExp elt [⟨tg, iter, ifs, 0⟩] scope gpos) X.env) Q' X.xe s := by
  have hfree : ∀ y ∈ scope.names, y.2 = .free → ∃ c, X.env.cells.lookup y.1 = some c := fun y hy e => by
    rcases ok.free y hy e with k | k
    · exact I.ok.has _ (.inl k)
    · exact I.ok.has _ (.inr k)
  refine wpAny_GeneratorExp_make hco (closure_ok hfree) hcell hdot ok.kind (by have := hr.dp; omega) ?_ hs
  refine thn (hi.run pins s σ H _ I h) fun xv s1 hx => thn hx fun itv s2 h2 => ?_
  obtain ⟨it, fp, tn, J, H2, e, I2, T, st2, f2, ⟨ps, hP, ht⟩, q⟩ := h2
  subst e
  have hPs : s2.heap.get? P = some { cls := .none, data := .fields ps } := I2.hok P _ hP
  have cd : PySem.W.CodeHd s2.heap c P := TB.code.keeps I2.bk
  have fsz : ∀ b ∈ fp, b < s2.heap.objs.size := fun b hb => by
    obtain ⟨o, e, _⟩ := T.obj _ _ st2 b hb
    exact Heap.lt_size e
  have fnP : ∀ b ∈ fp, b ≠ P := fun b hb z => by
    have := (f2 b hb).1
    rw [z, hP] at this
    cases this
  have cont : ∀ (code : Value) (h3 : Heap) (tk : Nat) (H4 : Hp), Heap.ExtBut P s2.heap h3 → s2.heap.objs.size ≤ h3.objs.size → GxR.Tabbed P H2 H4 → Inv X pins σ H4 { s2 with heap := h3, toks := tk } →
      wpAny (model X.prog X.w) X.A (builtinsFor X.env.globals X.env.builtins) (fun bi s₄ =>
        ∀ h', h'.Ns s₄.heap.objs.size (fun y => if y = ".0" then some (.ref it) else none) → Heap.SameBut s₄.heap.objs.size (s₄.heap.push { cls := .type "frame", data := .dict #[] }) h' →
          Q' (.ref h'.objs.size) { s₄ with
            gens := s₄.gens.push (.fresh (.compStart (.GeneratorExp elt [⟨tg, iter, ifs, 0⟩] scope gpos) 0 (.ref it) .none (genEnv scope (cloFrom X.env.cells scope.names []) s₄.heap.objs.size code bi X.env))),
            toks := s₄.toks + 1 + 1 + 1,
            heap := h'.push { cls := .type "generator", data := .fields #[.int s₄.gens.size 0, .str "<genexpr>" (s₄.toks + 1), .str (X.env.qual ++ "<genexpr>") (s₄.toks + 1 + 1)] } }) X.xe { s2 with heap := h3, toks := tk } := by
    intro code h3 tk H4 hx hsz hT I4
    obtain ⟨bm, ob, e1, e2, e3, e4, e5, e6, e7, e8⟩ := TB.bm
    refine wpAny_builtinsFor (m := X.mg) (by rw [I4.ok.glob]; exact I4.mod.glob.keeps I4.bk) e1 e2 (I4.bk _ _ e5) e6 e7 e8 ?_
    intro h' hn hsb
    have hsz' : h'.objs.size = h3.objs.size + 1 := by rw [hsb.1, Heap.size_push]
    have keep' : ∀ b o, h3.get? b = some o → h'.get? b = some o := fun b o e => hsb.extBut b o (Nat.ne_of_lt (Heap.lt_size e)) (Heap.get?_push_of_some _ e)
    have hf4 : ∀ b ∈ fp, FpOk X pins H4 b ∧ b < h3.objs.size := fun b hb => ⟨⟨by rw [hT.2 b (fnP b hb)]; exact (f2 b hb).1, (f2 b hb).2⟩, Nat.lt_of_lt_of_le (fsz b hb) hsz⟩
    refine hQ J H2 H4 _ _ q hT ⟨⟨{ s2 with heap := h3, toks := tk }, it, fp, tn, genEnv scope (cloFrom X.env.cells scope.names []) h3.objs.size code builtinsNs X.env, _, s2.gens.size, rfl, I4, T, ?_, hf4, ?_, ?_, fun h e => ⟨_, _, _, e, rfl, rfl, rfl⟩, Array.getElem?_push_size .., ⟨code, rfl⟩,
      fun Aw hA hfr => gen_start (s := { s2 with heap := h3, toks := tk }) (code := code) (it := .ref it) I4 ok hcell hN hf4 hA hfr rfl hn hsb (fun v q => by cases q) (fun h => Heap.get?_push_size _ rfl)⟩⟩
    · refine T.keep _ _ _ st2 fun b hb o e => Heap.get?_push_of_some _ (keep' b o (hx b o (fnP b hb) e))
    · show h3.objs.size < h'.objs.size
      omega
    · show h'.objs.size < (h'.push _).objs.size
      rw [Heap.size_push]
      exact Nat.lt_succ_self _
  refine ⟨I2.nolimit, ?_⟩
  cases hf : codeAmong gpos ps.toList with
  | none =>
    refine wpAny_genexprCodeX hcode (cd.code hPs ht) (cd.tab hPs) hf fun c' h' tk hx hge hlt hco' _ htab' _ => ?_
    obtain ⟨o1, vs, f1, tf, fl, tg, inF, tx, tt, op, _, _, _, _, _, _, _, _, _, htr, _⟩ := hco'
    have J4 := GxR.inv_tab (more := #[rawInt gpos.line, rawInt gpos.col, .ref c']) (h' := h') (g' := s2.gens) (d' := s2.drawn) (t' := tk) I2 hP (fun b u hb e => hx b u hb e) htab'.2 I2.bare
    exact cont _ h' tk _ hx (Nat.le_trans hge (Nat.le_of_lt hlt)) ⟨⟨_, upd_same, htr⟩, fun b hb => upd_ne hb⟩ J4
  | some cv =>
    refine wpAny_genexprCode_hit hcode (cd.code hPs ht) hf ?_
    exact cont cv s2.heap s2.toks H2 (Heap.ExtBut.refl _ _) (Nat.le_refl _) ⟨⟨ps, hP, ht⟩, fun b _ => rfl⟩ I2
end
end GX

namespace GX
open PySem PySem.Spec PyProof.Rows L2 GenW

theorem inv_gens {X : Cx} {pins : List (Addr × Obj)} {σ : L2.St} {H : Hp} {s s' : Shared} (I : Inv X pins σ H s) (ho : s'.os = s.os) (k : ∀ b o, s.heap.get? b = some o → s'.heap.get? b = some o) (hg : AllBare s'.gens) : Inv X pins σ H s' :=
  I.call' (ch := []) ho (Un.kept k) (I.hok.kept k) hg fun b z => nomatch z
theorem inv_set {X : Cx} {pins : List (Addr × Obj)} {σ : L2.St} {H : Hp} {s : Shared} {g : Nat} {x : GenState} (I : Inv X pins σ H s) (hx : x.bare = true) : Inv X pins σ H (s.setGen g x) :=
  inv_gens I rfl (fun _ _ e => e) (allBare_setGen I.bare hx)

section
variable {G : Cx} {A : Around} {σw : L2.St} {fp : List Addr} {tn : Nat → Heap → Prop} {W : Nat → Nat → Hp → Prop} {Dn : Hp → Prop} {Yl : Nat → Nat → V → Hp → Prop} {a : Addr} {g : Nat} {go : Obj}
/-- the generator sleeps, or has not begun -/
def Asleep (G : Cx) (Aw : Around) (σw : L2.St) (fp : List Addr) (tn : Nat → Heap → Prop) (W : Nat → Nat → Hp → Prop) (Dn : Hp → Prop) (Yl : Nat → Nat → V → Hp → Prop) (g n : Nat) (H : Hp) (s : Shared) : Prop :=
  Inv G [] σw H s ∧ ∃ gs, s.gens[g]? = some gs ∧ gs.Goes (model G.prog G.w) Aw (GRx G σw Dn) (GYx G σw fp tn W Yl) n (.send .none) (s.setGen g .running)
/-- one next -/
theorem gx_next {n : Nat} {H : Hp} {s : Shared} {Q : Option Value → Shared → Prop} {E : Value → Shared → Prop} (hh : A.handled = none) (hd : A.depth < recursionLimit) (hpn : (a, go) ∈ G.pn) (hgen : ∀ h : Heap, h.get? a = some go → h.IsGen a g)
    (h : Asleep G A.in1 σw fp tn W Dn Yl g n H s)
    (hY : ∀ v y i m H1 s1, Inv G [] σw H1 s1 → RelV y v → tn (i + 1) s1.heap → (∀ b ∈ fp, H1 b = none) → Yl i m y H1 →
      (∀ m' H' s', m' < m → s'.gens = s1.gens → Inv G [] σw H' s' → tn (i + 1) s'.heap → (∀ b ∈ fp, H' b = none) → W (i + 1) m' H' → ∃ n', n = n' + 1 ∧ Asleep G A.in1 σw fp tn W Dn Yl g n' H' s') → Q (some v) s1)
    (hD : ∀ H1 s1, Inv G [] σw H1 s1 → Dn H1 → Q none s1) :
    wpAny (model G.prog G.w) A (pyNext (.ref a)) Q E s := by
  obtain ⟨I, gs, hgs, hgo⟩ := h
  have hgl : g < s.gens.size := (Array.getElem?_eq_some_iff.mp hgs).1
  have ha := (I.pin (a, go) (List.mem_append_left _ hpn)).1
  refine wpAny_gsz (n := g + 1) hgl (next_genG (F := fun _ _ s1 => ∃ H, Inv G [] σw H s1 ∧ Dn H) (Er := fun _ _ => False) hh I.nolimit hd (hgen _ ha) hgs hgo (fun v s₁ gs' hbare hv => ?_) (fun s₁ hp h' hk => ?_) fun e s₁ he => he.elim)
  · intro hsz
    obtain ⟨i, m, y, H1, hm, I1, r1, st1, nf1, yl, hk⟩ := hv
    have hsz1 : g < s₁.gens.size := by
      have q : (s₁.setGen g gs').gens.size = s₁.gens.size := setGen_size _ _ _
      have hsz' : g + 1 ≤ (s₁.setGen g gs').gens.size := hsz
      omega
    cases n with
    | zero =>
      refine hY v y i m H1 _ (inv_set I1 hbare) r1 st1 nf1 yl fun m' H' s' hm' hg' I' st' nf' w' => ?_
      exact (hk m' H' (s'.setGen g .running) hm' (inv_set I' rfl) st' nf' w').elim
    | succ n =>
      refine hY v y i m H1 _ (inv_set I1 hbare) r1 st1 nf1 yl fun m' H' s' hm' hg' I' st' nf' w' => ?_
      refine ⟨n, rfl, I', gs', by rw [hg']; exact setGen_at hsz1, ?_⟩
      exact hk m' H' (s'.setGen g .running) hm' (inv_set I' rfl) st' nf' w'
  · intro _
    obtain ⟨H1, I1, dn⟩ := hp
    exact hD H1 _ (inv_gens I1 rfl hk (allBare_setGen I1.bare rfl)) dn

/-- all(..) over the generator -/
theorem gx_all_loop {R' : Result → Shared → Prop} {Qf : Hp → Prop} (hh : A.handled = none) (hd : A.depth < recursionLimit) (hpn : (a, go) ∈ G.pn) (hgen : ∀ h : Heap, h.get? a = some go → h.IsGen a g)
    (yes : ∀ i m y H, Yl i m y H → ∃ b, y = .bl b ∧ (b = true → ∃ m', m' < m ∧ W (i + 1) m' H) ∧ (b = false → Qf H))
    (hF : ∀ s H, Inv G [] σw H s → Qf H → R' (.ok (.ret (.bool false))) s) (hT : ∀ s H, Inv G [] σw H s → Dn H → R' (.ok (.ret (.bool true))) s) :
    ∀ (n : Nat) (H : Hp) (s : Shared), Asleep G A.in1.in1 σw fp tn W Dn Yl g n H s → codeAny (model G.prog G.w) A (.builtin "all.loop" ⟨[.ref a], []⟩) R' s := by
  intro n
  induction n with
  | zero =>
    intro H s h
    refine codeAny_builtin F.entry_all_loop ?_
    rw [Around.under_plainId F.plain_all_loop _]
    show wpAny _ A.in1 (pyNext (.ref a) >>= _) _ _ s
    refine wpAny_bind (gx_next (A := A.in1) hh hd hpn hgen h (fun v y i m H1 s1 I1 r1 st1 nf1 yl go => ?_) fun H1 s1 I1 dn => ?_)
    · obtain ⟨b, rfl, h1, h2⟩ := yes i m y H1 yl
      obtain rfl : v = .bool b := r1
      refine wpAny_bind (wpAny_holding (wpAny_truthy_bool ?_))
      refine wpAny_bind (wpAny_letGo ?_)
      cases b with
      | true =>
        obtain ⟨m', hm', w'⟩ := h1 rfl
        obtain ⟨n', e, _⟩ := go m' H1 s1 hm' rfl I1 st1 nf1 w'
        omega
      | false =>
        simp only [Bool.false_eq_true, if_false]
        exact wpAny_bind (wpAny_rule (wpAny_pure (hF s1 H1 I1 (h2 rfl))))
    · exact wpAny_bind (wpAny_rule (wpAny_pure (hT s1 H1 I1 dn)))
  | succ n ih =>
    intro H s h
    refine codeAny_builtin F.entry_all_loop ?_
    rw [Around.under_plainId F.plain_all_loop _]
    show wpAny _ A.in1 (pyNext (.ref a) >>= _) _ _ s
    refine wpAny_bind (gx_next (A := A.in1) hh hd hpn hgen h (fun v y i m H1 s1 I1 r1 st1 nf1 yl go => ?_) fun H1 s1 I1 dn => ?_)
    · obtain ⟨b, rfl, h1, h2⟩ := yes i m y H1 yl
      obtain rfl : v = .bool b := r1
      refine wpAny_bind (wpAny_holding (wpAny_truthy_bool ?_))
      refine wpAny_bind (wpAny_letGo ?_)
      cases b with
      | true =>
        obtain ⟨m', hm', w'⟩ := h1 rfl
        obtain ⟨n', e, z⟩ := go m' H1 s1 hm' rfl I1 st1 nf1 w'
        have e2 : n' = n := by omega
        subst e2
        simp only [if_true]
        exact wpAny_pure ⟨plainId_quiet F.plain_all_loop _, ih H1 s1 z⟩
      | false =>
        simp only [Bool.false_eq_true, if_false]
        exact wpAny_bind (wpAny_rule (wpAny_pure (hF s1 H1 I1 (h2 rfl))))
    · exact wpAny_bind (wpAny_rule (wpAny_pure (hT s1 H1 I1 dn)))

/-- the items gathered in the list at S, which is tracked -/
theorem gx_gather {R' : Result → Shared → Prop} {S : Addr} {res : Value} (hh : A.handled = none) (hd : A.depth < recursionLimit) (hpn : (a, go) ∈ G.pn) (hgen : ∀ h : Heap, h.get? a = some go → h.IsGen a g)
    (hkeep : ∀ i h h', tn i h → (∀ b ∈ fp, ∀ o, h.get? b = some o → h'.get? b = some o) → tn i h') 
    (yes : ∀ i m y H, Yl i m y H → ∃ acc, H S = some (.lst acc) ∧ acc.length < sizeLine ∧ ∃ m', m' < m ∧ W (i + 1) m' (upd H S (.lst (acc ++ [y]))))
    (hT : ∀ s H, Inv G [] σw H s → Dn H → R' (.ok (.ret res)) s) :
    ∀ (n : Nat) (H : Hp) (s : Shared), Asleep G A.in1.in1 σw fp tn W Dn Yl g n H s → codeAny (model G.prog G.w) A (.builtin "list.extend.loop" ⟨[.ref S, .ref a, res], []⟩) R' s := by
  have item : ∀ (v : Value) (y : V) (i m : Nat) (H1 : Hp) (s1 : Shared) (n : Nat), (∀ n' H s, n = n' + 1 → Asleep G A.in1.in1 σw fp tn W Dn Yl g n' H s → codeAny (model G.prog G.w) A (.builtin "list.extend.loop" ⟨[.ref S, .ref a, res], []⟩) R' s) →
      Inv G [] σw H1 s1 → RelV y v → tn (i + 1) s1.heap → (∀ b ∈ fp, H1 b = none) → Yl i m y H1 →
      (∀ m' H' s', m' < m → s'.gens = s1.gens → Inv G [] σw H' s' → tn (i + 1) s'.heap → (∀ b ∈ fp, H' b = none) → W (i + 1) m' H' → ∃ n', n = n' + 1 ∧ Asleep G A.in1.in1 σw fp tn W Dn Yl g n' H' s') →
      wpAny (model G.prog G.w) A.in1 (do updateSeq S (·.push v); again (.builtin "list.extend.loop" ⟨[.ref S, .ref a, res], []⟩)) (fun fin s' => match fin with | .done f => R' (.ok f) s' | .again c' => c'.quiet = true ∧ codeAny (model G.prog G.w) A c' R' s') (fun e s' => R' (.error e) s') s1 := by
    intro v y i m H1 s1 n ih I1 r1 st1 nf1 yl go
    obtain ⟨acc, hS, hl, m', hm', w'⟩ := yes i m y H1 yl
    obtain ⟨hz, its, c, ri, e⟩ := I1.hok S _ hS
    have hli := ri.length
    have hsz : its.toArray.size < sizeLine := by rw [List.size_toArray]; omega
    refine wpAny_bind ?_
    refine wpAny_updateSeq e rfl (wpAny_pure ⟨plainId_quiet F.plain_extend_loop _, ?_⟩) (Nat.le_of_lt hsz) (by show (its.toArray.push v).size ≤ sizeLine + 1; rw [Array.size_push]; omega)
    have oth : ∀ b o, b ≠ S → s1.heap.get? b = some o → (s1.heap.update S (Obj.mapSeq (·.push v))).get? b = some o := fun b o hbS e => (Heap.get?_update_other _ _ (Ne.symm hbS)).trans e
    have own := Heap.get?_update_self (Obj.mapSeq (·.push v)) e rfl
    have I2 : Inv G [] σw (upd H1 S (.lst (acc ++ [y]))) { s1 with heap := s1.heap.update S (Obj.mapSeq (·.push v)) } := by
      refine I1.write (t' := s1.toks) (by rw [hS]; trivial) (.inl rfl) (fun b u hb q => oth b u hb q) ⟨_, own⟩ ⟨by rw [List.length_append]; exact hl, its ++ [v], c + 1, ri.append (.cons r1 .nil), ?_⟩
      rw [own]
      simp [Obj.mapSeq]

    have nS : ∀ b ∈ fp, b ≠ S := fun b hb z => by
      have := nf1 b hb
      rw [z, hS] at this
      cases this
    obtain ⟨n', e1, z⟩ := go m' _ { s1 with heap := s1.heap.update S (Obj.mapSeq (·.push v)) } hm' rfl I2 (hkeep _ _ _ st1 fun b hb o q => oth b o (nS b hb) q) (fun b hb => by rw [upd_ne (nS b hb)]; exact nf1 b hb) w'
    exact ih n' _ _ e1 z
  intro n
  induction n with
  | zero =>
    intro H s h
    refine codeAny_builtin F.entry_extend_loop ?_
    rw [Around.under_plainId F.plain_extend_loop _]
    show wpAny _ A.in1 (pyNext (.ref a) >>= _) _ _ s
    refine wpAny_bind (gx_next (A := A.in1) hh hd hpn hgen h (fun v y i m H1 s1 I1 r1 st1 nf1 yl go => ?_) fun H1 s1 I1 dn => ?_)
    · exact item v y i m H1 s1 0 (fun n' H s e _ => by omega) I1 r1 st1 nf1 yl go
    · exact wpAny_pure (hT s1 H1 I1 dn)
  | succ n ih =>
    intro H s h
    refine codeAny_builtin F.entry_extend_loop ?_
    rw [Around.under_plainId F.plain_extend_loop _]
    show wpAny _ A.in1 (pyNext (.ref a) >>= _) _ _ s
    refine wpAny_bind (gx_next (A := A.in1) hh hd hpn hgen h (fun v y i m H1 s1 I1 r1 st1 nf1 yl go => ?_) fun H1 s1 I1 dn => ?_)
    · exact item v y i m H1 s1 (n + 1) (fun n' H s e z => by
        have e2 : n' = n := by omega
        subst e2
        exact ih H s z) I1 r1 st1 nf1 yl go
    · exact wpAny_pure (hT s1 H1 I1 dn)
end
end GX

namespace GX
open PySem PySem.Spec PyProof.Rows L2 GenW

section
variable {G : Cx} {B : Around} {E : Value → Shared → Prop} {σw : L2.St} {fp : List Addr} {tn : Nat → Heap → Prop} {a : Addr} {g : Nat} {go : Obj} {H : Hp} {s : Shared}
theorem gx_collect {Q : List Value → Shared → Prop} (hh : B.handled = none) (hd : B.depth < recursionLimit) (hpn : (a, go) ∈ G.pn) (hgen : ∀ h : Heap, h.get? a = some go → h.IsGen a g)
    (hkeep : ∀ i h h', tn i h → (∀ b ∈ fp, ∀ o, h.get? b = some o → h'.get? b = some o) → tn i h') (hobj : ∀ i h, tn i h → ∀ b ∈ fp, ∃ o, h.get? b = some o) (I : Inv G [] σw H s) (st : tn 0 s.heap) (nf : ∀ b ∈ fp, H b = none)
    (start : ∀ S s1, H S = none → s1.gens = s.gens → Inv G [] σw (upd H S (.lst [])) s1 → tn 0 s1.heap → (∀ b ∈ fp, upd H S (.lst []) b = none) →
      ∃ n W Yl Dn, Asleep G B.in1.in1 σw fp tn W Dn Yl g n (upd H S (.lst [])) s1 ∧
        (∀ i m y H, Yl i m y H → ∃ acc, H S = some (.lst acc) ∧ acc.length < sizeLine ∧ ∃ m', m' < m ∧ W (i + 1) m' (upd H S (.lst (acc ++ [y])))) ∧
        (∀ s' H', Inv G [] σw H' s' → Dn H' → ∃ acc, H' S = some (.lst acc) ∧ ∀ us, Vals acc us → Q us s')) :
    wpAny (model G.prog G.w) B (collect (.ref a)) Q E s := by
  have ha := (I.pin (a, go) (List.mem_append_left _ hpn)).1
  have hSI : s.heap.objs.size ≠ a := Nat.ne_of_gt (Heap.lt_size ha)
  have fsz : ∀ b ∈ fp, ∀ o, s.heap.get? b = some o → b ≠ s.heap.objs.size := fun b _ o e => Nat.ne_of_lt (Heap.lt_size e)
  unfold collect
  refine wpAny_bind (wpAny_runValue (codeAny_builtin F.entry_proto_collect ?_))
  rw [Around.under_plainId F.plain_proto_collect _]
  show wpAny _ B.in1 (newList [] >>= fun l => again (.builtin "list.__iadd__" ⟨[l, .ref a], []⟩)) _ _ s
  refine wpAny_bind (wpAny_newObj_type ?_)
  refine wpAny_pure ⟨plainId_quiet F.plain_list_iadd _, codeAny_builtin F.entry_list_iadd ?_⟩
  rw [Around.under_plainId F.plain_list_iadd _]
  have ga : ∀ {h : Heap} (_ : ∀ b o, s.heap.get? b = some o → h.get? b = some o), h.IsGen a g := fun {h} k => hgen h (k _ _ ha)
  have k1 : ∀ b o, s.heap.get? b = some o → (s.heap.push { cls := .type "list", data := .seq ([] : List Value).toArray }).get? b = some o := fun b o e => Heap.get?_push_of_some _ e
  show wpAny _ B.in1 (Builtin.List.listExtendWith (.ref s.heap.objs.size) (.ref a) (.ref s.heap.objs.size)) _ _ _
  unfold Builtin.List.listExtendWith
  refine wpAny_bind (wpAny_typeOf (Heap.IsGen.typeIs (s := { s with heap := _ }) (ga k1)) ?_)
  have h1 : Builtin.List.listSameRef (.ref s.heap.objs.size) (.ref a) = false := by simp [Builtin.List.listSameRef, hSI]
  have h2 : (Value.type "generator" == Value.type "list") = false := by decide
  have h3 : (Value.type "generator" == Value.type "tuple") = false := by decide
  simp only [h1, h2, h3, Bool.or_false, Bool.false_eq_true, if_false]
  refine wpAny_bind (wpAny_pyIter_gen (s := { s with heap := _ }) (ga k1) ?_)
  refine wpAny_bind (wpAny_holding ?_)
  unfold Builtin.List.listLengthHint
  refine wpAny_bind (wpAny_specialOf (Heap.IsGen.typeIs (s := { s with heap := _ }) (ga k1)) F.gen_no_len ?_)
  show wpAny _ B.in1 (specialOf (Value.ref a) (Str.ofString "__length_hint__") >>= _) _ _ _
  refine wpAny_bind (wpAny_specialOf (Heap.IsGen.typeIs (s := { s with heap := _ }) (ga k1)) F.gen_no_hint ?_)
  refine wpAny_pure ?_
  show wpAny _ B.in1 (rule "list.extend.makes-room" >>= fun _ => Builtin.List.listTouch (.ref s.heap.objs.size) >>= fun _ =>
    again (.builtin "list.extend.loop" ⟨[.ref s.heap.objs.size, .ref a, .ref s.heap.objs.size], []⟩)) _ _ _
  refine wpAny_bind (wpAny_rule ?_)
  have hS₁ : (s.heap.push { cls := .type "list", data := .seq ([] : List Value).toArray }).get? s.heap.objs.size = some { cls := .type "list", data := .seq ([] : List Value).toArray } := Heap.get?_push_size _ rfl
  refine wpAny_bind ?_
  show wpAny _ B.in1 (updateSeq s.heap.objs.size (·.push .none) >>= fun _ => updateSeq s.heap.objs.size (·.pop)) _ _ _
  refine wpAny_bind (wpAny_updateSeq hS₁ rfl ?_)
  have hS₂ := Heap.get?_update_self (Obj.mapSeq (·.push Value.none)) hS₁ rfl
  refine wpAny_updateSeq hS₂ rfl ?_
  have hS₃ := Heap.get?_update_self (Obj.mapSeq (·.pop)) hS₂ rfl
  have oth : ∀ b o, b ≠ s.heap.objs.size → s.heap.get? b = some o →
      (((s.heap.push { cls := .type "list", data := .seq ([] : List Value).toArray }).update s.heap.objs.size (Obj.mapSeq (·.push Value.none))).update s.heap.objs.size (Obj.mapSeq (·.pop))).get? b = some o :=
    fun b o hb e => (Heap.get?_update_other _ _ (Ne.symm hb)).trans ((Heap.get?_update_other _ _ (Ne.symm hb)).trans (k1 b o e))
  have kp : ∀ b o, s.heap.get? b = some o → (((s.heap.push { cls := .type "list", data := .seq ([] : List Value).toArray }).update s.heap.objs.size (Obj.mapSeq (·.push Value.none))).update s.heap.objs.size (Obj.mapSeq (·.pop))).get? b = some o :=
    fun b o e => oth b o (Nat.ne_of_lt (Heap.lt_size e)) e
  have I1 : Inv G [] σw (upd H s.heap.objs.size (.lst [])) { s with heap := (((s.heap.push { cls := .type "list", data := .seq ([] : List Value).toArray }).update s.heap.objs.size (Obj.mapSeq (·.push Value.none))).update s.heap.objs.size (Obj.mapSeq (·.pop))) } :=
    I.laid (t' := s.toks) kp (Nat.le_refl _) ⟨Nat.zero_le _, [], _, .nil, hS₃⟩
  obtain ⟨n, W, Yl, Dn, hz, yes, fin⟩ := start s.heap.objs.size { s with heap := (((s.heap.push { cls := .type "list", data := .seq ([] : List Value).toArray }).update s.heap.objs.size (Obj.mapSeq (·.push Value.none))).update s.heap.objs.size (Obj.mapSeq (·.pop))) } (I.hok.fresh (Nat.le_refl _)) rfl I1 (hkeep _ _ _ st fun b hb o e => kp b o e) (fun b hb => by
    by_cases z : b = s.heap.objs.size
    · obtain ⟨o, e⟩ := hobj 0 _ st b hb
      exact absurd z (Nat.ne_of_lt (Heap.lt_size e))
    · rw [upd_ne z]; exact nf b hb)
  refine wpAny_pure ⟨plainId_quiet F.plain_extend_loop _, gx_gather (A := B) hh hd hpn hgen hkeep yes (fun s' H' I' dn => ?_) n _ _ hz⟩
  obtain ⟨acc, hS, hq⟩ := fin s' H' I' dn
  obtain ⟨hl, its, c, ri, e⟩ := I'.hok _ _ hS
  show wpAny _ B (load s.heap.objs.size >>= _) _ _ s'
  refine wpAny_bind (wpAny_load e ?_)
  refine wpAny_pure ?_
  have := hq its ri
  simpa using this

theorem gx_code_tuple {A : Around} {Q₁ : Value → Shared → Prop} (hh : A.handled = none) (hd : A.depth < recursionLimit) (hpn : (a, go) ∈ G.pn) (hgen : ∀ h : Heap, h.get? a = some go → h.IsGen a g)
    (hkeep : ∀ i h h', tn i h → (∀ b ∈ fp, ∀ o, h.get? b = some o → h'.get? b = some o) → tn i h') (hobj : ∀ i h, tn i h → ∀ b ∈ fp, ∃ o, h.get? b = some o) (I : Inv G [] σw H s) (st : tn 0 s.heap) (nf : ∀ b ∈ fp, H b = none)
    (start : ∀ S s1, H S = none → s1.gens = s.gens → Inv G [] σw (upd H S (.lst [])) s1 → tn 0 s1.heap → (∀ b ∈ fp, upd H S (.lst []) b = none) →
      ∃ n W Yl Dn, Asleep G A.in1.in1.in1 σw fp tn W Dn Yl g n (upd H S (.lst [])) s1 ∧
        (∀ i m y H, Yl i m y H → ∃ acc, H S = some (.lst acc) ∧ acc.length < sizeLine ∧ ∃ m', m' < m ∧ W (i + 1) m' (upd H S (.lst (acc ++ [y])))) ∧
        (∀ s' H', Inv G [] σw H' s' → Dn H' → ∃ acc, H' S = some (.lst acc) ∧ ∀ us, Vals acc us → Q₁ (.ref s'.heap.objs.size) { s' with heap := s'.heap.push { cls := .type "tuple", data := .seq us.toArray } })) :
    codeAny (model G.prog G.w) A (.call (.builtin "tuple.__new__") ⟨[.type "tuple", .ref a], []⟩) (wants Q₁ E) s := by
  refine codeAny_of_tree ?_
  show wpAny _ A.in1 (do checkBuiltinCall "tuple.__new__" ⟨[.type "tuple", .ref a], []⟩; again (.builtin "tuple.__new__" ⟨[.type "tuple", .ref a], []⟩)) _ _ s
  refine wpAny_bind (wpAny_of_eq (F.newCall_tuple_1 _) (wpAny_pure ⟨plainId_quiet F.plain_tuple_new _, codeAny_builtin F.entry_tuple_new ?_⟩))
  rw [Around.under_plainId F.plain_tuple_new _]
  have hsub := sub_tuple_self
  have hinit := init_tuple_lookup
  have hmh := madeHere_tuple
  have ha := (I.pin (a, go) (List.mem_append_left _ hpn)).1
  have hTI : s.TypeIs (.ref a) "generator" := Heap.IsGen.typeIs (s := s) (hgen _ ha)
  wp_walk using wpAny_typeOf hTI, gx_collect (B := A.in1) hh hd hpn hgen hkeep hobj I st nf
  intro S s1 h1 h2 h3 h4 h5
  obtain ⟨n, W, Yl, Dn, hz, yes, fin⟩ := start S s1 h1 h2 h3 h4 h5
  refine ⟨n, W, Yl, Dn, hz, yes, fun s' H' I' dn => ?_⟩
  obtain ⟨acc, hS, hq⟩ := fin s' H' I' dn
  refine ⟨acc, hS, fun us r => ?_⟩
  show wpAny _ _ (Builtin.Tuple.tupleExact us.toArray >>= fun v => ret v) _ _ _
  unfold Builtin.Tuple.tupleExact
  have hl := (I'.hok _ _ hS).1
  refine wpAny_bind (wpAny_newObj_type ?_ (by show us.toArray.size ≤ sizeLine; rw [List.size_toArray, ← r.length]; exact hl))
  exact wpAny_pure (hq us r)

theorem gx_call_tuple {A : Around} {Q : Value → Shared → Prop} (hh : A.handled = none) (hd : A.depth < recursionLimit) (hpn : (a, go) ∈ G.pn) (hgen : ∀ h : Heap, h.get? a = some go → h.IsGen a g)
    (hkeep : ∀ i h h', tn i h → (∀ b ∈ fp, ∀ o, h.get? b = some o → h'.get? b = some o) → tn i h') (hobj : ∀ i h, tn i h → ∀ b ∈ fp, ∃ o, h.get? b = some o) (I : Inv G [] σw H s) (st : tn 0 s.heap) (nf : ∀ b ∈ fp, H b = none)
    (start : ∀ S s1, H S = none → s1.gens = s.gens → Inv G [] σw (upd H S (.lst [])) s1 → tn 0 s1.heap → (∀ b ∈ fp, upd H S (.lst []) b = none) →
      ∃ n W Yl Dn, Asleep G A.in1.in1.in1.in1 σw fp tn W Dn Yl g n (upd H S (.lst [])) s1 ∧
        (∀ i m y H, Yl i m y H → ∃ acc, H S = some (.lst acc) ∧ acc.length < sizeLine ∧ ∃ m', m' < m ∧ W (i + 1) m' (upd H S (.lst (acc ++ [y])))) ∧
        (∀ s' H', Inv G [] σw H' s' → Dn H' → ∃ acc, H' S = some (.lst acc) ∧ ∀ us, Vals acc us → Q (.ref s'.heap.objs.size) { s' with heap := s'.heap.push { cls := .type "tuple", data := .seq us.toArray } })) :
    wpAny (model G.prog G.w) A (call (.type "tuple") [.ref a]) Q E s := by
  refine callType_codes (Q₁ := fun obj s₁ => s₁.TypeIs obj "tuple" ∧ Q obj s₁) F.called_tuple (F.typeCall_tuple_1 _) F.entry_object_init
    (gx_code_tuple (A := A.in1) hh hd hpn hgen hkeep hobj I st nf fun S s1 h1 h2 h3 h4 h5 => ?_) fun obj s₁ h₁ => ?_
  · obtain ⟨n, W, Yl, Dn, hz, yes, fin⟩ := start S s1 h1 h2 h3 h4 h5
    refine ⟨n, W, Yl, Dn, hz, yes, fun s' H' I' dn => ?_⟩
    obtain ⟨acc, hS, hq⟩ := fin s' H' I' dn
    exact ⟨acc, hS, fun us r => ⟨⟨_, Heap.get?_push_size _ rfl, rfl⟩, hq us r⟩⟩
  · exact ⟨h₁.1, F.args_object_init_2 obj _, object_init_meets F.called_tuple.init.lookup F.called_tuple.made (by decide) G.prog G.w A.in1 _ s₁ ⟨h₁.1, rfl, h₁.2⟩⟩
end
end GX

namespace GX
open PySem PySem.Spec PyProof.Rows L2 GenW

/-- back in the def's context -/
theorem Made.back {X : Cx} {pins : List (Addr × Obj)} {σ σw : L2.St} {own : List (Str × Nat)} {elt tg iter : Expr} {ifs : List Expr} {scope : Scope} {gpos : Pos} {J : It} {H4 H : Hp} {a : Addr} {s5 s : Shared} {Aw : Around} {pn : List (Addr × Obj)}
    (M : Made X pins σ own elt tg iter ifs scope gpos J H4 a s5) (I : Inv (genX X Aw M.s4 H4 M.cenv M.fp pn) [] σw H s) : Inv X pins σ H s :=
  M.I4.call' (ch := M.fp) I.os I.base I.hok I.bare fun b hb => ⟨(M.hfp b hb).1.2.2.2.1, (M.hfp b hb).1.2.1, (M.hfp b hb).1.2.2.2.2.1, (M.hfp b hb).1.2.2.2.2.2⟩

/-- what each turn is to do -/
def Turns (J : It) (g : TG) (tt : TT) (te : TE) (σ : L2.St) (vs : List Nat) (W : Nat → Nat → Hp → Prop) (Dn : Hp → Prop) (Yl : Nat → Nat → V → Hp → Prop) : Prop :=
  ∀ i m H, W i m H → (J.stop i H ∧ Dn H) ∨ (J.go i H ∧ ∀ x H', J.yld i H x H' → g x (wipe σ vs) H' fun σ2 H2 => wipe σ2 vs = wipe σ vs ∧ tt σ2 H2 fun b H3 =>
    if b = true then te σ2 H3 (Yl i m) else ∃ m', m' < m ∧ W (i + 1) m' H3)

/-- all(elt for tg in iter if ..): behind it the def's table may have grown -/
def tAllG (P : Addr) (wi : TI) (g : TG) (tt : TT) (te : TE) (vs : List Nat) : TE := fun σ H Q => wi σ H fun J H1 => GxR.TabG H1 P ∧ ∀ H4, GxR.Tabbed P H1 H4 → ∃ W : Nat → Nat → Hp → Prop, (∃ m, W 0 m H4) ∧
  Turns J g tt te σ vs W (fun H => Q (.bl true) H) (fun i m y H => ∃ b, y = .bl b ∧ (b = true → ∃ m', m' < m ∧ W (i + 1) m' H) ∧ (b = false → Q (.bl false) H))
/-- tuple(elt for tg in iter if ..): the items are gathered in a list at S -/
def tTupG (P : Addr) (wi : TI) (g : TG) (tt : TT) (te : TE) (vs : List Nat) : TE := fun σ H Q => wi σ H fun J H1 => GxR.TabG H1 P ∧ ∀ H4 S, GxR.Tabbed P H1 H4 → H4 S = none → ∃ W : Nat → Nat → Hp → Prop, (∃ m, W 0 m (upd H4 S (.lst []))) ∧
  Turns J g tt te σ vs W (fun H => ∃ acc, H S = some (.lst acc) ∧ ∀ p, H p = none → Q (.ref p) (upd H p (.tup acc)))
    (fun i m y H => ∃ acc, H S = some (.lst acc) ∧ acc.length < sizeLine ∧ ∃ m', m' < m ∧ W (i + 1) m' (upd H S (.lst (acc ++ [y]))))

section
variable {X : Cx} {c P : Addr} {elt tg iter : Expr} {ifs : List Expr} {p pos gpos : Pos} {scope : Scope} {own : List (Str × Nat)} {wi : TI} {g : TG} {tt : TT} {te : TE} {k : Nat}

theorem gx_wake {pins : List (Addr × Obj)} {σ : L2.St} {J : It} {H4 H : Hp} {a : Addr} {s5 s1 : Shared} {Aw : Around} {W : Nat → Nat → Hp → Prop} {Dn : Hp → Prop} {Yl : Nat → Nat → V → Hp → Prop} {m : Nat}
    (M : Made X pins σ own elt tg iter ifs scope gpos J H4 a s5) (hco : scope.isCoroutine = false)
    (pg : PG (genX X Aw M.s4 H4 M.cenv M.fp [(a, M.go)]) tg g) (pt : PTs (genX X Aw M.s4 H4 M.cenv M.fp [(a, M.go)]) ifs tt) (pe : PE (genX X Aw M.s4 H4 M.cenv M.fp [(a, M.go)]) elt te)
    (I : Inv (genX X Aw M.s4 H4 M.cenv M.fp [(a, M.go)]) [] (wipe σ (own.map (·.2))) H s1) (st : M.tn 0 s1.heap) (hgens : s1.gens = s5.gens) (nf : ∀ b ∈ M.fp, H b = none) (turn : Turns J g tt te σ (own.map (·.2)) W Dn Yl) (w : W 0 m H) :
    Asleep (genX X Aw M.s4 H4 M.cenv M.fp [(a, M.go)]) Aw (wipe σ (own.map (·.2))) M.fp M.tn W Dn Yl M.g (m + 1) H s1 := by
  refine ⟨I, .fresh (.compStart (.GeneratorExp elt [⟨tg, iter, ifs, 0⟩] scope gpos) 0 (.ref M.it) .none M.cenv), by rw [hgens]; exact M.gs, rfl, ?_⟩
  refine gx_start (X := X) (J := J) (W := W) M.T st ?_
  refine gx_loop M.T (by rw [M.hsc]; exact hco) pg pt pe (fun p hp z => ?_) turn m (m + 1) 0 H _ _ (Nat.lt_succ_self _) (inv_set I rfl) st nf w
  rw [List.mem_singleton.mp hp] at z
  exact absurd (M.hfp a z).2 (Nat.not_lt.mpr (Nat.le_of_lt M.hge))

theorem pe_allG (hr : Room (k + 4) X.A) (hN : X.N.Nodup) (hg : Gl X "all") (hm : X.mg "all" = none) (TB : GxR.TabB X.base X.mg c P) (hcode : X.env.code = .ref c) (ok : BlkOk X.N X.env.scope scope own) (hcell : ∀ y ∈ scope.names, y.2 ≠ .cell) (hdot : scope.names.lookup (".0" : Str) = some NameKind.local) (hco : scope.isCoroutine = false)
    (hi : PI X tg iter wi) (hs : ∀ v, genFold iter X.env v = pure v)
    (pg : ∀ (Aw : Around) (s4 : Shared) (H4 : Hp) (C : Addr) (code : Value) (fp : List Addr) (pn : List (Addr × Obj)), PG (genX X Aw s4 H4 (genEnv scope (cloFrom X.env.cells scope.names []) C code builtinsNs X.env) fp pn) tg g)
    (pt : ∀ (Aw : Around) (s4 : Shared) (H4 : Hp) (C : Addr) (code : Value) (fp : List Addr) (pn : List (Addr × Obj)), Room (k + 1) Aw → PTs (genX X Aw s4 H4 (genEnv scope (cloFrom X.env.cells scope.names []) C code builtinsNs X.env) fp pn) ifs tt)
    (pe : ∀ (Aw : Around) (s4 : Shared) (H4 : Hp) (C : Addr) (code : Value) (fp : List Addr) (pn : List (Addr × Obj)), Room (k + 1) Aw → PE (genX X Aw s4 H4 (genEnv scope (cloFrom X.env.cells scope.names []) C code builtinsNs X.env) fp pn) elt te)
    (he : starEach [.GeneratorExp elt [⟨tg, iter, ifs, 0⟩] scope gpos] X.env = (false, eval (.GeneratorExp elt [⟨tg, iter, ifs, 0⟩] scope gpos) X.env) :: starEach [] X.env := by rfl) :
    PE X (.Call (.Name "all" p) [.GeneratorExp elt [⟨tg, iter, ifs, 0⟩] scope gpos] [] pos) (tAllG P wi g tt te (own.map (·.2))) := by
  refine ⟨fun pins s σ H Q I h => ?_⟩
  refine wpAny_Call_Name_kw (ld_blt I hg hm (by decide +kernel : bootBuiltins "all" = some (.builtin "all")) ?_)
  refine PyProof.Rows.callWith_builtin1 ?_ he (by rfl)
  rw [he]
  show wpAny _ _ (spliced ((false, eval (.GeneratorExp elt [⟨tg, iter, ifs, 0⟩] scope gpos) X.env) :: backTo pos (starEach [] X.env))) _ _ s
  refine Calls.spliced_cons (gx_make hr hN TB hcode ok hcell hdot hco hi hs I h fun J H1 H4 a s5 hR hT ⟨M⟩ => ?_)
  obtain ⟨W, ⟨m, w⟩, turn⟩ := hR H4 hT
  refine Calls.spliced_nil ?_
  have hfr : X.A.in1.in1.frames = some X.stack := I.ok.frames
  have I5 := M.inv X.A.in1.in1 hr.hd hfr
  have hgen := M.gen _ (I5.pin (a, M.go) (List.mem_append_left _ (List.mem_singleton.mpr rfl))).1
  obtain ⟨code, hce⟩ := M.env
  have hA2 : Room (k + 1) X.A.in1.in1 := (hr.mono (by omega : k + 3 ≤ k + 4)).in1.in1
  refine call_function_tree F.kind_all F.plain_all F.entry_all (F.args_all1 _) ?_
  unfold Builtin.«all»
  refine wpAny_bind (m := oneArg "all" _) (wpAny_pure ?_)
  refine wpAny_bind (wpAny_pyIter_gen hgen ?_)
  refine wpAny_pure ⟨plainId_quiet F.plain_all_loop _, ?_⟩
  refine gx_all_loop (G := genX X X.A.in1.in1 M.s4 H4 M.cenv M.fp [(a, M.go)]) (A := X.A) (Qf := fun H => Q (.bl false) H) (g := M.g) (go := M.go) (fp := M.fp) (tn := M.tn) hr.hd hr.depth (List.mem_singleton.mpr rfl) M.gen (fun i m y H q => q)
    (fun s' H' I' q => ⟨.bl false, H', M.back I', rfl, q⟩) (fun s' H' I' q => ⟨.bl true, H', M.back I', rfl, q⟩) (m + 1) H4 s5
    (gx_wake M hco (by rw [hce]; exact pg _ _ _ _ _ _ _) (by rw [hce]; exact pt _ _ _ _ _ _ _ hA2) (by rw [hce]; exact pe _ _ _ _ _ _ _ hA2) I5 M.st rfl (fun b hb => (M.hfp b hb).1.1) turn w)

theorem pe_tupG (hr : Room (k + 6) X.A) (hN : X.N.Nodup) (hg : Gl X "tuple") (hm : X.mg "tuple" = none) (TB : GxR.TabB X.base X.mg c P) (hcode : X.env.code = .ref c) (ok : BlkOk X.N X.env.scope scope own) (hcell : ∀ y ∈ scope.names, y.2 ≠ .cell) (hdot : scope.names.lookup (".0" : Str) = some NameKind.local) (hco : scope.isCoroutine = false)
    (hi : PI X tg iter wi) (hs : ∀ v, genFold iter X.env v = pure v)
    (pg : ∀ (Aw : Around) (s4 : Shared) (H4 : Hp) (C : Addr) (code : Value) (fp : List Addr) (pn : List (Addr × Obj)), PG (genX X Aw s4 H4 (genEnv scope (cloFrom X.env.cells scope.names []) C code builtinsNs X.env) fp pn) tg g)
    (pt : ∀ (Aw : Around) (s4 : Shared) (H4 : Hp) (C : Addr) (code : Value) (fp : List Addr) (pn : List (Addr × Obj)), Room (k + 1) Aw → PTs (genX X Aw s4 H4 (genEnv scope (cloFrom X.env.cells scope.names []) C code builtinsNs X.env) fp pn) ifs tt)
    (pe : ∀ (Aw : Around) (s4 : Shared) (H4 : Hp) (C : Addr) (code : Value) (fp : List Addr) (pn : List (Addr × Obj)), Room (k + 1) Aw → PE (genX X Aw s4 H4 (genEnv scope (cloFrom X.env.cells scope.names []) C code builtinsNs X.env) fp pn) elt te)
    (he : starEach [.GeneratorExp elt [⟨tg, iter, ifs, 0⟩] scope gpos] X.env = (false, eval (.GeneratorExp elt [⟨tg, iter, ifs, 0⟩] scope gpos) X.env) :: starEach [] X.env := by rfl) :
    PE X (.Call (.Name "tuple" p) [.GeneratorExp elt [⟨tg, iter, ifs, 0⟩] scope gpos] [] pos) (tTupG P wi g tt te (own.map (·.2))) := by
  refine ⟨fun pins s σ H Q I h => ?_⟩
  refine wpAny_Call_Name_kw (ld_blt I hg hm (by decide +kernel : bootBuiltins "tuple" = some (.type "tuple")) ?_)
  refine PyProof.Rows.callWith_type1 ?_ he (by rfl)
  rw [he]
  show wpAny _ _ (spliced ((false, eval (.GeneratorExp elt [⟨tg, iter, ifs, 0⟩] scope gpos) X.env) :: backTo pos (starEach [] X.env))) _ _ s
  refine Calls.spliced_cons (gx_make hr hN TB hcode ok hcell hdot hco hi hs I h fun J H1 H4 a s5 hR hT ⟨M⟩ => ?_)
  refine Calls.spliced_nil ?_
  have hfr : X.A.in1.in1.in1.in1.frames = some X.stack := I.ok.frames
  have I5 := M.inv X.A.in1.in1.in1.in1 hr.hd hfr
  obtain ⟨code, hce⟩ := M.env
  have hA2 : Room (k + 1) X.A.in1.in1.in1.in1 := (hr.mono (by omega : k + 5 ≤ k + 6)).in1.in1.in1.in1
  have nf : ∀ b ∈ M.fp, H4 b = none := fun b hb => (M.hfp b hb).1.1
  refine gx_call_tuple (G := genX X X.A.in1.in1.in1.in1 M.s4 H4 M.cenv M.fp [(a, M.go)]) (A := X.A) (g := M.g) (go := M.go) (fp := M.fp) (tn := M.tn) hr.hd hr.depth (List.mem_singleton.mpr rfl) M.gen
    (fun i h h' => M.T.keep i h h') (fun i h t b hb => let ⟨o, e, _⟩ := M.T.obj i h t b hb; ⟨o, e⟩) I5 M.st nf fun S s1 hS hgs I1 st1 nf1 => ?_
  obtain ⟨W, ⟨m, w⟩, turn⟩ := hR H4 S hT hS
  refine ⟨m + 1, W, _, _, gx_wake M hco (by rw [hce]; exact pg _ _ _ _ _ _ _) (by rw [hce]; exact pt _ _ _ _ _ _ _ hA2) (by rw [hce]; exact pe _ _ _ _ _ _ _ hA2) I1 st1 hgs nf1 turn w, fun i m y H q => q, fun s' H' I' ⟨acc, hacc, q⟩ => ?_⟩
  refine ⟨acc, hacc, fun us r => ?_⟩
  have IX := M.back I'
  have hl := (I'.hok _ _ hacc).1
  refine ⟨.ref s'.heap.objs.size, upd H' s'.heap.objs.size (.tup acc), ?_, rfl, q _ (IX.hok.fresh (Nat.le_refl _))⟩
  exact IX.laid (t' := s'.toks) (fun b o e => Heap.get?_push_of_some _ e) (Nat.le_refl _) ⟨hl, us, r, _, Heap.get?_push_size _ rfl, rfl, _, rfl⟩
end
end GX

namespace B1
open PySem PySem.Spec PyProof.Rows L2

/-! ### defs that are called where nothing is being shown -/
structure FnG (P : Program) (w : World) (K : PySem.W.Frag) (mg : Str → Option Value) (base : Heap) (CX : CXT) (k : Nat) (f : Addr) (fd : FuncData) (ps : List Str) (sp : Sp) : Prop where
  len : ∀ vs H Q E, sp vs H Q E → vs.length = ps.length
  run : ∀ (A : Around) (outer : List Env) (s : Shared) (H : Hp) (args : Args) (us : List Value) (vs : List V) (Q : VK) (E : XK), A.guards = some [] → Room k A → Env0 P w K mg base A outer s H → BindsTo s fd args (ps.zip us) → Vals vs us → sp vs H Q E →
    codeAny (model P w) A (.call (.ref f) args) (CR CX outer P w H s Q E) s
theorem FnG.of {P : Program} {w : World} {K : PySem.W.Frag} {mg : Str → Option Value} {base : Heap} {CX : CXT} {k : Nat} {f : Addr} {fd : FuncData} {ps : List Str} {sp : Sp} (F : FnOk P w K mg base CX k f fd ps sp) : FnG P w K mg base CX k f fd ps sp :=
  ⟨F.len, fun A outer s H args us vs Q E _ hr => F.run A outer s H args us vs Q E hr⟩

theorem fnG_of {CX : CXT} {P : Program} {w : World} {K : PySem.W.Frag} {mg : Str → Option Value} {base : Heap} {k : Nat} {f : Addr} {name qual : Str} {params : Arguments} {body : List Stmt} {scope : Scope} {dV kV doc pm cdv ct oc : Value} {an od : Option Addr}
    {osl : Array (Option Value)} {N ps : List Str} {sp : Sp} (lk : K.lookup f = some ⟨oc, od, .func (PySem.W.fnOf name qual params body scope dV kV doc pm an cdv ct), osl⟩) (hcd : PySem.W.codeIn K cdv qual = true) (S : FnScope N ps scope)
    (len : ∀ vs H Q E, sp vs H Q E → vs.length = ps.length)
    (hbody : ∀ (A : Around) (outer : List Env) (s : Shared) (H : Hp) (vs : List V) (Q : VK) (E : XK), A.guards = some [] → Room k (A.deeper (envOfC qual scope s.heap.objs.size f cdv)) → sp vs H Q E →
      ∃ t, PSs (cxOf CX P w K mg base N qual scope f cdv A outer s H E) body t ∧ t { nx := fun _ H' => Q .non H', rt := Q } (start N vs) H) :
    FnG P w K mg base CX (k + 1) f (PySem.W.fnOf name qual params body scope dV kV doc pm an cdv ct) ps sp := by
  exact ⟨len, fun A outer s H args us vs Q E hgd hr e0 hb r hsp => LamX.run_ofS lk hcd S hr e0 hb r (len _ _ _ _ hsp) fun hr' => hbody A outer s H vs Q E hgd hr' hsp⟩

section
variable {X : Cx} {CX : CXT} {k : Nat} {f C : Addr} {fd : FuncData} {ps : List Str} {sp : Sp} {dvs : List V} {ds : List Value} {E : XK} {x m : Str} {p pos apos : Pos} {e o : Expr} {es : List Expr} {ta : TE} {t : TA}
theorem run_fnG {pins : List (Addr × Obj)} {σ : L2.St} {H : Hp} {s : Shared} {Q : VK} {us : List Value} {vs : List V} (F : FnG X.prog X.w X.K X.mg X.base CX k f fd ps sp) (hgd : X.A.guards = some []) (hr : Room k X.A) (hb : Binds X.K fd ps ds) (hd : Vals dvs ds) (hx : Passes CX X E)
    (I : Inv X pins σ H s) (r : Vals vs us) (h : sp (vs ++ dvs) H Q E) : wpAny (model X.prog X.w) X.A (call (.ref f) us) (EP X pins σ Q) X.xe s := by
  have r2 : Vals (vs ++ dvs) (us ++ ds) := r.append hd
  have hl : (us ++ ds).length = ps.length := by rw [← r2.length]; exact F.len _ _ _ _ h
  refine wpAny_call (codeAny_mono (F.run X.A X.stack s H ⟨us, []⟩ (us ++ ds) (vs ++ dvs) Q E hgd hr I.env0 (hb s us I.kIn hl) r2 h) fun r s' hq => ?_)
  cases r with
  | error e => exact hx pins σ H s e s' I hq
  | ok fl =>
    cases fl with
    | ret u => exact I.after hq
    | next => exact False.elim hq
    | brk => exact False.elim hq
    | cont => exact False.elim hq
theorem pe_callG (F : FnG X.prog X.w X.K X.mg X.base CX k f fd ps sp) (hgd : X.A.guards = some []) (hr : Room k X.A) (hg : Gl X x) (hm : X.mg x = some (.ref f)) (hk : PySem.W.keepIn X.K (.ref f) = true) (hb : Binds X.K fd ps ds) (hd : Vals dvs ds) (hx : Passes CX X E)
    (ha : PA X (e :: es) t) (hdb : (x == ("__debug__" : Str)) = false := by decide) (he : starEach (e :: es) X.env = (false, eval e X.env) :: starEach es X.env := by rfl) (hpl : (backTo pos (starEach es X.env)).any (·.1) = false := by rfl) :
    PE X (.Call (.Name x p) (e :: es) [] pos) (tCall sp dvs E t) := by
  refine ⟨fun pins s σ H Q I h => ?_⟩
  refine wpAny_Call_Name_kw (ld_glob I hg hm ?_ hdb)
  refine PySem.W.callWith_K (h₀ := X.base) I.ok.mod.kin hk (thn (ha.run pos pins s σ H _ I h) fun us s1 ⟨vs, H1, I1, r, q⟩ => ⟨I1.kIn, ?_⟩) he hpl
  exact run_fnG F hgd hr hb hd hx I1 r q
end

/-! ### a def with its code object -/
structure FunC (K : PySem.W.Frag) (x qual : Str) (st : Stmt) (f : Addr) (fd : FuncData) (c : Addr) : Prop where
  ex : ∃ (oc : Value) (od : Option Addr) (kV doc pm : Value) (an : Option Addr) (ct : Value) (osl : Array (Option Value)),
    fd = PySem.W.fnOf x qual (defArgs st) (defBody st) (defScope st) .none kV doc pm an (.ref c) ct ∧ K.lookup f = some ⟨oc, od, .func fd, osl⟩ ∧ PySem.W.codeIn K (.ref c) qual = true
  kp : PySem.W.keepIn K (.ref f) = true
theorem FunC.toFun {K : PySem.W.Frag} {x qual : Str} {st : Stmt} {f : Addr} {fd : FuncData} {c : Addr} (F : FunC K x qual st f fd c) : Fun K x qual st f fd := by
  obtain ⟨oc, od, kV, doc, pm, an, ct, osl, h1, h2, h3⟩ := F.ex
  exact ⟨⟨oc, od, kV, doc, pm, an, .ref c, ct, osl, h1, h2, h3⟩, F.kp⟩
section
variable {P : Program} {w : World} {K : PySem.W.Frag} {mg : Str → Option Value} {base : Heap} {x qual : Str} {st : Stmt} {f c : Addr} {fd : FuncData} {N ps : List Str} {k : Nat} {sp : Sp}
theorem FunC.ok (F : FunC K x qual st f fd c) (S : FnScope N ps (defScope st)) (len : ∀ vs H Q E, sp vs H Q E → vs.length = ps.length)
    (hbody : ∀ (A : Around) (outer : List Env) (s : Shared) (H : Hp) (vs : List V) (Q : VK) (E : XK), Room k (A.deeper (envOfC qual (defScope st) s.heap.objs.size f (.ref c))) → sp vs H Q E →
      ∃ t, PSs (cxOf CX0 P w K mg base N qual (defScope st) f (.ref c) A outer s H E).nox (defBody st) t ∧ t { nx := fun _ H' => Q .non H', rt := Q } (start N vs) H) : FnOk P w K mg base CX0 (k + 1) f fd ps sp := by
  obtain ⟨oc, od, kV, doc, pm, an, ct, osl, rfl, lk, hcd⟩ := F.ex
  refine fn_of lk hcd S len fun A outer s H vs Q E hr hsp => ?_
  obtain ⟨t, h, q⟩ := hbody A outer s H vs Q E hr hsp
  exact ⟨t, h.nox, q⟩
theorem FunC.okG (F : FunC K x qual st f fd c) (S : FnScope N ps (defScope st)) (len : ∀ vs H Q E, sp vs H Q E → vs.length = ps.length)
    (hbody : ∀ (A : Around) (outer : List Env) (s : Shared) (H : Hp) (vs : List V) (Q : VK) (E : XK), A.guards = some [] → Room k (A.deeper (envOfC qual (defScope st) s.heap.objs.size f (.ref c))) → sp vs H Q E →
      ∃ t, PSs (cxOf CX0 P w K mg base N qual (defScope st) f (.ref c) A outer s H E).nox (defBody st) t ∧ t { nx := fun _ H' => Q .non H', rt := Q } (start N vs) H) : FnG P w K mg base CX0 (k + 1) f fd ps sp := by
  obtain ⟨oc, od, kV, doc, pm, an, ct, osl, rfl, lk, hcd⟩ := F.ex
  refine fnG_of lk hcd S len fun A outer s H vs Q E hgd hr hsp => ?_
  obtain ⟨t, h, q⟩ := hbody A outer s H vs Q E hgd hr hsp
  exact ⟨t, h.nox, q⟩
end

/-! ### data -/
section
variable {X : Cx} {pins : List (Addr × Obj)} {σ : L2.St} {H : Hp} {s : Shared}
/-- data that may be shown -/
structure Sm (d : PyData) : Prop where
  sh : d.showable = true
  nd : d.hasDict = false
  dp : d.depth ≤ 30
  ln : d.shown.length ≤ sizeLine
theorem call_reprG {k : Nat} (hgd : X.A.guards = some []) (hr : Room k X.A) : CallR X (.builtin "repr") (fun xs H Q => ∃ v d, xs = [v] ∧ Dp X.K H v d ∧ Sm d ∧ Q (.str d.shown) H) := by
  intro pins s σ H xs us Q I r h
  obtain ⟨v, d, rfl, hd, sm, q⟩ := h
  obtain ⟨u, rfl, rv⟩ := vals1 r
  obtain ⟨as, ra⟩ := Dp.reads I d v u hd rv
  have hu := hr.un
  cases ra with
  | none => exact PySem.P.repr_of_none ⟨.str _, H, I.tok _, ⟨_, rfl⟩, by simpa only [PyData.shown] using q⟩
  | bool b => exact PySem.P.repr_of_bool ⟨.str _, H, I.tok _, ⟨_, rfl⟩, by simpa only [PyData.shown] using q⟩
  | int i t => exact PySem.P.repr_of_int (by simpa [PyData.showable] using sm.sh) ⟨.str _, H, I.tok _, ⟨_, rfl⟩, by simpa only [PyData.shown] using q⟩
  | str x t => exact PySem.P.repr_of_str ⟨.str _, H, I.tok _, ⟨_, rfl⟩, by simpa only [PyData.shown] using q⟩ (by simpa only [PyData.shown] using sm.ln)
  | list h1 h2 h3 h4 =>
    refine repr_of_reads' (.list h1 h2 h3 h4) sm.sh (fun z => by rw [sm.nd] at z; cases z) hgd (by have := sm.dp; omega) (fun _ _ e => e) (fun h' u tk hk => ?_) sm.ln
    exact ⟨.str _, H, I.kept hk, ⟨_, rfl⟩, q⟩
  | tuple h1 h2 h3 h4 =>
    refine repr_of_reads' (.tuple h1 h2 h3 h4) sm.sh (fun z => by rw [sm.nd] at z; cases z) hgd (by have := sm.dp; omega) (fun _ _ e => e) (fun h' u tk hk => ?_) sm.ln
    exact ⟨.str _, H, I.kept hk, ⟨_, rfl⟩, q⟩
  | dict h1 h2 h3 h4 h5 => have z := sm.nd; simp [PyData.hasDict] at z
end
end B1

namespace B1
open PySem PySem.Spec PyProof.Rows L2
theorem ite_b {c : Bool} {A B : Prop} (h1 : c = true → A) (h2 : c = false → B) : if c = true then A else B := by
  cases c with
  | true => exact iteT (h1 rfl)
  | false => exact iteF (h2 rfl)
theorem yesT {σ : L2.St} {H : Hp} {A B : Hp → Prop} (h : A H) : tYes σ H (fun b H3 => if b = true then A H3 else B H3) := by
  show if true = true then A H else B H
  rw [if_pos rfl]
  exact h

/-- what the law's call finds: the script and the tables are tracked, all else is the base -/
theorem end_call {P : Program} {w : World} {K : PySem.W.Frag} {mg mb : Str → Option Value} {k : Nat} {fa a : Addr} {cs : List (Addr × Addr)} {fd : FuncData} {x : Str} {sp : Sp} {s₁ : Shared} {vs : List Value} {ns : List Int}
    (KX : K.In s₁.heap) (hns : s₁.heap.Ns mainGlobals mg) (hb : s₁.heap.Ns builtinsNs mb) (hbb : ∀ x : Str, x ≠ "__name__" → mb x = bootBuiltins x) (hlim : s₁.heap.NoLimit) (hg : s₁.gens = #[])
    (hT : ∀ p ∈ cs, s₁.heap.get? p.2 = some { cls := .none, data := .fields #[] }) (nT : ∀ p ∈ cs, K.lookup p.2 = none) (C : ∀ p ∈ cs, PySem.W.CodeHd s₁.heap p.1 p.2)
    (hbm : ∃ (bm : Addr) (ob : Obj), mg "__builtins__" = some (.ref bm) ∧ bm ≠ builtinsNs ∧ s₁.heap.get? bm = some ob ∧ ob.cls = .type "module" ∧ ob.dict = some builtinsNs ∧ ob.data = .plain)
    (ha : s₁.heap.get? a = some { cls := .type "list", data := .seq vs.toArray }) (hi : IntsAre vs ns) (hl : ns.length ≤ sizeLine) (hr : Room k callerA)
    (F : ∀ base : Heap, K.In base → base.Ns mainGlobals mg → (∀ p ∈ cs, LamX.TabB base mg p.1 p.2) → FnG P w K mg base CX0 k fa fd [x] sp) (hbind : ∀ (s : Shared) (u : Value), BindsTo s fd ⟨[u], []⟩ [(x, u)])
    (hsp : ∀ H : Hp, (∀ p ∈ cs, H p.2 = some (.tbl #[])) → SqL K H a (ns.map V.int) → sp [.ref a] H (fun v _ => v = .bl true) fun _ _ _ => False) :
    codeAny (model P w) callerA (.call (.ref fa) ⟨[.ref a], []⟩) (fun r s' => r = .ok (.ret (.bool true)) ∧ OldK s₁.heap s'.heap ∧ s'.os = s₁.os ∧ AllBare s'.gens) s₁ := by
  classical
  have hTT : ∀ b, b ∈ cs.map (·.2) → s₁.heap.get? b = some { cls := .none, data := .fields #[] } := by
    intro b hb
    obtain ⟨p, hp, rfl⟩ := List.mem_map.mp hb
    exact hT p hp
  have haT : a ∉ cs.map (·.2) := by
    intro z
    have := hTT a z
    rw [ha] at this
    exact absurd (congrArg Obj.data (Option.some.inj this)) (by intro q; cases q)
  obtain ⟨H, hH⟩ : ∃ H : Hp, H = fun b => if b ∈ cs.map (·.2) then some (.tbl #[]) else if b = a ∧ K.lookup a = none then some (.frz { cls := .type "list", data := .seq vs.toArray } (.lst (ns.map V.int))) else none := ⟨_, rfl⟩
  have h1 : ∀ b, b ∈ cs.map (·.2) → H b = some (.tbl #[]) := fun b hb => by rw [hH]; exact if_pos hb
  have h2 : K.lookup a = none → H a = some (.frz { cls := .type "list", data := .seq vs.toArray } (.lst (ns.map V.int))) := fun e => by
    rw [hH]; exact (if_neg haT).trans (if_pos ⟨rfl, e⟩)
  have h3 : ∀ b, b ∉ cs.map (·.2) → ¬ (b = a ∧ K.lookup a = none) → H b = none := fun b h q => by rw [hH]; exact (if_neg h).trans (if_neg q)
  have free : ∀ {b : Addr} {o : Obj}, s₁.heap.get? b = some o → (∀ vs n, o.data ≠ .seq vs n) → o.data ≠ .fields #[] → H b = none := fun {b o} e q1 q2 => by
    refine h3 b (fun hb => ?_) fun ⟨hb, _⟩ => ?_
    · rw [hTT b hb] at e; cases e; exact q2 rfl
    · rw [hb, ha] at e; cases e; exact q1 _ _ rfl
  have dict : ∀ {b : Addr} {m : Str → Option Value}, s₁.heap.Ns b m → (hidT s₁.heap H).Ns b m := fun {b m} ⟨o, es, ep, e, d, r⟩ =>
    ⟨o, es, ep, hidT_get e (free e (fun _ _ q => by rw [d] at q; cases q) fun q => by rw [d] at q; cases q), d, r⟩
  have hKb : K.In (hidT s₁.heap H) := fun b o e => hidT_get (KX b o e) (h3 b (fun hb => by
    obtain ⟨p, hp, rfl⟩ := List.mem_map.mp hb
    rw [nT p hp] at e; cases e) fun ⟨q1, q2⟩ => by rw [q1, q2] at e; cases e)
  have hM : L2.Mod K mg (hidT s₁.heap H) := ⟨hKb, dict hns, ⟨mb, dict hb, hbb⟩, let ⟨mc, q1, q2⟩ := hlim; ⟨mc, dict q1, q2⟩⟩
  have TB : ∀ p ∈ cs, LamX.TabB (hidT s₁.heap H) mg p.1 p.2 := fun p hp => by
    have hP := hT p hp
    refine ⟨?_, ?_, fun z => ?_⟩
    · obtain ⟨o, us, file, tf, flags, tg, inF, text, tt, e1, r1, r2, r3, rest⟩ := C p hp
      exact ⟨o, us, file, tf, flags, tg, inF, text, tt, hidT_get e1 (free e1 (fun _ _ q => by rw [r2] at q; cases q) fun q => by rw [r2] at q; cases q; simp at r3), r1, r2, r3, rest⟩
    · obtain ⟨bm, ob, b1, b2, b3, b4, b5, b6⟩ := hbm
      refine ⟨bm, ob, b1, b2, fun q => ?_, fun q => ?_, hidT_get b3 (free b3 (fun _ _ q => by rw [b6] at q; cases q) fun q => by rw [b6] at q; cases q), b4, b5, b6⟩
      · obtain ⟨o, es, ep, e, hd, _⟩ := hns
        rw [q, e] at b3; cases b3; rw [hd] at b6; cases b6
      · rw [q, hP] at b3; cases b3; cases b6
    · obtain ⟨o, es, ep, e, hd, _⟩ := hns
      rw [z, hP] at e; cases e; cases hd
  have rv := vals_ints hi
  have lv := hi.length
  have hok : HOk P w H s₁.heap := fun b u e => by
    by_cases hb : b ∈ cs.map (·.2)
    · rw [h1 b hb] at e; cases e; exact hTT b hb
    · by_cases hq : b = a ∧ K.lookup a = none
      · obtain ⟨rfl, hq⟩ := hq
        rw [h2 hq] at e; cases e
        exact ⟨ha, by rw [List.length_map]; exact hl, vs, _, rv, ha⟩
      · rw [h3 b hb hq] at e; cases e
  have hS : SqL K H a (ns.map V.int) := by
    cases hk : K.lookup a with
    | none => exact .inl (.inr ⟨_, h2 hk⟩)
    | some o =>
      have e := KX a o hk
      rw [ha] at e; cases e
      exact .inr ⟨_, vs.toArray, _, hk, rfl, rfl, rfl, by rw [List.size_toArray, lv]; exact hl, by simpa using rv⟩
  have e0 : Env0 P w K mg (hidT s₁.heap H) callerA [] s₁ H := ⟨rfl, hM, fun b o e => of_hidT e, Nat.le_of_eq (hidT_size _ _), trivial, fun b hb => absurd (show b ∈ ([] : List Addr) from hb) (by simp), hok, .of_eq hg⟩
  refine codeAny_mono ((F _ hKb (dict hns) TB).run callerA [] s₁ H ⟨[.ref a], []⟩ [.ref a] [.ref a] _ _ rfl hr e0 (hbind s₁ (.ref a)) (.cons rfl .nil) (hsp H (fun p hp => h1 _ (List.mem_map.mpr ⟨p, hp, rfl⟩)) hS)) fun r s' h => ?_
  cases r with
  | error e => exact False.elim h
  | ok fl =>
    cases fl with
    | next => exact False.elim h
    | brk => exact False.elim h
    | cont => exact False.elim h
    | ret u =>
      obtain ⟨v, H', os, bare, un, hok', r', q⟩ := h
      obtain rfl : v = .bl true := q
      obtain rfl : u = Value.bool true := r'
      have kept : ∀ b o, b ∉ cs.map (·.2) → s₁.heap.get? b = some o → s'.heap.get? b = some o := fun b o nb e => by
        by_cases hq : b = a ∧ K.lookup a = none
        · obtain ⟨rfl, hq⟩ := hq
          obtain ⟨e1, _⟩ := hok b _ (h2 hq)
          obtain ⟨e2, _⟩ := hok' b _ (un.frzs b _ _ (h2 hq))
          rw [e] at e1; cases e1
          exact e2
        · exact un.keep b o e (h3 b nb hq) (fun z => absurd (show b ∈ ([] : List Addr) from z) (by simp)) (by simp)
      have grown : ∀ p ∈ cs, ∃ more : Array Value, s'.heap.get? p.2 = some { cls := .none, data := .fields more } := fun p hp => by
        obtain ⟨more, z⟩ := un.tbls p.2 #[] (h1 _ (List.mem_map.mpr ⟨p, hp, rfl⟩))
        exact ⟨_, hok' p.2 _ z⟩
      refine ⟨rfl, ⟨fun b o e => ?_, fun b o e => ?_⟩, os, bare⟩
      · by_cases hb : b ∈ cs.map (·.2)
        · obtain ⟨p, hp, rfl⟩ := List.mem_map.mp hb
          obtain ⟨more, hm⟩ := grown p hp
          rw [hT p hp] at e; cases e
          exact .inr (.inl ⟨((C p hp).tab (hT p hp)).isCodeTable, rfl, #[], more, rfl, by rw [Array.empty_append]; exact hm⟩)
        · exact .inl (kept b o hb e)
      · by_cases hb : b ∈ cs.map (·.2)
        · obtain ⟨p, hp, rfl⟩ := List.mem_map.mp hb
          obtain ⟨more, hm⟩ := grown p hp
          exact ⟨_, hm⟩
        · exact ⟨o, kept b o hb e⟩

/-- what is to be known of the law at the head's heap -/
def LawG (l : PySem.W.OpenLaw) (w : World) (K : PySem.W.Frag) (k n : Nat) (x : Str) (mg : Str → Option Value) (fa : Addr) (h : Heap) : Prop :=
  ∃ (fd : FuncData) (cs : List (Addr × Addr)) (sp : Sp), (∀ p ∈ cs, h.get? p.2 = some { cls := .none, data := .fields #[] }) ∧ (∀ p ∈ cs, K.lookup p.2 = none) ∧ (∀ p ∈ cs, PySem.W.CodeHd h p.1 p.2) ∧ (∀ (s : Shared) (u : Value), BindsTo s fd ⟨[u], []⟩ [(x, u)]) ∧
    (∀ (H : Hp) (a : Addr) (ns : List Int), ns.length ≤ n → (∀ z ∈ ns, Builtin.Int.intBits z ≤ 1048576) → (∀ p ∈ cs, H p.2 = some (.tbl #[])) → SqL K H a (ns.map V.int) → sp [.ref a] H (fun v _ => v = .bl true) fun _ _ _ => False) ∧
    ∀ base : Heap, K.In base → base.Ns mainGlobals mg → (∀ p ∈ cs, LamX.TabB base mg p.1 p.2) → FnG l.prog w K mg base CX0 k fa fd [x] sp

/-- the tables of the defs of the top: empty -/
def TabOf (mg : Str → Option Value) (h : Heap) (names : List Str) : Prop := ∀ x ∈ names, ∃ a o fd c P, mg x = some (.ref a) ∧ h.get? a = some o ∧ o.data = .func fd ∧ fd.code = .ref c ∧ PySem.W.CodeHd h c P ∧ h.get? P = some { cls := .none, data := .fields #[] }
theorem tab_at {K : PySem.W.Frag} {mg : Str → Option Value} {h : Heap} {names : List Str} {x : Str} {f c P : Addr} {o : Obj} {fd : FuncData} {e : Value} {dd : Option Addr} {vs : Array Value} {sl : Array (Option Value)} (T : TabOf mg h names) (hx : x ∈ names) (KX : K.In h) (g : mg x = some (.ref f))
    (lk : K.lookup f = some o) (ho : o.data = .func fd) (hc : fd.code = .ref c) (lc : K.lookup c = some ⟨e, dd, .fields vs, sl⟩) (hP : vs[11]? = some (.ref P)) : PySem.W.CodeHd h c P ∧ h.get? P = some { cls := .none, data := .fields #[] } := by
  obtain ⟨a, o', fd', c', P', h1, h2, h3, h4, h5, h6⟩ := T x hx
  rw [g] at h1; cases h1
  rw [KX _ _ lk] at h2; cases h2
  rw [ho] at h3; cases h3
  rw [hc] at h4; cases h4
  obtain ⟨oc, vc, _, _, _, _, _, _, _, e1, e2, e3, e4, _⟩ := id h5
  rw [KX _ _ lc] at e1; cases e1
  cases e3
  rw [hP] at e4; cases e4
  exact ⟨h5, h6⟩
theorem walk_G {l : PySem.W.OpenLaw} {n k : Nat} {q : Program} {loose : List Str} {XP : (Str → Option Value) → Heap → Prop} {YP : World → Heap → Prop} {d : DefRec} {K : Params → PySem.W.Frag} {x : Str} (names : List Str)
    (hn : l.most = some n) (hn2 : n ≤ sizeLine) (hdf : d.params.defaults = []) (hr : Room k callerA) (hrec : (names.all fun x => (recsOf q).any fun e => e.name == x) = true) (hY : ∀ (w : World) (h : Heap), YP w h → (K w.params).In h)
    (F : ∀ (w : World) (mg : Str → Option Value) (fa : Addr) (h : Heap), (K w.params).In h → h.Ns mainGlobals mg → mg d.name = some (.ref fa) → TabOf mg h names → LawG l w (K w.params) k n x mg fa h) :
    PySem.W.WalkO q loose XP YP l.row.toRowW d [] (fun f vs => PySem.call f vs) := by
  refine Att.attach_callB hn hdf fun w s₀ s₁ mg mb fa o pm cd doc a vs ns G Y ho hd hcd hmg hobj hints hlen hbits hg => ?_
  have KX := hY w _ Y
  have T : TabOf mg s₁.heap names := fun y hy => by
    obtain ⟨dL, hm, hn1⟩ := List.any_eq_true.mp (List.all_eq_true.mp hrec y hy)
    have hn2 : dL.name = y := beq_iff_eq.mp hn1
    obtain ⟨a', o', fd', c', P', h1, h2, h3, h4, h5, h6⟩ := G.T.tab dL hm
    rw [hn2] at h1
    exact ⟨a', o', fd', c', P', h1, h2, h3, h4, PySem.W.CodeHd.of h5 h6, h6.2⟩
  obtain ⟨fd, cs, sp, hT, nT, C, hb, hsp, hF⟩ := F w mg fa _ KX G.T.g hmg T
  exact end_call KX G.T.g G.T.b G.T.builtins G.T.nolimit hg hT nT C G.T.bmain hobj hints (Nat.le_trans hlen hn2) hr hF hb (fun H hH hS => hsp H a ns hlen hbits hH hS)
theorem funC_mk {K : PySem.W.Frag} {x qual : Str} {st : Stmt} {f c : Addr} {oc : Value} {od an : Option Addr} {osl : Array (Option Value)} {kV doc pm ct : Value} (l : K.lookup f = some ⟨oc, od, .func (PySem.W.fnOf x qual (defArgs st) (defBody st) (defScope st) .none kV doc pm an (.ref c) ct), osl⟩)
    (hc : PySem.W.codeIn K (.ref c) qual = true) (k : PySem.W.keepIn K (.ref f) = true) : FunC K x qual st f (PySem.W.fnOf x qual (defArgs st) (defBody st) (defScope st) .none kV doc pm an (.ref c) ct) c := ⟨⟨oc, od, kV, doc, pm, an, ct, osl, rfl, l, hc⟩, k⟩
end B1

namespace W
open PySem PySem.Spec PyProof.Rows L2
def topS (i : Nat) : Stmt := PySem.Challenge.pw_onceeach_k11_worths_of_polynomials.main.body.getD i (.Pass ⟨0, 0, 0, 0⟩)
abbrev s_is_whole : Stmt := topS 8
abbrev s_is_whole_between : Stmt := topS 9
abbrev s_is_number : Stmt := topS 10
abbrev s_is_row : Stmt := topS 11
abbrev s_fits_poly : Stmt := topS 12
abbrev s_check_bound : Stmt := topS 13
abbrev s_check_number : Stmt := topS 14
abbrev s_check_poly : Stmt := topS 15
abbrev s_worth_at : Stmt := topS 17
abbrev s_worths : Stmt := topS 18
abbrev s_law_cell : Stmt := topS 20
abbrev s_law_pen : Stmt := topS 21
abbrev s_law_draw : Stmt := topS 22
abbrev s_law_same : Stmt := topS 23
abbrev s_law_bound : Stmt := topS 24
abbrev s_law_poly : Stmt := topS 25
abbrev s_law_right : Stmt := topS 26
abbrev s_law : Stmt := topS 27
end W

namespace W
open PySem PySem.Spec PyProof.Rows L2 B1

/-! ### kinds of values -/
def kinds : List String := ["NoneType", "bool", "int", "str", "list", "tuple", "dict"]
/-- a value of one of the kinds that are handed in -/
def TyOk (K : PySem.W.Frag) (H : Hp) (v : V) : Prop := ∃ t, TyX K H v (.type t) ∧ t ∈ kinds
def whV : V → Bool
  | .int _ => true
  | _ => false
def btwV (lo hi : Int) : V → Bool
  | .int i => decide (lo ≤ i) && decide (i ≤ hi)
  | _ => false
theorem whV_ty {K : PySem.W.Frag} {H : Hp} {v : V} {t : String} (h : TyX K H v (.type t)) (hk : t ∈ kinds) : whV v = (t == "int") := by
  cases h with
  | base b => cases b <;> rfl
  | byt b => simp [kinds] at hk
  | set e => simp [kinds] at hk
  | kList e c => rfl
  | kTuple e c => rfl
  | kDict e c => rfl
  | fTuple e => rfl
  | fDict e => rfl
theorem kit_int {K : PySem.W.Frag} {t : String} (hk : t ∈ kinds) : PySem.W.kitOne K (.type t) (.type "int") = some (t == "int" || t == "bool") := by
  simp only [kinds, List.mem_cons, List.not_mem_nil, or_false] at hk
  rcases hk with rfl | rfl | rfl | rfl | rfl | rfl | rfl <;> exact kit_ty (by decide +kernel)
theorem kit_bool {K : PySem.W.Frag} {t : String} (hk : t ∈ kinds) : PySem.W.kitOne K (.type t) (.type "bool") = some (t == "bool") := by
  simp only [kinds, List.mem_cons, List.not_mem_nil, or_false] at hk
  rcases hk with rfl | rfl | rfl | rfl | rfl | rfl | rfl <;> exact kit_ty (by decide +kernel)
theorem kit_tuple {K : PySem.W.Frag} {t : String} (hk : t ∈ kinds) : PySem.W.kitOne K (.type t) (.type "tuple") = some (t == "tuple") := by
  simp only [kinds, List.mem_cons, List.not_mem_nil, or_false] at hk
  rcases hk with rfl | rfl | rfl | rfl | rfl | rfl | rfl <;> exact kit_ty (by decide +kernel)

section
variable {P : Program} {w : World} {K : PySem.W.Frag} {mg : Str → Option Value} {base : Heap}
/-! ### is_whole -/
theorem sc_is_whole : FnScope ["thing"] ["thing"] (defScope s_is_whole) := ⟨rfl, rfl, rfl, by decide +kernel, rfl, by decide +kernel, by decide +kernel⟩
def sp_is_whole (K : PySem.W.Frag) : Sp := fun vs H Q _ => ∃ v, vs = [v] ∧ TyOk K H v ∧ Q (.bl (whV v)) H
theorem ok_is_whole {f : Addr} {fd : FuncData} {k : Nat} (F : Fun K "is_whole" "is_whole" s_is_whole f fd) (mI : mg "isinstance" = none) (mi : mg "int" = none) (mb : mg "bool" = none) : FnOk P w K mg base CX0 (k + 1) f fd ["thing"] (sp_is_whole K) := by
  refine F.ok sc_is_whole (fun vs H Q E h => ?_) (fun cdv A outer s H vs Q E hr h => ?_)
  · obtain ⟨v, rfl, _⟩ := h
    rfl
  · obtain ⟨v, rfl, ⟨t, ht, hk⟩, q⟩ := h
    refine ⟨_, pss_one (ps_ret (pe_and (pe_callB call_isi (by rfl) mI boot_isinstance (pa_cons (pv 0) (pa_cons (pe_bltn (v := .ty "int") (by rfl) mi boot_int rfl) pa_nil)))
      (pe_one (pe_not (pe_callB call_isi (by rfl) mI boot_isinstance (pa_cons (pv 0) (pa_cons (pe_bltn (v := .ty "bool") (by rfl) mb boot_bool rfl) pa_nil))))))), ?_⟩
    rw [whV_ty ht hk] at q
    refine ⟨v, rfl, v, .ty "int", _, _, _, rfl, .ty _, ht, kit_int hk, _, rfl, ?_⟩
    by_cases h1 : (t == "int" || t == "bool") = true
    · rw [if_pos h1]
      refine ⟨v, rfl, v, .ty "bool", _, _, _, rfl, .ty _, ht, kit_bool hk, _, rfl, ?_⟩
      have e : (!(t == "bool")) = (t == "int") := by
        simp only [kinds, List.mem_cons, List.not_mem_nil, or_false] at hk
        rcases hk with rfl | rfl | rfl | rfl | rfl | rfl | rfl <;> first | rfl | (exfalso; revert h1; decide)
      rw [e]
      exact q
    · rw [if_neg h1]
      have e : (t == "int") = false := by
        cases z : (t == "int") with
        | false => rfl
        | true => rw [z] at h1; exact absurd rfl h1
      rw [e] at q
      exact q
/-! ### is_whole_between -/
theorem sc_is_whole_between : FnScope ["thing", "least", "most"] ["thing", "least", "most"] (defScope s_is_whole_between) := ⟨rfl, rfl, rfl, by decide +kernel, rfl, by decide +kernel, by decide +kernel⟩
def sp_btw (K : PySem.W.Frag) : Sp := fun vs H Q _ => ∃ v lo hi, vs = [v, .int lo, .int hi] ∧ TyOk K H v ∧ Q (.bl (btwV lo hi v)) H
theorem ok_btw {f f1 : Addr} {fd fd1 : FuncData} {k : Nat} (F : Fun K "is_whole_between" "is_whole_between" s_is_whole_between f fd) (F1 : Fun K "is_whole" "is_whole" s_is_whole f1 fd1) (b1 : Binds K fd1 ["thing"] []) (g1 : mg "is_whole" = some (.ref f1))
    (mI : mg "isinstance" = none) (mi : mg "int" = none) (mb : mg "bool" = none) : FnOk P w K mg base CX0 (k + 2) f fd ["thing", "least", "most"] (sp_btw K) := by
  have G1 : FnOk P w K mg base CX0 (k + 1) f1 fd1 ["thing"] (sp_is_whole K) := ok_is_whole F1 mI mi mb
  refine F.ok sc_is_whole_between (fun vs H Q E h => ?_) (fun cdv A outer s H vs Q E hr h => ?_)
  · obtain ⟨v, lo, hi, rfl, _⟩ := h
    rfl
  · obtain ⟨v, lo, hi, rfl, ht, q⟩ := h
    refine ⟨_, pss_one (ps_ret (pe_and (pe_call G1 hr (by rfl) g1 F1.kp b1 .nil pass0 (pa_cons (pv 0) pa_nil)) (pe_one (pe_chain op_le op_le (pv 1) (pv 0) (pv 2))))), ?_⟩
    refine ⟨v, rfl, v, rfl, ht, _, rfl, ?_⟩
    cases v with
    | int i =>
      refine iteT ⟨_, rfl, _, rfl, _, _, rfl, rfl, _, rfl, ?_⟩
      by_cases h1 : lo ≤ i
      · rw [if_pos (decide_eq_true h1)]
        refine ⟨_, rfl, _, _, rfl, rfl, ?_⟩
        simp only [btwV, decide_eq_true h1, Bool.true_and] at q
        exact q
      · rw [if_neg (by rw [decide_eq_false h1]; exact Bool.false_ne_true)]
        simp only [btwV, decide_eq_false h1, Bool.false_and] at q
        exact q
    | _ => exact iteF q
/-! ### is_number -/
theorem sc_is_number : FnScope ["bound", "thing"] ["bound", "thing"] (defScope s_is_number) := ⟨rfl, rfl, rfl, by decide +kernel, rfl, by decide +kernel, by decide +kernel⟩
def sp_number (K : PySem.W.Frag) : Sp := fun vs H Q _ => ∃ (b : Int) (v : V), vs = [.int b, v] ∧ TyOk K H v ∧ Q (.bl (btwV 0 (b - 1) v)) H
theorem ok_number {f f2 f1 : Addr} {fd fd2 fd1 : FuncData} {k : Nat} (F : Fun K "is_number" "is_number" s_is_number f fd) (F2 : Fun K "is_whole_between" "is_whole_between" s_is_whole_between f2 fd2) (F1 : Fun K "is_whole" "is_whole" s_is_whole f1 fd1) (b2 : Binds K fd2 ["thing", "least", "most"] []) (b1 : Binds K fd1 ["thing"] [])
    (g2 : mg "is_whole_between" = some (.ref f2)) (g1 : mg "is_whole" = some (.ref f1)) (mI : mg "isinstance" = none) (mi : mg "int" = none) (mb : mg "bool" = none) : FnOk P w K mg base CX0 (k + 3) f fd ["bound", "thing"] (sp_number K) := by
  have G2 : FnOk P w K mg base CX0 (k + 2) f2 fd2 ["thing", "least", "most"] (sp_btw K) := ok_btw F2 F1 b1 g1 mI mi mb
  refine F.ok sc_is_number (fun vs H Q E h => ?_) (fun cdv A outer s H vs Q E hr h => ?_)
  · obtain ⟨b, v, rfl, _⟩ := h
    rfl
  · obtain ⟨b, v, rfl, ht, q⟩ := h
    refine ⟨_, pss_one (ps_ret (pe_call G2 hr (by rfl) g2 F2.kp b2 .nil pass0 (pa_cons (pv 1) (pa_cons pe_int (pa_cons (pe_op op_sub (pv 0) pe_int) pa_nil))))), ?_⟩
    exact ⟨v, rfl, _, rfl, _, _, rfl, rfl, v, 0, b - 1, rfl, ht, q⟩
/-! ### tables -/
/-- all but tables stay -/
abbrev Ext (H H' : Hp) : Prop := LamX.ExtN H H'
def Tbs (Ts : List Addr) (H : Hp) : Prop := ∀ P ∈ Ts, GxR.TabG H P
theorem tab_ext {P : Addr} {H H' : Hp} (t : GxR.TabG H P) (h : GxR.Tabbed P H H') : Ext H H' := fun b o e n => by
  obtain ⟨ps, hP, _⟩ := t
  have nb : b ≠ P := fun z => by rw [z, hP] at e; exact n ps (Option.some.inj e).symm
  rw [h.2 b nb]; exact e
theorem tbs_tab {Ts : List Addr} {P : Addr} {H H' : Hp} (t : Tbs Ts H) (h : GxR.Tabbed P H H') : Tbs Ts H' := fun P' hP' => by
  by_cases z : P' = P
  · rw [z]; exact h.1
  · obtain ⟨ps, e, r⟩ := t P' hP'
    exact ⟨ps, by rw [h.2 P' z]; exact e, r⟩
theorem Ext.tup {H H' : Hp} (e : Ext H H') {a : Addr} {xs : List V} (h : SqT K H a xs) : SqT K H' a xs := by
  rcases h with (h | ⟨o, h⟩) | h
  · exact .inl (.inl (e _ _ h fun ps z => by cases z))
  · exact .inl (.inr ⟨o, e _ _ h fun ps z => by cases z⟩)
  · exact .inr h
theorem Ext.lst {H H' : Hp} (e : Ext H H') {a : Addr} {xs : List V} (h : SqL K H a xs) : SqL K H' a xs := by
  rcases h with (h | ⟨o, h⟩) | h
  · exact .inl (.inl (e _ _ h fun ps z => by cases z))
  · exact .inl (.inr ⟨o, e _ _ h fun ps z => by cases z⟩)
  · exact .inr h
theorem Ext.ty {H H' : Hp} (e : Ext H H') {v : V} (h : TyOk K H v) : TyOk K H' v := by
  obtain ⟨t, ht, hk⟩ := h
  refine ⟨t, ?_, hk⟩
  cases ht with
  | base b =>
    cases b with
    | non => exact .base .non
    | bl x => exact .base (.bl x)
    | int i => exact .base (.int i)
    | str x => exact .base (.str x)
    | flt x => exact .base (.flt x)
    | lst q => exact .base (.lst (e _ _ q fun ps z => by cases z))
    | frz q => exact .base (.frz (e _ _ q fun ps z => by cases z))
    | tup q => exact .base (.tup (e _ _ q fun ps z => by cases z))
    | dK q => exact .base (.dK (e _ _ q fun ps z => by cases z))
    | dT q => exact .base (.dT (e _ _ q fun ps z => by cases z))
  | byt b => exact .byt b
  | set q => exact .set (e _ _ q fun ps z => by cases z)
  | kList q c => exact .kList q c
  | kTuple q c => exact .kTuple q c
  | kDict q c => exact .kDict q c
  | fTuple q => exact .fTuple (e _ _ q fun ps z => by cases z)
  | fDict q => exact .fDict (e _ _ q fun ps z => by cases z)
theorem sqt_ty {H : Hp} {a : Addr} {xs : List V} (h : SqT K H a xs) : TyX K H (.ref a) (.type "tuple") := by
  rcases h with (h | ⟨o, h⟩) | ⟨o, its, n, h, c, _⟩
  · exact .base (.tup h)
  · exact .fTuple h
  · exact .kTuple h c
theorem sqt_inj {H : Hp} {a : Addr} {xs ys : List V} (h : SqT K H a xs) (h' : SqT K H a ys) (hk : K.lookup a = none ∨ H a = none) : xs = ys := by
  rcases h with (h | ⟨o, h⟩) | ⟨o, its, n, h, c, d, z, r⟩ <;> rcases h' with (h' | ⟨o', h'⟩) | ⟨o', its', n', h'', c', d', z', r'⟩
  · rw [h] at h'; cases h'; rfl
  · rw [h] at h'; cases h'
  · rcases hk with q | q
    · rw [q] at h''; cases h''
    · rw [h] at q; cases q
  · rw [h] at h'; cases h'
  · rw [h] at h'; cases h'; rfl
  · rcases hk with q | q
    · rw [q] at h''; cases h''
    · rw [h] at q; cases q
  · rcases hk with q | q
    · rw [q] at h; cases h
    · rw [h'] at q; cases q
  · rcases hk with q | q
    · rw [q] at h; cases h
    · rw [h'] at q; cases q
  · rw [h] at h''; cases h''; rw [d] at d'; cases d'; exact Vals.inj r r'

/-! ### is_row -/
theorem sc_is_row : FnScope ["bound", "thing", "number"] ["bound", "thing"] (defScope s_is_row) := ⟨rfl, rfl, rfl, by decide +kernel, rfl, by decide +kernel, by decide +kernel⟩
/-- a tuple of xs (kinds that are handed in), or something else -/
def sp_row (K : PySem.W.Frag) (Ts : List Addr) : Sp := fun vs H Q _ => ∃ (b : Int) (v : V), vs = [.int b, v] ∧ Tbs Ts H ∧
  ((∃ a xs, v = .ref a ∧ SqT K H a xs ∧ (∀ x ∈ xs, TyOk K H x) ∧ ∀ H', Ext H H' → Tbs Ts H' → Q (.bl (xs.all (btwV 0 (b - 1)))) H') ∨
   ((∃ t, TyX K H v (.type t) ∧ t ∈ kinds ∧ t ≠ "tuple") ∧ Q (.bl false) H))
theorem ok_row {f f3 f2 f1 c P1 : Addr} {fd fd3 fd2 fd1 : FuncData} {Ts : List Addr} (F : FunC K "is_row" "is_row" s_is_row f fd c) (TB : GxR.TabB base mg c P1) (hT : P1 ∈ Ts)
    (F3 : Fun K "is_number" "is_number" s_is_number f3 fd3) (F2 : Fun K "is_whole_between" "is_whole_between" s_is_whole_between f2 fd2) (F1 : Fun K "is_whole" "is_whole" s_is_whole f1 fd1) (b3 : Binds K fd3 ["bound", "thing"] []) (b2 : Binds K fd2 ["thing", "least", "most"] []) (b1 : Binds K fd1 ["thing"] [])
    (g3 : mg "is_number" = some (.ref f3)) (g2 : mg "is_whole_between" = some (.ref f2)) (g1 : mg "is_whole" = some (.ref f1)) (mI : mg "isinstance" = none) (mi : mg "int" = none) (mb : mg "bool" = none) (mt : mg "tuple" = none) (ma : mg "all" = none) :
    FnOk P w K mg base CX0 10 f fd ["bound", "thing"] (sp_row K Ts) := by
  have G3 : FnOk P w K mg base CX0 3 f3 fd3 ["bound", "thing"] (sp_number K) := ok_number F3 F2 F1 b2 b1 g2 g1 mI mi mb
  refine F.ok sc_is_row (fun vs H Q E h => ?_) (fun A outer s H vs Q E hr h => ?_)
  · obtain ⟨b, v, rfl, _⟩ := h
    rfl
  · obtain ⟨b, v, rfl, hTb, h⟩ := h
    refine ⟨_, pss_one (ps_ret (pe_and (pe_callB call_isi (by rfl) mI boot_isinstance (pa_cons (pv 1) (pa_cons (pe_bltn (v := .ty "tuple") (by rfl) mt boot_tuple rfl) pa_nil)))
      (pe_one (GX.pe_allG (k := 4) (own := [("number", 2)]) (c := c) (P := P1) (tt := tYes) (hr.mono (by decide)) sc_is_row.nd (by rfl) ma TB rfl (blkOk_by (N := ["bound", "thing", "number"]) (sc := defScope s_is_row) (by decide +kernel)) (by decide +kernel) (by decide +kernel) (by rfl) (pi_tup (pv 1)) (fun _ => rfl)
        (fun _ _ _ _ _ _ _ => pg_name (i := 2) sc_is_row.nd rfl (Or.inl rfl)) (fun _ _ _ _ _ _ _ _ => pts_nil)
        (fun Aw _ _ _ _ _ _ hA => pe_call G3 ((hA.mono (by decide : 4 ≤ 5)).deeper _) (by rfl) g3 F3.kp b3 .nil pass0 (pa_cons (pv 0) (pa_cons (pv 2) pa_nil))))))), ?_⟩
    rcases h with ⟨a, xs, rfl, hq, hx, q⟩ | ⟨⟨t, ht, hk, ne⟩, q⟩
    · refine ⟨_, rfl, .ref a, .ty "tuple", _, _, _, rfl, .ty _, sqt_ty hq, kit_tuple (by decide), _, rfl, iteT ?_⟩
      refine ⟨_, rfl, a, rfl, ⟨xs, hq⟩, hTb P1 hT, fun H4 hT4 => ?_⟩
      have e4 := tab_ext (hTb P1 hT) hT4
      have t4 := tbs_tab hTb hT4
      have q4 : SqT K H4 a xs := Ext.tup e4 hq
      refine ⟨fun i m H' => m = xs.length - i ∧ i ≤ xs.length ∧ H' = H4 ∧ (xs.take i).all (btwV 0 (b - 1)) = true, ⟨_, rfl, Nat.zero_le _, rfl, rfl⟩, ?_⟩
      rintro i m H' ⟨rfl, hi, rfl, hall⟩
      by_cases hlt : i < xs.length
      · refine .inr ⟨⟨xs, xs[i], q4, List.getElem?_eq_getElem hlt⟩, ?_⟩
        rintro x H'' ⟨rfl, hx2⟩
        have ex : xs[i]? = some x := hx2 xs q4
        have hmem : x ∈ xs := List.mem_of_getElem? ex
        refine ⟨rfl, yesT ?_⟩
        refine ⟨_, rfl, x, rfl, b, x, rfl, Ext.ty e4 (hx x hmem), _, rfl, fun hb => ⟨_, ?_, rfl, hlt, rfl, ?_⟩, fun hb => ?_⟩
        · omega
        · rw [List.take_add_one, ex, List.all_append, hall]
          simp [hb]
        · have e : xs.all (btwV 0 (b - 1)) = false := by
            rw [List.all_eq_false]
            exact ⟨x, hmem, by rw [hb]; exact Bool.false_ne_true⟩
          rw [← e]
          exact q H'' e4 t4
      · refine .inl ⟨⟨xs, q4, by omega⟩, ?_⟩
        have e : xs.take i = xs := List.take_of_length_le (by omega)
        rw [e] at hall
        rw [← hall]
        exact q H' e4 t4
    · refine ⟨v, rfl, v, .ty "tuple", _, _, _, rfl, .ty _, ht, kit_tuple hk, _, rfl, ?_⟩
      have e : (t == "tuple") = false := by simpa using ne
      rw [e]
      exact iteF q
end
end W

namespace W
open PySem PySem.Spec PyProof.Rows L2 B1
theorem Ext.refl (H : Hp) : Ext H H := fun _ _ h _ => h
theorem Ext.trans {H H1 H2 : Hp} (a : Ext H H1) (b : Ext H1 H2) : Ext H H2 := fun c o h n => b c o (a c o h n) n
theorem ext_upd {H : Hp} {p : Addr} {o : HO} (h : H p = none) : Ext H (upd H p o) := fun b u e _ => by
  rw [upd_ne (ne_of_none e h)]; exact e
theorem tbs_upd {Ts : List Addr} {H : Hp} {p : Addr} {o : HO} (t : Tbs Ts H) (h : H p = none) : Tbs Ts (upd H p o) := fun P hP => by
  obtain ⟨ps, e, r⟩ := t P hP
  exact ⟨ps, by rw [upd_ne (ne_of_none e h)]; exact e, r⟩
/-- a list of ours is written -/
theorem tbs_put {Ts : List Addr} {H : Hp} {p : Addr} {o : HO} {xs : List V} (t : Tbs Ts H) (h : H p = some (.lst xs)) : Tbs Ts (upd H p o) := fun P hP => by
  obtain ⟨ps, e, r⟩ := t P hP
  exact ⟨ps, by rw [upd_ne (fun z => by rw [z, h] at e; cases e)]; exact e, r⟩
def lastNz (xs : List V) : Bool := match xs.getLast? with
  | none => true
  | some x => !decide (x = .int 0)
def polyV (b : Int) (xs : List V) : Bool := xs.all (btwV 0 (b - 1)) && lastNz xs
theorem btw_int {lo hi : Int} {v : V} (h : btwV lo hi v = true) : ∃ i, v = .int i ∧ lo ≤ i ∧ i ≤ hi := by
  cases v with
  | int i => 
    simp only [btwV, Bool.and_eq_true, decide_eq_true_eq] at h
    exact ⟨i, rfl, h.1, h.2⟩
  | _ => simp [btwV] at h
section
variable {P : Program} {w : World} {K : PySem.W.Frag} {mg : Str → Option Value} {base : Heap}
/-- what is known of the defs of checks -/
structure Chk (K : PySem.W.Frag) (mg : Str → Option Value) (base : Heap) (Ts : List Addr) (f1 f2 f3 f4 c4 P4 : Addr) (fd1 fd2 fd3 fd4 : FuncData) : Prop where
  F1 : Fun K "is_whole" "is_whole" s_is_whole f1 fd1
  F2 : Fun K "is_whole_between" "is_whole_between" s_is_whole_between f2 fd2
  F3 : Fun K "is_number" "is_number" s_is_number f3 fd3
  F4 : FunC K "is_row" "is_row" s_is_row f4 fd4 c4
  b1 : Binds K fd1 ["thing"] []
  b2 : Binds K fd2 ["thing", "least", "most"] []
  b3 : Binds K fd3 ["bound", "thing"] []
  b4 : Binds K fd4 ["bound", "thing"] []
  g1 : mg "is_whole" = some (.ref f1)
  g2 : mg "is_whole_between" = some (.ref f2)
  g3 : mg "is_number" = some (.ref f3)
  g4 : mg "is_row" = some (.ref f4)
  TB4 : GxR.TabB base mg c4 P4
  hT4 : P4 ∈ Ts
  mI : mg "isinstance" = none
  mi : mg "int" = none
  mb : mg "bool" = none
  mt : mg "tuple" = none
  ma : mg "all" = none
  ml : mg "len" = none
  mr : mg "range" = none
variable {Ts : List Addr} {f1 f2 f3 f4 c4 P4 : Addr} {fd1 fd2 fd3 fd4 : FuncData}
theorem Chk.number {k : Nat} (X : Chk K mg base Ts f1 f2 f3 f4 c4 P4 fd1 fd2 fd3 fd4) : FnOk P w K mg base CX0 (k + 3) f3 fd3 ["bound", "thing"] (sp_number K) := ok_number X.F3 X.F2 X.F1 X.b2 X.b1 X.g2 X.g1 X.mI X.mi X.mb
theorem Chk.btw {k : Nat} (X : Chk K mg base Ts f1 f2 f3 f4 c4 P4 fd1 fd2 fd3 fd4) : FnOk P w K mg base CX0 (k + 2) f2 fd2 ["thing", "least", "most"] (sp_btw K) := ok_btw X.F2 X.F1 X.b1 X.g1 X.mI X.mi X.mb
theorem Chk.row (X : Chk K mg base Ts f1 f2 f3 f4 c4 P4 fd1 fd2 fd3 fd4) : FnOk P w K mg base CX0 10 f4 fd4 ["bound", "thing"] (sp_row K Ts) := ok_row X.F4 X.TB4 X.hT4 X.F3 X.F2 X.F1 X.b3 X.b2 X.b1 X.g3 X.g2 X.g1 X.mI X.mi X.mb X.mt X.ma

/-! ### fits_poly -/
theorem sc_fits_poly : FnScope ["bound", "thing"] ["bound", "thing"] (defScope s_fits_poly) := ⟨rfl, rfl, rfl, by decide +kernel, rfl, by decide +kernel, by decide +kernel⟩
def sp_fits (K : PySem.W.Frag) (Ts : List Addr) : Sp := fun vs H Q _ => ∃ (b : Int) (v : V), vs = [.int b, v] ∧ Tbs Ts H ∧
  ((∃ a xs, v = .ref a ∧ SqT K H a xs ∧ (∀ x ∈ xs, TyOk K H x) ∧ ∀ H', Ext H H' → Tbs Ts H' → Q (.bl (polyV b xs)) H') ∨
   ((∃ t, TyX K H v (.type t) ∧ t ∈ kinds ∧ t ≠ "tuple") ∧ Q (.bl false) H))
theorem ok_fits {f : Addr} {fd : FuncData} (F : Fun K "fits_poly" "fits_poly" s_fits_poly f fd) (X : Chk K mg base Ts f1 f2 f3 f4 c4 P4 fd1 fd2 fd3 fd4) :
    FnOk P w K mg base CX0 11 f fd ["bound", "thing"] (sp_fits K Ts) := by
  have G4 : FnOk P w K mg base CX0 10 f4 fd4 ["bound", "thing"] (sp_row K Ts) := X.row
  refine F.ok sc_fits_poly (fun vs H Q E h => ?_) (fun cdv A outer s H vs Q E hr h => ?_)
  · obtain ⟨b, v, rfl, _⟩ := h
    rfl
  · obtain ⟨b, v, rfl, hTb, h⟩ := h
    refine ⟨_, pss_one (ps_ret (pe_and (pe_call G4 hr (by rfl) X.g4 X.F4.kp X.b4 .nil pass0 (pa_cons (pv 0) (pa_cons (pv 1) pa_nil)))
      (pe_one (pe_or (pe_cmpR op_eq (pe_callB call_len_seq (by rfl) X.ml PySem.boot_len (pa_cons (pv 1) pa_nil)) pe_int (nomark _))
        (pe_one (pe_cmpR op_ne (pe_ix ix_tup (pv 1) (pe_un un_neg pe_int) (fun _ _ => rfl)) pe_int (nomark _))))))), ?_⟩
    rcases h with ⟨a, xs, rfl, hq, hx, q⟩ | ⟨ht, q⟩
    · refine ⟨_, rfl, _, rfl, b, .ref a, rfl, hTb, .inl ⟨a, xs, rfl, hq, hx, fun H' e1 t1 => ⟨_, rfl, ?_⟩⟩⟩
      have q1 := Ext.tup e1 hq
      by_cases hall : xs.all (btwV 0 (b - 1)) = true
      · rw [if_pos hall]
        refine ⟨_, rfl, a, xs, rfl, .inr q1, rfl, _, rfl, ?_⟩
        by_cases hn : xs = []
        · subst hn
          exact iteT (q H' e1 t1)
        · have hl : xs.length ≠ 0 := fun z => hn (List.length_eq_zero_iff.mp z)
          rw [if_neg (by intro z; have z := of_decide_eq_true z; simp only [V.int.injEq] at z; omega)]
          obtain ⟨ys, y, rfl⟩ : ∃ ys y, xs = ys ++ [y] := ⟨xs.dropLast, xs.getLast hn, (List.dropLast_concat_getLast hn).symm⟩
          obtain ⟨i, ei, _⟩ := btw_int (List.all_eq_true.mp hall y (by simp))
          refine ⟨_, rfl, 1, rfl, a, _, -1, y, rfl, rfl, q1, atI_last _ _, by subst ei; rfl, ?_⟩
          have e2 : polyV b (ys ++ [y]) = !decide (y = .int 0) := by
            unfold polyV lastNz
            rw [hall, List.getLast?_concat]
            rfl
          rw [← e2]
          exact q H' e1 t1
      · rw [if_neg hall]
        have e2 : polyV b xs = false := by
          unfold polyV
          cases z : xs.all (btwV 0 (b - 1)) with
          | true => exact absurd z hall
          | false => rfl
        rw [← e2]
        exact q H' e1 t1
    · refine ⟨_, rfl, _, rfl, b, v, rfl, hTb, .inr ⟨ht, _, rfl, iteF q⟩⟩
end
end W

namespace W
open PySem PySem.Spec PyProof.Rows L2 B1
/-- a bound -/
def Bd (b : Int) : Prop := 2 ≤ b ∧ b ≤ 16
/-- numbers of the bound, the last one not 0 -/
def PolyOk (b : Int) (ns : List Int) : Prop := (∀ n ∈ ns, 0 ≤ n ∧ n < b) ∧ ns.getLast? ≠ some 0
theorem ty_int {K : PySem.W.Frag} {H : Hp} (i : Int) : TyOk K H (.int i) := ⟨"int", .base (.int i), by decide⟩
theorem ty_ints {K : PySem.W.Frag} {H : Hp} (ns : List Int) : ∀ x ∈ ns.map V.int, TyOk K H x := fun x hx => by
  obtain ⟨i, _, rfl⟩ := List.mem_map.mp hx
  exact ty_int i
theorem poly_true {b : Int} {ns : List Int} (h : PolyOk b ns) : polyV b (ns.map V.int) = true := by
  unfold polyV lastNz
  have h1 : (ns.map V.int).all (btwV 0 (b - 1)) = true := by
    rw [List.all_eq_true]
    intro x hx
    obtain ⟨i, hi, rfl⟩ := List.mem_map.mp hx
    obtain ⟨h1, h2⟩ := h.1 i hi
    simp only [btwV, Bool.and_eq_true, decide_eq_true_eq]
    omega
  rw [h1, List.getLast?_map]
  cases e : ns.getLast? with
  | none => rfl
  | some z =>
    have : z ≠ 0 := fun q => h.2 (by rw [e, q])
    simp [this]
section
variable {P : Program} {w : World} {K : PySem.W.Frag} {mg : Str → Option Value} {base : Heap} {Ts : List Addr} {f1 f2 f3 f4 c4 P4 : Addr} {fd1 fd2 fd3 fd4 : FuncData}
/-! ### check_bound, check_number, check_poly where nothing is refused -/
theorem sc_check_bound : FnScope ["bound"] ["bound"] (defScope s_check_bound) := ⟨rfl, rfl, rfl, by decide +kernel, rfl, by decide +kernel, by decide +kernel⟩
def sp_cb : Sp := fun vs H Q _ => ∃ (b : Int), vs = [.int b] ∧ Bd b ∧ Q .non H
theorem ok_cb {f : Addr} {fd : FuncData} {tl tg : Tok} (F : Fun K "check_bound" "check_bound" s_check_bound f fd) (X : Chk K mg base Ts f1 f2 f3 f4 c4 P4 fd1 fd2 fd3 fd4) (gl : mg "LEAST_BOUND" = some (.int 2 tl)) (gg : mg "GREATEST_BOUND" = some (.int 16 tg)) :
    FnOk P w K mg base CX0 3 f fd ["bound"] sp_cb := by
  have G2 : FnOk P w K mg base CX0 2 f2 fd2 ["thing", "least", "most"] (sp_btw K) := X.btw
  refine F.ok sc_check_bound (fun vs H Q E h => ?_) (fun cdv A outer s H vs Q E hr h => ?_)
  · obtain ⟨b, rfl, _⟩ := h
    rfl
  · obtain ⟨b, rfl, hb, q⟩ := h
    refine ⟨_, pss_one (ps_if (pt_not (pt_val (pe_call G2 hr (by rfl) X.g2 X.F2.kp X.b2 .nil pass0 (pa_cons (pv 0) (pa_cons (pe_glob (v := .int 2) (by rfl) gl ⟨_, rfl⟩) (pa_cons (pe_glob (v := .int 16) (by rfl) gg ⟨_, rfl⟩) pa_nil)))))) pss_never pss_nil), ?_⟩
    refine ⟨_, rfl, .int b, 2, 16, rfl, ty_int b, _, rfl, ?_⟩
    have e : btwV 2 16 (.int b) = true := by
      simp only [btwV, Bool.and_eq_true, decide_eq_true_eq]
      exact hb
    rw [e]
    exact iteF q
theorem sc_check_number : FnScope ["bound", "number"] ["bound", "number"] (defScope s_check_number) := ⟨rfl, rfl, rfl, by decide +kernel, rfl, by decide +kernel, by decide +kernel⟩
def sp_cn : Sp := fun vs H Q _ => ∃ (b n : Int), vs = [.int b, .int n] ∧ 0 ≤ n ∧ n < b ∧ Q .non H
theorem ok_cn {f : Addr} {fd : FuncData} (F : Fun K "check_number" "check_number" s_check_number f fd) (X : Chk K mg base Ts f1 f2 f3 f4 c4 P4 fd1 fd2 fd3 fd4) : FnOk P w K mg base CX0 4 f fd ["bound", "number"] sp_cn := by
  have G3 : FnOk P w K mg base CX0 3 f3 fd3 ["bound", "thing"] (sp_number K) := X.number
  refine F.ok sc_check_number (fun vs H Q E h => ?_) (fun cdv A outer s H vs Q E hr h => ?_)
  · obtain ⟨b, n, rfl, _⟩ := h
    rfl
  · obtain ⟨b, n, rfl, h1, h2, q⟩ := h
    refine ⟨_, pss_one (ps_if (pt_not (pt_val (pe_call G3 hr (by rfl) X.g3 X.F3.kp X.b3 .nil pass0 (pa_cons (pv 0) (pa_cons (pv 1) pa_nil))))) pss_never pss_nil), ?_⟩
    refine ⟨_, rfl, _, rfl, b, .int n, rfl, ty_int n, _, rfl, ?_⟩
    have e : btwV 0 (b - 1) (.int n) = true := by
      simp only [btwV, Bool.and_eq_true, decide_eq_true_eq]
      omega
    rw [e]
    exact iteF q
theorem sc_check_poly : FnScope ["bound", "poly"] ["bound", "poly"] (defScope s_check_poly) := ⟨rfl, rfl, rfl, by decide +kernel, rfl, by decide +kernel, by decide +kernel⟩
def sp_cp (K : PySem.W.Frag) (Ts : List Addr) : Sp := fun vs H Q _ => ∃ (b : Int) (a : Addr) (ns : List Int), vs = [.int b, .ref a] ∧ Bd b ∧ SqT K H a (ns.map V.int) ∧ PolyOk b ns ∧ Tbs Ts H ∧ ∀ H', Ext H H' → Tbs Ts H' → Q .non H'
/-- .. and the checks behind them -/
structure Chp (K : PySem.W.Frag) (mg : Str → Option Value) (f5 f6 f7 f8 : Addr) (fd5 fd6 fd7 fd8 : FuncData) : Prop where
  F5 : Fun K "fits_poly" "fits_poly" s_fits_poly f5 fd5
  F6 : Fun K "check_bound" "check_bound" s_check_bound f6 fd6
  F7 : Fun K "check_number" "check_number" s_check_number f7 fd7
  F8 : Fun K "check_poly" "check_poly" s_check_poly f8 fd8
  b5 : Binds K fd5 ["bound", "thing"] []
  b6 : Binds K fd6 ["bound"] []
  b7 : Binds K fd7 ["bound", "number"] []
  b8 : Binds K fd8 ["bound", "poly"] []
  g5 : mg "fits_poly" = some (.ref f5)
  g6 : mg "check_bound" = some (.ref f6)
  g7 : mg "check_number" = some (.ref f7)
  g8 : mg "check_poly" = some (.ref f8)
  gl : ∃ t, mg "LEAST_BOUND" = some (.int 2 t)
  gg : ∃ t, mg "GREATEST_BOUND" = some (.int 16 t)
variable {f5 f6 f7 f8 : Addr} {fd5 fd6 fd7 fd8 : FuncData}
theorem ok_cp (X : Chk K mg base Ts f1 f2 f3 f4 c4 P4 fd1 fd2 fd3 fd4) (Y : Chp K mg f5 f6 f7 f8 fd5 fd6 fd7 fd8) : FnOk P w K mg base CX0 12 f8 fd8 ["bound", "poly"] (sp_cp K Ts) := by
  obtain ⟨tl, gl⟩ := Y.gl
  obtain ⟨tg, gg⟩ := Y.gg
  have G5 : FnOk P w K mg base CX0 11 f5 fd5 ["bound", "thing"] (sp_fits K Ts) := ok_fits Y.F5 X
  have G6 : FnOk P w K mg base CX0 3 f6 fd6 ["bound"] sp_cb := ok_cb Y.F6 X gl gg
  refine Y.F8.ok sc_check_poly (fun vs H Q E h => ?_) (fun cdv A outer s H vs Q E hr h => ?_)
  · obtain ⟨b, a, ns, rfl, _⟩ := h
    rfl
  · obtain ⟨b, a, ns, rfl, hb, hq, hp, hT, q⟩ := h
    refine ⟨_, pss_cons (ps_expr (pe_call G6 (hr.mono (by decide)) (by rfl) Y.g6 Y.F6.kp Y.b6 .nil pass0 (pa_cons (pv 0) pa_nil)))
      (pss_one (ps_if (pt_not (pt_val (pe_call G5 hr (by rfl) Y.g5 Y.F5.kp Y.b5 .nil pass0 (pa_cons (pv 0) (pa_cons (pv 1) pa_nil))))) pss_never pss_nil)), ?_⟩
    refine ⟨_, rfl, b, rfl, hb, ?_⟩
    refine ⟨_, rfl, _, rfl, b, .ref a, rfl, hT, .inl ⟨a, _, rfl, hq, ty_ints ns, fun H' e1 t1 => ⟨_, rfl, ?_⟩⟩⟩
    rw [poly_true hp]
    exact iteF (q H' e1 t1)

/-! ### worth_at -/
def horner (b x : Int) (ns : List Int) : Int := ns.foldr (fun n acc => (acc * x + n) % b) 0
theorem horner_cons (b x n : Int) (ns : List Int) : horner b x (n :: ns) = (horner b x ns * x + n) % b := rfl
theorem horner_lt {b x : Int} {ns : List Int} (hb : 0 < b) : 0 ≤ horner b x ns ∧ horner b x ns < b := by
  cases ns with
  | nil => exact ⟨Int.le_refl 0, hb⟩
  | cons n ns => rw [horner_cons]; exact ⟨Int.emod_nonneg _ (by omega), Int.emod_lt_of_pos _ hb⟩
theorem sc_worth_at : FnScope ["bound", "poly", "number", "worth", "factor"] ["bound", "poly", "number"] (defScope s_worth_at) := ⟨rfl, rfl, rfl, by decide +kernel, rfl, by decide +kernel, by decide +kernel⟩
def sp_wa (K : PySem.W.Frag) (Ts : List Addr) : Sp := fun vs H Q _ => ∃ (b : Int) (a : Addr) (ns : List Int) (x : Int), vs = [.int b, .ref a, .int x] ∧ Bd b ∧ SqT K H a (ns.map V.int) ∧ PolyOk b ns ∧ 0 ≤ x ∧ x < b ∧ Tbs Ts H ∧ ∀ H', Ext H H' → Tbs Ts H' → Q (.int (horner b x ns)) H'
theorem ok_wa {f : Addr} {fd : FuncData} (F : Fun K "worth_at" "worth_at" s_worth_at f fd) (X : Chk K mg base Ts f1 f2 f3 f4 c4 P4 fd1 fd2 fd3 fd4) (Y : Chp K mg f5 f6 f7 f8 fd5 fd6 fd7 fd8) (mv : mg "reversed" = none) : FnOk P w K mg base CX0 13 f fd ["bound", "poly", "number"] (sp_wa K Ts) := by
  have G8 : FnOk P w K mg base CX0 12 f8 fd8 ["bound", "poly"] (sp_cp K Ts) := ok_cp X Y
  have G7 : FnOk P w K mg base CX0 4 f7 fd7 ["bound", "number"] sp_cn := ok_cn Y.F7 X
  refine F.ok sc_worth_at (fun vs H Q E h => ?_) (fun cdv A outer s H vs Q E hr h => ?_)
  · obtain ⟨b, a, ns, x, rfl, _⟩ := h
    rfl
  · obtain ⟨b, a, ns, x, rfl, hb, hq, hp, hx0, hx1, hT, q⟩ := h
    refine ⟨_, pss_cons (ps_expr (pe_call G8 hr (by rfl) Y.g8 Y.F8.kp Y.b8 .nil pass0 (pa_cons (pv 0) (pa_cons (pv 1) pa_nil))))
      (pss_cons (ps_expr (pe_call G7 (hr.mono (by decide)) (by rfl) Y.g7 Y.F7.kp Y.b7 .nil pass0 (pa_cons (pv 0) (pa_cons (pv 2) pa_nil))))
      (pss_cons (ps_set (i := 3) sc_worth_at.nd rfl (Or.inl rfl) pe_int)
      (pss_cons (ps_for PassesOwn.never rfl (RT.pi_revA (by rfl) mv (pv 1)) (pg_name (i := 4) sc_worth_at.nd rfl (Or.inl rfl))
        (pss_one (ps_set (i := 3) sc_worth_at.nd rfl (Or.inl rfl) (pe_op op_mod (pe_op op_add (pe_op op_mul (pv 3) (pv 2)) (pv 4)) (pv 0)))))
      (pss_one (ps_ret (pv 3)))))), ?_⟩
    refine ⟨_, rfl, _, rfl, b, a, ns, rfl, hb, hq, hp, hT, fun H1 e1 t1 => ?_⟩
    refine ⟨_, rfl, _, rfl, b, x, rfl, hx0, hx1, ?_⟩
    have q1 := Ext.tup e1 hq
    refine ⟨_, rfl, a, ns.map V.int, rfl, .inr ⟨q1, ?_⟩⟩
    rw [List.length_map]
    refine ⟨fun i m σ H' => ∃ y, σ = [some (.int b), some (.ref a), some (.int x), some (.int (horner b x (ns.drop (ns.length - i)))), y] ∧ H' = H1 ∧ m = ns.length - i ∧ i ≤ ns.length, ⟨_, none, ?_, rfl, rfl, Nat.zero_le _⟩, ?_⟩
    · rw [Nat.sub_zero, List.drop_length]
      rfl
    · rintro i m σ H' ⟨y, rfl, rfl, rfl, hi⟩
      by_cases hlt : i < ns.length
      · have hj : ns.length - 1 - i < ns.length := by omega
        refine .inr ⟨⟨hlt, ns.map V.int, .int (ns[ns.length - 1 - i]), q1, by rw [List.getElem?_map, List.getElem?_eq_getElem hj]; rfl⟩, fun σ' H'' => ∃ y, σ' = [some (.int b), some (.ref a), some (.int x), some (.int (horner b x (ns.drop (ns.length - (i + 1))))), y] ∧ H'' = H', fun σ' H'' hN => ?_, fun v H'' hy => ?_⟩
        · obtain ⟨y', e1', e2'⟩ := hN
          exact ⟨_, by omega, y', e1', e2', rfl, hlt⟩
        · obtain ⟨rfl, hv⟩ := hy
          have ev : v = .int (ns[ns.length - 1 - i]) := by
            have := hv _ q1
            rw [List.getElem?_map, List.getElem?_eq_getElem hj] at this
            exact (Option.some.inj this).symm
          subst ev
          refine ⟨_, rfl, _, rfl, _, _, rfl, rfl, .inr ⟨by omega, by have := hb.2; omega⟩, _, rfl, _, _, rfl, rfl, _, rfl, _, _, rfl, rfl, by have := hb.1; omega, ?_⟩
          refine ⟨some (.int (ns[ns.length - 1 - i])), ?_, rfl⟩
          have ed : ns.drop (ns.length - (i + 1)) = ns[ns.length - 1 - i] :: ns.drop (ns.length - i) := by
            have e1 : ns.length - (i + 1) = ns.length - 1 - i := by omega
            have e2 : ns.length - i = ns.length - 1 - i + 1 := by omega
            rw [e1, e2]
            exact List.drop_eq_getElem_cons hj
          rw [ed, horner_cons]
          rfl
      · refine .inl ⟨(show ns.length ≤ i by omega), _, rfl, ?_⟩
        have e : ns.length - i = 0 := by omega
        rw [e, List.drop_zero]
        exact q H' e1 t1
/-! ### worths -/
theorem sc_worths : FnScope ["bound", "poly", "number"] ["bound", "poly"] (defScope s_worths) := ⟨rfl, rfl, rfl, by decide +kernel, rfl, by decide +kernel, by decide +kernel⟩
/-- all worths -/
def worthsL (b : Int) (ns : List Int) : List Int := (List.range b.toNat).map fun (i : Nat) => horner b (i : Int) ns
def sp_ws (K : PySem.W.Frag) (Ts : List Addr) : Sp := fun vs H Q _ => ∃ (b : Int) (a : Addr) (ns : List Int), vs = [.int b, .ref a] ∧ Bd b ∧ SqT K H a (ns.map V.int) ∧ PolyOk b ns ∧ Tbs Ts H ∧
  ∀ H' p, Ext H H' → Tbs Ts H' → H' p = some (.tup ((worthsL b ns).map V.int)) → Q (.ref p) H'
theorem ok_ws {f f9 c P5 : Addr} {fd fd9 : FuncData} (F : FunC K "worths" "worths" s_worths f fd c) (TB : GxR.TabB base mg c P5) (hP : P5 ∈ Ts) (F9 : Fun K "worth_at" "worth_at" s_worth_at f9 fd9) (b9 : Binds K fd9 ["bound", "poly", "number"] []) (g9 : mg "worth_at" = some (.ref f9))
    (X : Chk K mg base Ts f1 f2 f3 f4 c4 P4 fd1 fd2 fd3 fd4) (Y : Chp K mg f5 f6 f7 f8 fd5 fd6 fd7 fd8) (mv : mg "reversed" = none) : FnOk P w K mg base CX0 21 f fd ["bound", "poly"] (sp_ws K Ts) := by
  have G8 : FnOk P w K mg base CX0 12 f8 fd8 ["bound", "poly"] (sp_cp K Ts) := ok_cp X Y
  have G9 : FnOk P w K mg base CX0 13 f9 fd9 ["bound", "poly", "number"] (sp_wa K Ts) := ok_wa F9 X Y mv
  refine F.ok sc_worths (fun vs H Q E h => ?_) (fun A outer s H vs Q E hr h => ?_)
  · obtain ⟨b, a, ns, rfl, _⟩ := h
    rfl
  · obtain ⟨b, a, ns, rfl, hb, hq, hp, hT, q⟩ := h
    refine ⟨_, pss_cons (ps_expr (pe_call G8 (hr.mono (by decide)) (by rfl) Y.g8 Y.F8.kp Y.b8 .nil pass0 (pa_cons (pv 0) (pa_cons (pv 1) pa_nil))))
      (pss_one (ps_ret (GX.pe_tupG (k := 13) (own := [("number", 2)]) (c := c) (P := P5) (tt := tYes) (hr.mono (by decide)) sc_worths.nd (by rfl) X.mt TB rfl (blkOk_by (N := ["bound", "poly", "number"]) (sc := defScope s_worths) (by decide +kernel)) (by decide +kernel) (by decide +kernel) (by rfl) (pi_range1 (by rfl) X.mr (pa_cons (pv 0) pa_nil)) (fun _ => rfl)
        (fun _ _ _ _ _ _ _ => pg_name (i := 2) sc_worths.nd rfl (Or.inl rfl)) (fun _ _ _ _ _ _ _ _ => pts_nil)
        (fun Aw _ _ _ _ _ _ hA => pe_call G9 (hA.deeper _) (by rfl) g9 F9.kp b9 .nil pass0 (pa_cons (pv 0) (pa_cons (pv 1) (pa_cons (pv 2) pa_nil))))))), ?_⟩
    refine ⟨_, rfl, _, rfl, b, a, ns, rfl, hb, hq, hp, hT, fun H1 e1 t1 => ?_⟩
    refine ⟨_, rfl, b, rfl, by have := hb.1; omega, by have := hb.2; omega, t1 P5 hP, fun H4 S hT4 nS => ?_⟩
    have e4 := e1.trans (tab_ext (t1 P5 hP) hT4)
    have t4 := tbs_tab t1 hT4
    refine ⟨fun i m H' => m = b.toNat - i ∧ i ≤ b.toNat ∧ Ext H H' ∧ Tbs Ts H' ∧ H' S = some (.lst (((worthsL b ns).take i).map V.int)), ⟨_, rfl, Nat.zero_le _, e4.trans (ext_upd nS), tbs_upd t4 nS, upd_same⟩, ?_⟩
    rintro i m H' ⟨rfl, hi, e5, t5, hS⟩
    have hl : (worthsL b ns).length = b.toNat := by unfold worthsL; rw [List.length_map, List.length_range]
    by_cases hlt : i < b.toNat
    · refine .inr ⟨hlt, ?_⟩
      rintro x H'' ⟨rfl, rfl⟩
      refine ⟨rfl, yesT ?_⟩
      refine ⟨_, rfl, _, rfl, _, rfl, b, a, ns, 0 + (i : Int), rfl, hb, Ext.tup e5 hq, hp, by omega, by omega, t5, fun H6 e6 t6 => ?_⟩
      have hS6 := e6 _ _ hS fun ps z => by cases z
      refine ⟨_, hS6, ?_, _, ?_, rfl, hlt, ?_, tbs_put t6 hS6, ?_⟩
      · rw [List.length_map, List.length_take, hl]
        have : (16 : Nat) < sizeLine := by decide
        have := hb.2
        omega
      · omega
      · intro bb o eb nt
        have nb : bb ≠ S := fun z => by
          have := e4 _ _ (show H bb = some o from eb) nt
          rw [z, nS] at this; cases this
        rw [upd_ne nb]
        exact e6 _ _ (e5 _ _ eb nt) nt
      · rw [upd_same, List.take_add_one]
        have ei : (worthsL b ns)[i]? = some (horner b (i : Int) ns) := by
          unfold worthsL
          rw [List.getElem?_map, List.getElem?_range hlt]
          rfl
        rw [ei, List.map_append, Int.zero_add]
        rfl
    · refine .inl ⟨by show b.toNat ≤ i; omega, _, hS, fun p np => ?_⟩
      have e : (worthsL b ns).take i = worthsL b ns := List.take_of_length_le (by omega)
      rw [e]
      exact q _ p (e5.trans (ext_upd np)) (tbs_upd t5 np) upd_same
end
end W

namespace W
open PySem PySem.Spec PyProof.Rows L2 B1
/-- the law's pen at p -/
def Pen (H : Hp) (p : Addr) : Prop := ∃ l fl : Int, H p = some (.lst [.int l, .int fl]) ∧ 0 ≤ l
/-- all but the pen stays -/
def ExB (p : Addr) (H H' : Hp) : Prop := ∀ b o, b ≠ p → H b = some o → H' b = some o
theorem ExB.refl (p : Addr) (H : Hp) : ExB p H H := fun _ _ _ h => h
theorem ExB.trans {p : Addr} {H H1 H2 : Hp} (a : ExB p H H1) (b : ExB p H1 H2) : ExB p H H2 := fun c o n h => b c o n (a c o n h)
theorem exb_upd {p q : Addr} {H : Hp} {o : HO} (h : H q = none) : ExB p H (upd H q o) := fun b u _ e => by
  rw [upd_ne (ne_of_none e h)]; exact e
theorem pen_upd {p q : Addr} {H : Hp} {o : HO} (h : Pen H p) (hq : H q = none) : Pen (upd H q o) p := by
  obtain ⟨l, fl, e, hl⟩ := h
  exact ⟨l, fl, by rw [upd_ne (ne_of_none e hq)]; exact e, hl⟩
theorem Pen.ne {p q : Addr} {H : Hp} (h : Pen H p) (hq : H q = none) : p ≠ q := by
  obtain ⟨l, fl, e, _⟩ := h
  exact ne_of_none e hq
theorem ExB.tbs {p : Addr} {H H' : Hp} {Ts : List Addr} (e : ExB p H H') (h : Pen H p) (t : Tbs Ts H) : Tbs Ts H' := fun P hP => by
  obtain ⟨l, fl, ep, _⟩ := h
  obtain ⟨ps, e1, r⟩ := t P hP
  exact ⟨ps, e P _ (fun z => by rw [z, ep] at e1; cases e1) e1, r⟩
theorem ExB.tup {K : PySem.W.Frag} {p a : Addr} {H H' : Hp} {xs : List V} (e : ExB p H H') (hp : Pen H p) (h : SqT K H a xs) : SqT K H' a xs := by
  obtain ⟨l, fl, ep, _⟩ := hp
  rcases h with (h | ⟨o, h⟩) | h
  · exact .inl (.inl (e _ _ (fun z => by rw [z, ep] at h; cases h) h))
  · exact .inl (.inr ⟨o, e _ _ (fun z => by rw [z, ep] at h; cases h) h⟩)
  · exact .inr h
section
variable {P : Program} {w : World} {K : PySem.W.Frag} {mg : Str → Option Value} {base : Heap}
/-! ### _law_cell -/
theorem sc_cell : FnScope ["_law_script", "_law_k"] ["_law_script", "_law_k"] (defScope s_law_cell) := ⟨rfl, rfl, rfl, by decide +kernel, rfl, by decide +kernel, by decide +kernel⟩
def sp_cell (K : PySem.W.Frag) : Sp := fun vs H Q _ => ∃ (l : Addr) (ns : List Int) (j : Nat), vs = [.ref l, .int (j : Int)] ∧ SqL K H l (ns.map V.int) ∧ ∀ v : Int, (v = 0 ∨ v ∈ ns) → Q (.int v) H
theorem ok_cell {f : Addr} {fd : FuncData} {k : Nat} (F : Fun K "_law_cell" "_law_cell" s_law_cell f fd) (ml : mg "len" = none) : FnOk P w K mg base CX0 (k + 1) f fd ["_law_script", "_law_k"] (sp_cell K) := by
  refine F.ok sc_cell (fun vs H Q E h => ?_) (fun cdv A outer s H vs Q E hr h => ?_)
  · obtain ⟨l, ns, j, rfl, _⟩ := h
    rfl
  · obtain ⟨l, ns, j, rfl, hq, q⟩ := h
    refine ⟨_, pss_cons (ps_if (pt_cmpR op_lt (pv 1) (pe_callB call_len_seq (by rfl) ml PySem.boot_len (pa_cons (pv 0) pa_nil)) (nomark _)) (pss_one (ps_ret (pe_ix ix_list (pv 0) (pv 1) (fun _ _ => rfl)))) pss_nil) (pss_one (ps_ret pe_int)), ?_⟩
    refine ⟨_, rfl, _, rfl, l, _, rfl, .inl hq, _, _, rfl, rfl, _, rfl, ?_⟩
    refine ite_b (fun hj => ?_) fun _ => ?_
    · have hj : j < ns.length := by
        have hj := of_decide_eq_true hj
        rw [List.length_map] at hj
        omega
      refine ⟨_, rfl, _, rfl, l, _, _, .int ns[j], rfl, rfl, hq, atI_nat (by rw [List.getElem?_map, List.getElem?_eq_getElem hj]; rfl), ?_⟩
      exact q _ (.inr (List.getElem_mem hj))
    · exact q 0 (.inl rfl)
/-! ### _law_pen -/
theorem sc_pen : FnScope ["_law_cell_here", "_law_left"] ["_law_cell_here"] (defScope s_law_pen) := ⟨rfl, rfl, rfl, by decide +kernel, rfl, by decide +kernel, by decide +kernel⟩
def sp_pen : Sp := fun vs H Q _ => ∃ c : Int, vs = [.int c] ∧ ∀ p l fl, H p = none → 0 ≤ l → Q (.ref p) (upd H p (.lst [.int l, .int fl]))
theorem ok_pen {f : Addr} {fd : FuncData} {k : Nat} (F : Fun K "_law_pen" "_law_pen" s_law_pen f fd) (mm : mg "max" = none) (mi : mg "int" = none) : FnOk P w K mg base CX0 (k + 1) f fd ["_law_cell_here"] sp_pen := by
  refine F.ok sc_pen (fun vs H Q E h => ?_) (fun cdv A outer s H vs Q E hr h => ?_)
  · obtain ⟨c, rfl, _⟩ := h
    rfl
  · obtain ⟨c, rfl, q⟩ := h
    refine ⟨_, pss_cons (ps_set (i := 1) sc_pen.nd rfl (Or.inl rfl) (pe_callB (call_max2 rfl) (by rfl) mm boot_max (pa_cons (pv 0) (pa_cons (pe_op op_sub pe_int (pv 0)) pa_nil))))
      (pss_one (ps_ret (pe_lst (pa_cons (pv 1) (pa_cons (pe_callTy call_int1 (by rfl) mi boot_int (pa_cons (pe_cmpR op_ge (pv 1) (pe_op op_pow pe_int pe_int) (nomark _)) pa_nil)) pa_nil))))), ?_⟩
    refine ⟨_, rfl, _, rfl, _, _, rfl, rfl, c, 0 - c, rfl, ?_⟩
    refine ⟨_, rfl, _, rfl, _, _, rfl, rfl, ⟨by decide, by decide, by decide⟩, _, _, rfl, rfl, .inr ⟨_, rfl, ?_⟩⟩
    refine ⟨by show 2 ≤ sizeLine; decide, fun p np => q p _ _ np ?_⟩
    split <;> omega
/-! ### _law_draw -/
theorem sc_draw : FnScope ["_law_pen_here", "_law_many", "_law_left", "_law_found", "_law_stir"] ["_law_pen_here", "_law_many"] (defScope s_law_draw) := ⟨rfl, rfl, rfl, by decide +kernel, rfl, by decide +kernel, by decide +kernel⟩
def sp_draw : Sp := fun vs H Q _ => ∃ (p : Addr) (m : Int), vs = [.ref p, .int m] ∧ Pen H p ∧ 1 ≤ m ∧ m < 1073741824 ∧ ∀ (r : Int) (H' : Hp), 0 ≤ r → r < m → ExB p H H' → Pen H' p → Q (.int r) H'
theorem ok_draw {f : Addr} {fd : FuncData} {k : Nat} (F : Fun K "_law_draw" "_law_draw" s_law_draw f fd) (md : mg "divmod" = none) : FnOk P w K mg base CX0 (k + 1) f fd ["_law_pen_here", "_law_many"] sp_draw := by
  refine F.ok sc_draw (fun vs H Q E h => ?_) (fun cdv A outer s H vs Q E hr h => ?_)
  · obtain ⟨p, m, rfl, _⟩ := h
    rfl
  · obtain ⟨p, m, rfl, ⟨l, fl, hp, hl⟩, hm1, hm2, q⟩ := h
    refine ⟨_, pss_cons (ps_if (pt_cmpR op_eq (pe_ix ix_list (pv 0) pe_int (fun _ _ => rfl)) pe_int (nomark _))
        (pss_cons (ps_asg (pe_callB call_divmod (by rfl) md boot_divmod (pa_cons (pe_ix ix_list (pv 0) pe_int (fun _ _ => rfl)) (pa_cons (pv 1) pa_nil)))
            (pg_tup rfl (pgs_cons (pg_name (i := 2) sc_draw.nd rfl (Or.inl rfl)) (pgs_cons (pg_name (i := 3) sc_draw.nd rfl (Or.inl rfl)) pgs_nil))))
          (pss_cons (ps_asg (pv 2) (pg_sub (pv 0) pe_int set_list)) (pss_one (ps_ret (pv 3))))) pss_nil)
      (pss_cons (ps_set (i := 4) sc_draw.nd rfl (Or.inl rfl) (pe_op op_mod (pe_op op_mul (pe_op op_add (pe_op op_mod (pe_ix ix_list (pv 0) pe_int (fun _ _ => rfl)) pe_int) pe_int) pe_int) pe_int))
      (pss_cons (ps_set (i := 4) sc_draw.nd rfl (Or.inl rfl) (pe_op op_mod (pe_op op_add (pe_op op_mul (pv 4) (pv 4)) pe_int) pe_int))
      (pss_cons (ps_asg (pe_op op_mod (pe_op op_add (pe_op op_mul (pv 4) pe_int) pe_int) pe_int) (pg_sub (pv 0) pe_int set_list))
      (pss_one (ps_ret (pe_op op_mod (pe_op op_fdiv (pe_ix ix_list (pv 0) pe_int (fun _ _ => rfl)) pe_int) (pv 1))))))), ?_⟩
    have hq : SqL K H p [.int l, .int fl] := SqL.of hp
    refine ⟨_, rfl, p, _, 1, .int fl, rfl, rfl, hq, atI_nat (j := 1) rfl, rfl, _, rfl, ?_⟩
    refine ite2 (fun h1 => ?_) fun h1 => ?_
    · refine ⟨_, rfl, p, _, 0, .int l, rfl, rfl, hq, atI_nat (j := 0) rfl, _, rfl, l, m, rfl, ⟨by omega, hm2⟩, fun t nt => ?_⟩
      have npt : p ≠ t := ne_of_none hp nt
      refine ⟨t, _, rfl, SqT.of upd_same, rfl, _, _, rfl, _, _, rfl, rfl, ?_⟩
      refine ⟨_, rfl, _, rfl, p, _, 0, 0, rfl, rfl, by rw [upd_ne npt]; exact hp, rfl, ?_⟩
      refine ⟨_, rfl, q _ _ (Int.emod_nonneg _ (by omega)) (Int.emod_lt_of_pos _ (by omega)) (fun b o nb e => ?_) ⟨l / m, fl, upd_same, Int.ediv_nonneg hl (by omega)⟩⟩
      rw [upd_ne nb, upd_ne (ne_of_none e nt)]
      exact e
    · refine ⟨_, rfl, p, _, 0, .int l, rfl, rfl, hq, atI_nat (j := 0) rfl, _, _, rfl, rfl, (by show (0 : Int) < 2147483647; decide), _, _, rfl, rfl, _, _, rfl, rfl, .inr ⟨by decide, by decide⟩, _, _, rfl, rfl, (by show (0 : Int) < 2147483629; decide), ?_⟩
      have h69 : ∀ x : Int, 0 ≤ x % 2147483629 ∧ x % 2147483629 < 2147483629 := fun x => ⟨Int.emod_nonneg _ (by decide), Int.emod_lt_of_pos _ (by decide)⟩
      have h87 : ∀ x : Int, 0 ≤ x % 2147483587 ∧ x % 2147483587 < 2147483587 := fun x => ⟨Int.emod_nonneg _ (by decide), Int.emod_lt_of_pos _ (by decide)⟩
      refine ⟨_, rfl, _, rfl, _, _, rfl, rfl, .inl ⟨by have := (h69 ((l % 2147483647 + 40503) * 69621)).1; omega, by have := (h69 ((l % 2147483647 + 40503) * 69621)).2; omega⟩, _, _, rfl, rfl, _, _, rfl, rfl, (by show (0 : Int) < 2147483587; decide), ?_⟩
      refine ⟨_, rfl, _, _, rfl, rfl, .inr ⟨by decide, by decide⟩, _, _, rfl, rfl, _, _, rfl, rfl, (by show (0 : Int) < 2147483629; decide), ?_⟩
      refine ⟨_, rfl, p, _, 0, 0, rfl, rfl, hp, rfl, ?_⟩
      refine ⟨_, rfl, p, _, 0, _, rfl, rfl, SqL.of upd_same, atI_nat (j := 0) rfl, _, _, rfl, rfl, ⟨by decide, by decide⟩, _, rfl, _, m, rfl, rfl, by omega, ?_⟩
      exact q _ _ (Int.emod_nonneg _ (by omega)) (Int.emod_lt_of_pos _ (by omega)) (fun b o nb e => by rw [upd_ne nb]; exact e) ⟨_, fl, upd_same, (h69 _).1⟩
/-! ### _law_same -/
theorem sc_same : FnScope ["_law_found", "_law_due"] ["_law_found", "_law_due"] (defScope s_law_same) := ⟨rfl, rfl, rfl, by decide +kernel, rfl, by decide +kernel, by decide +kernel⟩
def sp_same (K : PySem.W.Frag) : Sp := fun vs H Q _ => ∃ (v u : V) (d : PyData), vs = [v, u] ∧ Dp K H v d ∧ Dp K H u d ∧ Sm d ∧ Q (.bl true) H
theorem ok_same {f c : Addr} {fd : FuncData} {k : Nat} (F : FunC K "_law_same" "_law_same" s_law_same f fd c) (mr : mg "repr" = none) : FnG P w K mg base CX0 (k + 1) f fd ["_law_found", "_law_due"] (sp_same K) := by
  refine F.okG sc_same (fun vs H Q E h => ?_) (fun A outer s H vs Q E hgd hr h => ?_)
  · obtain ⟨v, u, d, rfl, _⟩ := h
    rfl
  · obtain ⟨v, u, d, rfl, h1, h2, sm, q⟩ := h
    refine ⟨_, pss_one (ps_ret (pe_cmpR op_eq (pe_callB (call_reprG hgd hr) (by rfl) mr boot_repr (pa_cons (pv 0) pa_nil)) (pe_callB (call_reprG hgd hr) (by rfl) mr boot_repr (pa_cons (pv 1) pa_nil)) (nomark _))), ?_⟩
    refine ⟨v, rfl, v, d, rfl, h1, sm, u, rfl, u, d, rfl, h2, sm, rfl, ?_⟩
    rw [decide_eq_true rfl]
    exact q
/-! ### _law_bound -/
theorem sc_bound : FnScope ["_law_pen_here"] ["_law_pen_here"] (defScope s_law_bound) := ⟨rfl, rfl, rfl, by decide +kernel, rfl, by decide +kernel, by decide +kernel⟩
def sp_bound : Sp := fun vs H Q _ => ∃ p, vs = [.ref p] ∧ Pen H p ∧ ∀ (b : Int) (H' : Hp), Bd b → ExB p H H' → Pen H' p → Q (.int b) H'
theorem bounds_at (i : Nat) (h : i < 16) : ∃ b : Int, (([2, 3, 4, 5, 6, 7, 8, 9, 10, 12, 16, 14, 15, 4, 13, 11] : List Int).map V.int)[i]? = some (.int b) ∧ Bd b := by
  have hl : i < ([2, 3, 4, 5, 6, 7, 8, 9, 10, 12, 16, 14, 15, 4, 13, 11] : List Int).length := h
  have all : ∀ x ∈ ([2, 3, 4, 5, 6, 7, 8, 9, 10, 12, 16, 14, 15, 4, 13, 11] : List Int), 2 ≤ x ∧ x ≤ 16 := by decide
  exact ⟨_, by rw [List.getElem?_map, List.getElem?_eq_getElem hl]; rfl, all _ (List.getElem_mem hl)⟩
theorem ok_bound {f f1 : Addr} {fd fd1 : FuncData} {k : Nat} (F : Fun K "_law_bound" "_law_bound" s_law_bound f fd) (F1 : Fun K "_law_draw" "_law_draw" s_law_draw f1 fd1) (b1 : Binds K fd1 ["_law_pen_here", "_law_many"] []) (g1 : mg "_law_draw" = some (.ref f1)) (md : mg "divmod" = none) :
    FnOk P w K mg base CX0 (k + 2) f fd ["_law_pen_here"] sp_bound := by
  have G1 : FnOk P w K mg base CX0 (k + 1) f1 fd1 ["_law_pen_here", "_law_many"] sp_draw := ok_draw F1 md
  refine F.ok sc_bound (fun vs H Q E h => ?_) (fun cdv A outer s H vs Q E hr h => ?_)
  · obtain ⟨p, rfl, _⟩ := h
    rfl
  · obtain ⟨p, rfl, hp, q⟩ := h
    refine ⟨_, pss_one (ps_ret (pe_ix ix_list (pe_lst (pa_cons pe_int (pa_cons pe_int (pa_cons pe_int (pa_cons pe_int (pa_cons pe_int (pa_cons pe_int (pa_cons pe_int (pa_cons pe_int (pa_cons pe_int (pa_cons pe_int (pa_cons pe_int (pa_cons pe_int (pa_cons pe_int (pa_cons pe_int (pa_cons pe_int (pa_cons pe_int pa_nil)))))))))))))))))
      (pe_call G1 hr (by rfl) g1 F1.kp b1 .nil pass0 (pa_cons (pv 0) (pa_cons pe_int pa_nil))) (fun _ _ => rfl))), ?_⟩
    refine ⟨by show 16 ≤ sizeLine; decide, fun t nt => ?_⟩
    refine ⟨_, rfl, p, 16, rfl, pen_upd hp nt, by decide, by decide, fun r H' h0 h1 e1 hp1 => ?_⟩
    obtain ⟨b, eb, hb⟩ := bounds_at r.toNat (by omega)
    have hr' : r = (r.toNat : Int) := by omega
    refine ⟨t, _, r, .int b, rfl, rfl, SqL.of (e1 t _ (hp.ne nt).symm upd_same), at_of hr' eb, ?_⟩
    exact q b H' hb ((exb_upd nt).trans e1) hp1
/-! ### _law_poly -/
theorem lay_ints (ns : List Int) : PyData.canLayAll0 (ns.map PyData.int) = true := by
  induction ns with
  | nil => rfl
  | cons n ns ih => simp only [List.map_cons, PyData.canLayAll0, PyData.canLay0, ih, Bool.and_self]
theorem depth_ints (ns : List Int) : PyData.depthAll (ns.map PyData.int) = 0 := by
  induction ns with
  | nil => rfl
  | cons n ns ih => simp only [List.map_cons, PyData.depthAll, PyData.depth, ih]; rfl
theorem shaped_list (ns : List Int) : SeqAt.shaped (.list (ns.map PyData.int)) = true := by
  unfold SeqAt.shaped
  simp [PyData.canLay0, PyData.depth, lay_ints, depth_ints]
theorem shaped_tup (ns : List Int) : SeqAt.shaped (.tuple (ns.map PyData.int)) = true := by
  unfold SeqAt.shaped
  simp [PyData.canLay0, PyData.depth, lay_ints, depth_ints]
theorem dp_ints {H : Hp} (ns : List Int) : DpAll K H (ns.map V.int) (ns.map PyData.int) := by
  induction ns with
  | nil => exact .nil
  | cons n ns ih => exact .cons (.int n) ih
theorem eqv_nil (ns : List Int) : (!PyData.eqv (.list (ns.map PyData.int)) (.list [])) = !decide (ns = []) := by
  cases ns with
  | nil => rfl
  | cons n ns => simp [PyData.eqv, PyData.eqvAll]
/-- without the noughts behind -/
def trim : List Int → List Int
  | [] => []
  | n :: ns => match trim ns with
    | [] => if n = 0 then [] else [n]
    | r => n :: r
theorem sc_poly : FnScope ["_law_pen_here", "_law_bound_here", "_law_most", "_law_found", "_law_turn"] ["_law_pen_here", "_law_bound_here", "_law_most"] (defScope s_law_poly) := ⟨rfl, rfl, rfl, by decide +kernel, rfl, by decide +kernel, by decide +kernel⟩
def sp_poly : Sp := fun vs H Q _ => ∃ (p : Addr) (b m : Int), vs = [.ref p, .int b, .int m] ∧ Pen H p ∧ Bd b ∧ 0 ≤ m ∧ m ≤ 1000 ∧
  ∀ (ns : List Int) (q : Addr) (H' : Hp), PolyOk b ns → (ns.length : Int) ≤ m → ExB p H H' → Pen H' p → H' q = some (.tup (ns.map V.int)) → Q (.ref q) H'
theorem ok_poly {f f1 : Addr} {fd fd1 : FuncData} {k : Nat} (F : Fun K "_law_poly" "_law_poly" s_law_poly f fd) (F1 : Fun K "_law_draw" "_law_draw" s_law_draw f1 fd1) (b1 : Binds K fd1 ["_law_pen_here", "_law_many"] []) (g1 : mg "_law_draw" = some (.ref f1)) (md : mg "divmod" = none) (mr : mg "range" = none) (mt : mg "tuple" = none) :
    FnOk P w K mg base CX0 (k + 2) f fd ["_law_pen_here", "_law_bound_here", "_law_most"] sp_poly := by
  have G1 : FnOk P w K mg base CX0 (k + 1) f1 fd1 ["_law_pen_here", "_law_many"] sp_draw := ok_draw F1 md
  refine F.ok sc_poly (fun vs H Q E h => ?_) (fun cdv A outer s H vs Q E hr h => ?_)
  · obtain ⟨p, b, m, rfl, _⟩ := h
    rfl
  · obtain ⟨p, b, m, rfl, hp, hb, hm0, hm1, q⟩ := h
    refine ⟨_, pss_cons (ps_setLc (i := 3) (own := [("_law_turn", 4)]) (tt := tYes) rfl sc_poly.nd rfl rfl (sw_true rfl rfl rfl (by decide +kernel)) (pi_range1 (by rfl) mr (pa_cons (pe_call G1 hr (by rfl) g1 F1.kp b1 .nil pass0 (pa_cons (pv 0) (pa_cons (pe_op op_add (pv 2) pe_int) pa_nil))) pa_nil))
        (blkOk_by (N := ["_law_pen_here", "_law_bound_here", "_law_most", "_law_found", "_law_turn"]) (sc := defScope s_law_poly) (by decide +kernel)) (fun _ _ _ _ _ => pg_name (i := 4) sc_poly.nd rfl (Or.inl rfl)) (fun _ _ _ _ _ => pts_nil)
        (fun _ _ _ _ _ => pe_call G1 hr (by rfl) g1 F1.kp b1 .nil pass0 (pa_cons (pv 0) (pa_cons (pv 1) pa_nil))))
      (pss_cons (ps_while PassesOwn.never (PW.pt (pw_and (pt_cmpR (op_neD hr.units) (pv 3) (pe_lst pa_nil) (nomark _)) (pw_and1 (pt_cmpR op_eq (pe_ix ix_list (pv 3) (pe_un un_neg pe_int) (fun _ _ => rfl)) pe_int (nomark _)))))
        (pss_one (ps_expr (pe_bm0 PySem.F.plainAttrs_list PySem.F.slot_list_pop PySem.F.type_list_pop mt_pop (pv 3)))))
      (pss_one (ps_ret (pe_callTy call_tuple_of (by rfl) mt boot_tuple (pa_cons (pv 3) pa_nil))))), ?_⟩
    have nb0 := hb.1
    have nb1 := hb.2
    refine ⟨_, rfl, _, rfl, _, _, rfl, rfl, p, m + 1, rfl, hp, by omega, by omega, fun n H1 hn0 hn1 e1 hp1 => ⟨n, rfl, by omega, by omega, fun D nD => ?_⟩⟩
    have hpD : p ≠ D := hp1.ne nD
    have oldD : ∀ bb o, bb ≠ p → H bb = some o → bb ≠ D := fun bb o n1 e z => by
      have := e1 bb o n1 e
      rw [z, nD] at this; cases this
    refine lc_range (fun i H' => ExB p H H' ∧ Pen H' p ∧ ∃ ns : List Int, ns.length = i ∧ (∀ z ∈ ns, 0 ≤ z ∧ z < b) ∧ H' D = some (.lst (ns.map V.int))) ⟨e1.trans (exb_upd nD), pen_upd hp1 nD, [], rfl, fun z hz => (by cases hz), upd_same⟩ (fun i H2 hi hP => ?_) (fun H2 hP => ?_)
    · obtain ⟨e2, hp2, ns, hl, hns, hD⟩ := hP
      refine ⟨rfl, yesT ?_⟩
      refine ⟨_, rfl, _, rfl, p, b, rfl, hp2, by omega, by omega, fun r H4 r0 r1 e4 hp4 => ?_⟩
      refine ⟨ns.map V.int, e4 D _ hpD.symm hD, ?_, ?_, ?_, ns ++ [r], ?_, ?_, ?_⟩
      · rw [List.length_map, hl]
        have : (2000 : Nat) < sizeLine := by decide
        omega
      · intro bb o n1 e
        rw [upd_ne (oldD bb o n1 e)]
        exact e4 bb o n1 (e2 bb o n1 e)
      · obtain ⟨l', fl', ee, hl'⟩ := hp4
        exact ⟨l', fl', by rw [upd_ne hpD]; exact ee, hl'⟩
      · rw [List.length_append, hl]; rfl
      · intro z hz
        rcases List.mem_append.mp hz with hz | hz
        · exact hns z hz
        · rw [List.mem_singleton.mp hz]; exact ⟨r0, r1⟩
      · rw [upd_same, List.map_append]; rfl
    · obtain ⟨e2, hp2, ns, hl, hns, hD⟩ := hP
      have hlm : (ns.length : Int) ≤ m := by omega
      clear hl
      refine ⟨fun mm σ H' => ∃ (ns : List Int) (y : Option V), σ = [some (.ref p), some (.int b), some (.int m), some (.ref D), y] ∧ mm = ns.length ∧ (ns.length : Int) ≤ m ∧ ExB p H H' ∧ Pen H' p ∧ (∀ z ∈ ns, 0 ≤ z ∧ z < b) ∧ H' D = some (.lst (ns.map V.int)), ⟨_, ns, none, rfl, rfl, hlm, e2, hp2, hns, hD⟩, ?_⟩
      rintro mm σ H3 ⟨ns, y, rfl, rfl, hlm, e3, hp3, hns, hD⟩
      have fin : ∀ H', ExB p H H' → Pen H' p → H' D = some (.lst (ns.map V.int)) → PolyOk b ns → tRet (tCB (fun xs H Q => ∃ p ys, xs = [.ref p] ∧ ((SqL K H p ys ∧ ∀ l, H l = none → Q (.ref l) (upd H l (.tup ys))) ∨ (SqT K H p ys ∧ Q (.ref p) H))) (tCons (tVar 3) tNil)) { nx := fun _ H' => Q .non H', rt := Q } [some (.ref p), some (.int b), some (.int m), some (.ref D), y] H' := by
        intro H' e' hp' hD' hok
        refine ⟨_, rfl, D, _, rfl, .inl ⟨SqL.of hD', fun l nl => ?_⟩⟩
        exact q ns l _ hok hlm (e'.trans (exb_upd nl)) (pen_upd hp' nl) upd_same
      refine ⟨_, rfl, Nat.zero_le _, fun e ne => ⟨.list (ns.map PyData.int), .list [], ?_, .lst (SqL.of upd_same) .nil, shaped_list ns, by decide, _, rfl, ?_⟩⟩
      · exact .lst (SqL.of (by rw [upd_ne (ne_of_none hD ne)]; exact hD)) (dp_ints ns)
      have hp4 := pen_upd (o := .lst []) hp3 ne
      have e4 := e3.trans (exb_upd (o := .lst []) ne)
      have hD4 : (upd H3 e (.lst [])) D = some (.lst (ns.map V.int)) := by rw [upd_ne (ne_of_none hD ne)]; exact hD
      rw [eqv_nil]
      refine ite_b (fun hne => ?_) fun hne => ?_
      · have hn : ns ≠ [] := by simpa using hne
        obtain ⟨ys, z, rfl⟩ : ∃ ys z, ns = ys ++ [z] := ⟨ns.dropLast, ns.getLast hn, (List.dropLast_concat_getLast hn).symm⟩
        refine ⟨_, rfl, 1, rfl, D, _, -1, .int z, rfl, rfl, SqL.of hD4, by rw [List.map_append]; exact atI_last _ _, rfl, _, rfl, ?_⟩
        refine ite_b (fun hz => ?_) fun hz => ?_
        · have hz : z = 0 := by simpa using hz
          refine ⟨fun σ' H' => ∃ (ns : List Int) (y : Option V), σ' = [some (.ref p), some (.int b), some (.int m), some (.ref D), y] ∧ ns.length = ys.length ∧ (ns.length : Int) ≤ m ∧ ExB p H H' ∧ Pen H' p ∧ (∀ z ∈ ns, 0 ≤ z ∧ z < b) ∧ H' D = some (.lst (ns.map V.int)), fun σ' H' hN => ?_, ?_⟩
          · obtain ⟨ns', y', h1, h2, h3⟩ := hN
            exact ⟨_, by rw [List.length_append, h2]; exact Nat.lt_succ_self _, ns', y', h1, rfl, h3⟩
          · refine ⟨_, rfl, .inl ⟨rfl, _, SqL.of hD4⟩, D, _, .int z, rfl, rfl, hD4, ?_, ys, y, rfl, rfl, ?_, ?_, ?_, fun u hu => hns u (List.mem_append_left _ hu), ?_⟩
            · rw [List.map_append, List.length_append]; simp
            · rw [List.length_append] at hlm; simp only [List.length_singleton] at hlm; omega
            · intro bb o n1 e'
              rw [upd_ne (oldD bb o n1 e')]
              exact e4 bb o n1 e'
            · obtain ⟨l', fl', ee, hl'⟩ := hp4
              exact ⟨l', fl', by rw [upd_ne hpD]; exact ee, hl'⟩
            · rw [upd_same, List.map_append, List.map_singleton, List.dropLast_concat]
        · have hz : z ≠ 0 := by simpa using hz
          exact fin _ e4 hp4 hD4 ⟨hns, by rw [List.getLast?_concat]; simpa using hz⟩
      · have hn : ns = [] := by simpa using hne
        exact fin _ e4 hp4 hD4 ⟨hns, by rw [hn]; simp⟩
end
end W

namespace W
open PySem PySem.Spec PyProof.Rows L2 B1
/-! ### what may be shown -/
theorem short_int {n : Int} (h0 : 0 ≤ n) (h1 : n < 10 ^ 15) : (PyData.shown (.int n)).length ≤ 16 := by
  simp only [PyData.shown]
  exact Nat.le_trans (PyProof.Rows.toString_length_le (k := 15) h0 (by decide) h1) (by decide)
theorem log_small {n : Int} (h0 : 0 ≤ n) (h1 : n < 10 ^ 15) : n.natAbs.log2 < 50 := by
  by_cases z : n.natAbs = 0
  · rw [z]; decide
  · rw [Nat.log2_lt z]
    have : n.natAbs < 10 ^ 15 := by omega
    exact Nat.lt_of_lt_of_le this (by decide)
theorem short_ints {ns : List Int} (h : ∀ n ∈ ns, 0 ≤ n ∧ n < 10 ^ 15) : PyData.leavesShortAll 16 (ns.map PyData.int) = true := by
  induction ns with
  | nil => rfl
  | cons n ns ih =>
    simp only [List.map_cons, PyData.leavesShortAll, PyData.leavesShort, Bool.and_eq_true, decide_eq_true_eq]
    exact ⟨short_int (h n (by simp)).1 (h n (by simp)).2, ih fun z hz => h z (by simp [hz])⟩
theorem weight_ints {ns : List Int} (h : ∀ n ∈ ns, 0 ≤ n ∧ n < 10 ^ 15) : PyData.weightAll (ns.map PyData.int) ≤ 52 * ns.length := by
  induction ns with
  | nil => exact Nat.le_refl _
  | cons n ns ih =>
    simp only [List.map_cons, PyData.weightAll, PyData.weight, List.length_cons]
    have h1 := ih fun z hz => h z (by simp [hz])
    have h2 := log_small (h n (by simp)).1 (h n (by simp)).2
    split <;> omega
theorem show_ints {ns : List Int} (h : ∀ n ∈ ns, 0 ≤ n ∧ n < 10 ^ 15) : PyData.showableAll (ns.map PyData.int) = true := by
  induction ns with
  | nil => rfl
  | cons n ns ih =>
    simp only [List.map_cons, PyData.showableAll, PyData.showable, Bool.and_eq_true, decide_eq_true_eq]
    exact ⟨by have := log_small (h n (by simp)).1 (h n (by simp)).2; omega, ih fun z hz => h z (by simp [hz])⟩
theorem dict_ints (ns : List Int) : PyData.hasDictAll (ns.map PyData.int) = false := by
  induction ns with
  | nil => rfl
  | cons n ns ih => simp only [List.map_cons, PyData.hasDictAll, PyData.hasDict, ih, Bool.or_self]
theorem sm_tup {ns : List Int} (h : ∀ n ∈ ns, 0 ≤ n ∧ n < 10 ^ 15) (hl : ns.length ≤ 1000) : Sm (.tuple (ns.map PyData.int)) := by
  refine ⟨by simp only [PyData.showable]; exact show_ints h, by simp only [PyData.hasDict]; exact dict_ints ns, by simp only [PyData.depth, depth_ints]; decide, ?_⟩
  have h1 := PyData.shown_le 16 (by decide) (.tuple (ns.map PyData.int)) (by simp only [PyData.leavesShort]; exact short_ints h)
  have h2 := weight_ints h
  simp only [PyData.weight] at h1
  have e : sizeLine = 16777216 := by decide
  omega
theorem sm_lst {ns : List Int} (h : ∀ n ∈ ns, 0 ≤ n ∧ n < 10 ^ 15) (hl : ns.length ≤ 1000) : Sm (.list (ns.map PyData.int)) := by
  refine ⟨by simp only [PyData.showable]; exact show_ints h, by simp only [PyData.hasDict]; exact dict_ints ns, by simp only [PyData.depth, depth_ints]; decide, ?_⟩
  have h1 := PyData.shown_le 16 (by decide) (.list (ns.map PyData.int)) (by simp only [PyData.leavesShort]; exact short_ints h)
  have h2 := weight_ints h
  simp only [PyData.weight] at h1
  have e : sizeLine = 16777216 := by decide
  omega
/-! ### the mathematics -/
def val (x : Int) (ns : List Int) : Int := ns.foldr (fun n acc => n + x * acc) 0
theorem horner_val (b x : Int) (ns : List Int) : horner b x ns = val x ns % b := by
  induction ns with
  | nil => rfl
  | cons n ns ih =>
    rw [horner_cons, ih]
    show (val x ns % b * x + n) % b = (n + x * val x ns) % b
    rw [Int.add_emod, Int.mul_emod, Int.emod_emod_of_dvd _ (Int.dvd_refl b), ← Int.mul_emod, ← Int.add_emod, Int.mul_comm, Int.add_comm]
def dueL (b : Int) (ns : List Int) : List Int := (List.range b.toNat).map fun (i : Nat) => val (i : Int) ns % b
theorem due_worths (b : Int) (ns : List Int) : worthsL b ns = dueL b ns := by
  unfold worthsL dueL
  exact List.map_congr_left fun i _ => horner_val b i ns
theorem due_len {b : Int} {ns : List Int} : (dueL b ns).length = b.toNat := by
  unfold dueL; rw [List.length_map, List.length_range]
theorem due_ok {b : Int} (hb : Bd b) (ns : List Int) : ∀ n ∈ dueL b ns, 0 ≤ n ∧ n < 10 ^ 15 := fun n hn => by
  obtain ⟨i, _, rfl⟩ := List.mem_map.mp hn
  obtain ⟨h1, h2⟩ := hb
  have h3 := Int.emod_nonneg (val (i : Int) ns) (show b ≠ 0 by omega)
  have h4 := Int.emod_lt_of_pos (val (i : Int) ns) (show 0 < b by omega)
  constructor
  · exact h3
  · omega
section
variable {P : Program} {w : World} {K : PySem.W.Frag} {mg : Str → Option Value} {base : Heap} {Ts : List Addr} {f1 f2 f3 f4 c4 P4 : Addr} {fd1 fd2 fd3 fd4 : FuncData} {f5 f6 f7 f8 : Addr} {fd5 fd6 fd7 fd8 : FuncData}
/-! ### _law_right -/
theorem sc_right : FnScope ["_law_bound_here", "_law_poly_here", "_law_due", "_law_x", "_law_total", "_law_power", "_law_number", "_law_turn"] ["_law_bound_here", "_law_poly_here"] (defScope s_law_right) := ⟨rfl, rfl, rfl, by decide +kernel, rfl, by decide +kernel, by decide +kernel⟩
def sp_right (K : PySem.W.Frag) (Ts : List Addr) : Sp := fun vs H Q _ => ∃ (b : Int) (a : Addr) (ns : List Int), vs = [.int b, .ref a] ∧ Bd b ∧ SqT K H a (ns.map V.int) ∧ PolyOk b ns ∧ Tbs Ts H ∧ ∀ H', Ext H H' → Tbs Ts H' → Q (.bl true) H'
theorem ok_right {f f9 f10 c10 P10 fS cS c : Addr} {fd fd9 fd10 fdS : FuncData} (F : FunC K "_law_right" "_law_right" s_law_right f fd c)
    (F10 : FunC K "worths" "worths" s_worths f10 fd10 c10) (TB : GxR.TabB base mg c10 P10) (hP : P10 ∈ Ts) (b10 : Binds K fd10 ["bound", "poly"] []) (g10 : mg "worths" = some (.ref f10))
    (F9 : Fun K "worth_at" "worth_at" s_worth_at f9 fd9) (b9 : Binds K fd9 ["bound", "poly", "number"] []) (g9 : mg "worth_at" = some (.ref f9))
    (FS : FunC K "_law_same" "_law_same" s_law_same fS fdS cS) (bS : Binds K fdS ["_law_found", "_law_due"] []) (gS : mg "_law_same" = some (.ref fS)) (mp : mg "repr" = none)
    (X : Chk K mg base Ts f1 f2 f3 f4 c4 P4 fd1 fd2 fd3 fd4) (Y : Chp K mg f5 f6 f7 f8 fd5 fd6 fd7 fd8) (mv : mg "reversed" = none) : FnG P w K mg base CX0 22 f fd ["_law_bound_here", "_law_poly_here"] (sp_right K Ts) := by
  have G10 : FnOk P w K mg base CX0 21 f10 fd10 ["bound", "poly"] (sp_ws K Ts) := ok_ws F10 TB hP F9 b9 g9 X Y mv
  have G9 : FnOk P w K mg base CX0 13 f9 fd9 ["bound", "poly", "number"] (sp_wa K Ts) := ok_wa F9 X Y mv
  have GS : FnG P w K mg base CX0 1 fS fdS ["_law_found", "_law_due"] (sp_same K) := ok_same FS mp
  refine F.okG sc_right (fun vs H Q E h => ?_) (fun A outer s H vs Q E hgd hr h => ?_)
  · obtain ⟨b, a, ns, rfl, _⟩ := h
    rfl
  · obtain ⟨b, a, ns, rfl, hb, hq, hp, hT, q⟩ := h
    refine ⟨_, pss_cons (ps_set (i := 2) sc_right.nd rfl (Or.inl rfl) (pe_lst pa_nil))
      (pss_cons (ps_for PassesOwn.never rfl (pi_range1 (by rfl) X.mr (pa_cons (pv 0) pa_nil)) (pg_name (i := 3) sc_right.nd rfl (Or.inl rfl))
        (pss_cons (ps_asg (pe_tup (pa_cons pe_int (pa_cons pe_int pa_nil))) (pg_tup rfl (pgs_cons (pg_name (i := 4) sc_right.nd rfl (Or.inl rfl)) (pgs_cons (pg_name (i := 5) sc_right.nd rfl (Or.inl rfl)) pgs_nil))))
        (pss_cons (ps_for PassesOwn.never rfl (pi_tup (pv 1)) (pg_name (i := 6) sc_right.nd rfl (Or.inl rfl))
          (pss_cons (ps_set (i := 4) sc_right.nd rfl (Or.inl rfl) (pe_op op_add (pv 4) (pe_op op_mul (pv 6) (pv 5))))
            (pss_one (ps_set (i := 5) sc_right.nd rfl (Or.inl rfl) (pe_op op_mul (pv 5) (pv 3))))))
        (pss_one (ps_expr (pe_bm PySem.F.plainAttrs_list PySem.F.slot_list_append PySem.F.type_list_append mt_append (pv 2) (pa_cons (pe_op op_mod (pv 4) (pv 0)) pa_nil)))))))
      (pss_cons (ps_for PassesOwn.never rfl (pi_range1 (by rfl) X.mr (pa_cons pe_int pa_nil)) (pg_name (i := 7) sc_right.nd rfl (Or.inl rfl))
        (pss_cons (ps_if (pt_not (pt_val (pe_callG GS hgd (hr.mono (by decide)) (by rfl) gS FS.kp bS .nil pass0 (pa_cons (pe_call G10 hr (by rfl) g10 F10.kp b10 .nil pass0 (pa_cons (pv 0) (pa_cons (pv 1) pa_nil)))
            (pa_cons (pe_callTy call_tuple_of (by rfl) X.mt boot_tuple (pa_cons (pv 2) pa_nil)) pa_nil))))) pss_never pss_nil)
        (pss_one (ps_if (pt_not (pt_val (pe_callG GS hgd (hr.mono (by decide)) (by rfl) gS FS.kp bS .nil pass0 (pa_cons
            (pe_lc (own := [("_law_x", 3)]) (g := gName 3) (tt := tYes) rfl sc_right.nd (pi_range1 (by rfl) X.mr (pa_cons (pv 0) pa_nil)) (blkOk_by (N := ["_law_bound_here", "_law_poly_here", "_law_due", "_law_x", "_law_total", "_law_power", "_law_number", "_law_turn"]) (sc := defScope s_law_right) (by decide +kernel))
              (fun _ _ _ _ _ => pg_name (i := 3) sc_right.nd rfl (Or.inl rfl)) (fun _ _ _ _ _ => pts_nil) (fun _ _ _ _ _ => pe_call G9 (hr.mono (by decide)) (by rfl) g9 F9.kp b9 .nil pass0 (pa_cons (pv 0) (pa_cons (pv 1) (pa_cons (pv 3) pa_nil)))))
            (pa_cons (pv 2) pa_nil))))) pss_never pss_nil))))
      (pss_one (ps_ret pe_bl)))), ?_⟩
    have nb0 := hb.1
    have nb1 := hb.2
    refine ⟨Nat.zero_le _, fun D nD => ?_⟩
    refine ⟨_, rfl, b, rfl, by omega, by omega, ?_⟩
    refine ⟨fun i m σ H' => ∃ y3 y4 y5 y6, σ = [some (.int b), some (.ref a), some (.ref D), y3, y4, y5, y6, none] ∧ m = b.toNat - i ∧ i ≤ b.toNat ∧ Ext H H' ∧ Tbs Ts H' ∧ H' D = some (.lst (((dueL b ns).take i).map V.int)),
      ⟨_, none, none, none, none, rfl, rfl, Nat.zero_le _, ext_upd nD, tbs_upd hT nD, upd_same⟩, ?_⟩
    rintro i m σ H1 ⟨y3, y4, y5, y6, rfl, rfl, hi, e1, t1, hD⟩
    have oldD : ∀ bb o, H bb = some o → bb ≠ D := fun bb o e => ne_of_none e nD
    by_cases hlt : i < b.toNat
    · refine .inr ⟨hlt, fun σ' H' => ∃ y3 y4 y5 y6, σ' = [some (.int b), some (.ref a), some (.ref D), y3, y4, y5, y6, none] ∧ Ext H H' ∧ Tbs Ts H' ∧ H' D = some (.lst (((dueL b ns).take (i + 1)).map V.int)), fun σ' H' hN => ?_, fun v H1' hy => ?_⟩
      · obtain ⟨z3, z4, z5, z6, h1, h2, h3, h4⟩ := hN
        exact ⟨_, by omega, z3, z4, z5, z6, h1, rfl, hlt, h2, h3, h4⟩
      · obtain ⟨rfl, rfl⟩ := hy
        refine ⟨by show 2 ≤ sizeLine; decide, fun t nt => ⟨t, _, rfl, SqT.of upd_same, rfl, _, _, rfl, _, _, rfl, rfl, ?_⟩⟩
        have e2 := e1.trans (ext_upd (o := .tup [.int 0, .int 1]) nt)
        have t2 := tbs_upd (o := .tup [.int 0, .int 1]) t1 nt
        have hD2 : (upd H1' t (.tup [.int 0, .int 1])) D = some (.lst (((dueL b ns).take i).map V.int)) := by rw [upd_ne (ne_of_none hD nt)]; exact hD
        generalize upd H1' t (.tup [.int 0, .int 1]) = H2 at e2 t2 hD2
        have q2 := Ext.tup e2 hq
        refine ⟨_, rfl, a, rfl, ⟨_, q2⟩, fun j m σ H' => ∃ (tot pw : Int) (y6 : Option V), σ = [some (.int b), some (.ref a), some (.ref D), some (.int (0 + (i : Int))), some (.int tot), some (.int pw), y6, none] ∧ m = ns.length - j ∧ j ≤ ns.length ∧ H' = H2 ∧ tot + pw * val (i : Int) (ns.drop j) = val (i : Int) ns, ⟨_, 0, 1, y6, rfl, rfl, Nat.zero_le _, rfl, by rw [List.drop_zero]; omega⟩, ?_⟩
        rintro j m σ H3 ⟨tot, pw, z6, rfl, rfl, hj, rfl, hinv⟩
        by_cases hjl : j < ns.length
        · have g : (ns.map V.int)[j]? = some (.int ns[j]) := by rw [List.getElem?_map, List.getElem?_eq_getElem hjl]; rfl
          refine .inr ⟨⟨_, _, q2, g⟩, fun σ' H' => ∃ (tot pw : Int) (y6 : Option V), σ' = [some (.int b), some (.ref a), some (.ref D), some (.int (0 + (i : Int))), some (.int tot), some (.int pw), y6, none] ∧ H' = H3 ∧ tot + pw * val (i : Int) (ns.drop (j + 1)) = val (i : Int) ns, fun σ' H' hN => ?_, fun v H3' hy => ?_⟩
          · obtain ⟨tot', pw', z6', h1, h2, h3⟩ := hN
            exact ⟨_, by omega, tot', pw', z6', h1, rfl, hjl, h2, h3⟩
          · obtain ⟨rfl, hv⟩ := hy
            have ev : v = .int ns[j] := Option.some.inj ((hv _ q2).symm.trans g)
            subst ev
            have hn := hp.1 _ (List.getElem_mem hjl)
            refine ⟨_, rfl, _, rfl, _, rfl, _, _, rfl, rfl, .inl ⟨by omega, by omega⟩, _, _, rfl, rfl, ?_⟩
            refine ⟨_, rfl, _, rfl, _, _, rfl, rfl, .inr ⟨by omega, by omega⟩, ?_⟩
            refine ⟨tot + ns[j] * pw, pw * (i : Int), some (.int ns[j]), ?_, rfl, ?_⟩
            · rw [Int.zero_add]; rfl
            · have ed : ns.drop j = ns[j] :: ns.drop (j + 1) := List.drop_eq_getElem_cons hjl
              rw [ed] at hinv
              have ev : val (i : Int) (ns[j] :: ns.drop (j + 1)) = ns[j] + (i : Int) * val (i : Int) (ns.drop (j + 1)) := rfl
              rw [ev, Int.mul_add] at hinv
              rw [Int.mul_assoc, Int.mul_comm ns[j] pw, Int.add_assoc]
              exact hinv
        · refine .inl ⟨⟨_, q2, by rw [List.length_map]; omega⟩, ?_⟩
          have ed : ns.drop j = [] := List.drop_eq_nil_iff.mpr (by omega)
          rw [ed] at hinv
          have hv : tot = val (i : Int) ns := by
            have : val (i : Int) ([] : List Int) = 0 := rfl
            rw [this, Int.mul_zero, Int.add_zero] at hinv
            exact hinv
          refine ⟨_, rfl, .inl ⟨rfl, _, SqL.of hD2⟩, _, rfl, _, rfl, _, _, rfl, rfl, by omega, D, _, _, rfl, rfl, hD2, ?_, _, _, _, _, rfl, ?_, tbs_put t2 hD2, ?_⟩
          · rw [List.length_map, List.length_take, due_len]
            have : (16 : Nat) < sizeLine := by decide
            omega
          · intro bb o eb ntb
            rw [upd_ne (oldD bb o eb)]
            exact e2 bb o eb ntb
          · rw [upd_same, List.take_add_one]
            have ei : (dueL b ns)[i]? = some (val (i : Int) ns % b) := by
              unfold dueL
              rw [List.getElem?_map, List.getElem?_range hlt]
              rfl
            rw [ei, List.map_append, hv]
            rfl
    · refine .inl ⟨by show b.toNat ≤ i; omega, ?_⟩
      have ei : (dueL b ns).take i = dueL b ns := List.take_of_length_le (by rw [due_len]; omega)
      rw [ei] at hD
      have sm1 := sm_tup (due_ok hb ns) (by rw [due_len]; omega)
      have sm2 := sm_lst (due_ok hb ns) (by rw [due_len]; omega)
      refine ⟨2, rfl, by decide, by decide, ?_⟩
      refine ⟨fun i m σ H' => ∃ y7, σ = [some (.int b), some (.ref a), some (.ref D), y3, y4, y5, y6, y7] ∧ m = 2 - i ∧ i ≤ 2 ∧ Ext H H' ∧ Tbs Ts H' ∧ H' D = some (.lst ((dueL b ns).map V.int)), ⟨_, none, rfl, rfl, Nat.zero_le _, e1, t1, hD⟩, ?_⟩
      rintro k m σ H2 ⟨y7, rfl, rfl, hk, e2, t2, hD2⟩
      by_cases hk2 : k < 2
      · refine .inr ⟨hk2, fun σ' H' => ∃ y7, σ' = [some (.int b), some (.ref a), some (.ref D), y3, y4, y5, y6, y7] ∧ Ext H H' ∧ Tbs Ts H' ∧ H' D = some (.lst ((dueL b ns).map V.int)), fun σ' H' hN => ?_, fun v H2' hy => ?_⟩
        · obtain ⟨z7, h1, h2, h3, h4⟩ := hN
          exact ⟨_, by omega, z7, h1, rfl, hk2, h2, h3, h4⟩
        · obtain ⟨rfl, rfl⟩ := hy
          refine ⟨_, rfl, _, rfl, b, a, ns, rfl, hb, Ext.tup e2 hq, hp, t2, fun H3 p1 e3 t3 hp1 => ?_⟩
          have hD3 := e3 _ _ hD2 fun ps z => by cases z
          refine ⟨_, rfl, D, _, rfl, .inl ⟨SqL.of hD3, fun p2 np2 => ?_⟩⟩
          have np12 : p1 ≠ p2 := ne_of_none hp1 np2
          refine ⟨.ref p1, .ref p2, _, rfl, .tup (SqT.of (by rw [upd_ne np12]; exact hp1)) (dp_ints _), .tup (SqT.of upd_same) (by rw [due_worths]; exact dp_ints _), by rw [due_worths]; exact sm1, _, rfl, iteF ?_⟩
          have e4 := (e2.trans e3).trans (ext_upd (o := .tup ((dueL b ns).map V.int)) np2)
          have t4 := tbs_upd (o := .tup ((dueL b ns).map V.int)) t3 np2
          have hD4 : (upd H3 p2 (.tup ((dueL b ns).map V.int))) D = some (.lst ((dueL b ns).map V.int)) := by rw [upd_ne (ne_of_none hD3 np2)]; exact hD3
          generalize upd H3 p2 (.tup ((dueL b ns).map V.int)) = H4 at e4 t4 hD4
          refine ⟨_, rfl, b, rfl, by omega, by omega, fun L nL => ?_⟩
          refine lc_range (fun i H' => Ext H H' ∧ Tbs Ts H' ∧ H' D = some (.lst ((dueL b ns).map V.int)) ∧ H' L = some (.lst (((dueL b ns).take i).map V.int))) ⟨e4.trans (ext_upd nL), tbs_upd t4 nL, by rw [upd_ne (ne_of_none hD4 nL)]; exact hD4, upd_same⟩ (fun i H5 hi hP => ?_) (fun H5 hP => ?_)
          · obtain ⟨e5, t5, hD5, hL5⟩ := hP
            refine ⟨rfl, yesT ?_⟩
            refine ⟨_, rfl, _, rfl, _, rfl, b, a, ns, 0 + (i : Int), rfl, hb, Ext.tup e5 hq, hp, by omega, by omega, t5, fun H6 e6 t6 => ?_⟩
            have hL6 := e6 _ _ hL5 fun ps z => by cases z
            have hD6 := e6 _ _ hD5 fun ps z => by cases z
            have nLD : D ≠ L := ne_of_none hD4 nL
            refine ⟨_, hL6, ?_, ?_, tbs_put t6 hL6, by rw [upd_ne nLD]; exact hD6, ?_⟩
            · rw [List.length_map, List.length_take, due_len]
              have : (16 : Nat) < sizeLine := by decide
              omega
            · intro bb o eb ntb
              have nbL : bb ≠ L := fun z => by
                have := e4 _ _ eb ntb
                rw [z, nL] at this; cases this
              rw [upd_ne nbL]
              exact e6 _ _ (e5 _ _ eb ntb) ntb
            · rw [upd_same, List.take_add_one]
              have ei : (dueL b ns)[i]? = some (horner b (i : Int) ns) := by
                rw [← due_worths]
                unfold worthsL
                rw [List.getElem?_map, List.getElem?_range hi]
                rfl
              rw [ei, List.map_append, Int.zero_add]
              rfl
          · obtain ⟨e5, t5, hD5, hL5⟩ := hP
            have el : (dueL b ns).take b.toNat = dueL b ns := List.take_of_length_le (by rw [due_len]; omega)
            rw [el] at hL5
            refine ⟨_, rfl, .ref L, .ref D, _, rfl, .lst (SqL.of hL5) (dp_ints _), .lst (SqL.of hD5) (dp_ints _), sm2, _, rfl, iteF ?_⟩
            exact ⟨_, rfl, e5, t5, hD5⟩
      · refine .inl ⟨by show 2 ≤ k; omega, ?_⟩
        exact q H2 e2 t2
end
end W

namespace W
open PySem PySem.Spec PyProof.Rows L2 B1
theorem cut_mem {xs : List V} {lo hi : Option Int} {x : V} (h : x ∈ cutV xs lo hi) : x ∈ xs := by
  unfold cutV at h
  exact List.mem_of_mem_drop (List.mem_of_mem_take h)
theorem cut_len {xs : List V} {lo hi : Option Int} : (cutV xs lo hi).length ≤ xs.length := by
  unfold cutV
  exact Nat.le_trans (List.length_take_le' _ _) (by rw [List.length_drop]; omega)
section
variable {P : Program} {w : World} {K : PySem.W.Frag} {mg : Str → Option Value} {base : Heap} {Ts : List Addr} {f1 f2 f3 f4 c4 P4 : Addr} {fd1 fd2 fd3 fd4 : FuncData} {f5 f6 f7 f8 : Addr} {fd5 fd6 fd7 fd8 : FuncData}
/-- a small polynomial by every bound -/
def SmallP (K : PySem.W.Frag) (H : Hp) (v : V) : Prop := ∃ (a : Addr) (ns : List Int), v = .ref a ∧ SqT K H a (ns.map V.int) ∧ (∀ n ∈ ns, 0 ≤ n ∧ n < 2) ∧ ns.getLast? ≠ some 0
theorem SmallP.ext {H H' : Hp} {v : V} (e : Ext H H') (h : SmallP K H v) : SmallP K H' v := by
  obtain ⟨a, ns, h1, h2, h3⟩ := h
  exact ⟨a, ns, h1, Ext.tup e h2, h3⟩
theorem sc_law : FnScope ["_law_script", "_law_bound_here", "_law_poly_here", "_law_cell_here", "_law_pen_here"] ["_law_script"] (defScope s_law) := ⟨rfl, rfl, rfl, by decide +kernel, rfl, by decide +kernel, by decide +kernel⟩
def sp_law (K : PySem.W.Frag) (Ts : List Addr) : Sp := fun vs H Q _ => ∃ (a : Addr) (ns : List Int), vs = [.ref a] ∧ SqL K H a (ns.map V.int) ∧ ns.length ≤ 63 ∧ Tbs Ts H ∧ ∀ H', Q (.bl true) H'
/-- the law's own helpers -/
structure Hlp (K : PySem.W.Frag) (mg : Str → Option Value) (h1 h2 h3 h4 h5 : Addr) (d1 d2 d3 d4 d5 : FuncData) : Prop where
  Fc : Fun K "_law_cell" "_law_cell" s_law_cell h1 d1
  Fp : Fun K "_law_pen" "_law_pen" s_law_pen h2 d2
  Fd : Fun K "_law_draw" "_law_draw" s_law_draw h3 d3
  Fb : Fun K "_law_bound" "_law_bound" s_law_bound h4 d4
  Fy : Fun K "_law_poly" "_law_poly" s_law_poly h5 d5
  bc : Binds K d1 ["_law_script", "_law_k"] []
  bp : Binds K d2 ["_law_cell_here"] []
  bd : Binds K d3 ["_law_pen_here", "_law_many"] []
  bb : Binds K d4 ["_law_pen_here"] []
  by' : Binds K d5 ["_law_pen_here", "_law_bound_here", "_law_most"] []
  gc : mg "_law_cell" = some (.ref h1)
  gp : mg "_law_pen" = some (.ref h2)
  gd : mg "_law_draw" = some (.ref h3)
  gb : mg "_law_bound" = some (.ref h4)
  gy : mg "_law_poly" = some (.ref h5)
  mm : mg "max" = none
  md : mg "divmod" = none
variable {h1 h2 h3 h4 h5 : Addr} {d1 d2 d3 d4 d5 : FuncData}
theorem ok_law {f fR c : Addr} {fd fdR : FuncData} (F : FunC K "law" "law" s_law f fd c) (Z : Hlp K mg h1 h2 h3 h4 h5 d1 d2 d3 d4 d5) (X : Chk K mg base Ts f1 f2 f3 f4 c4 P4 fd1 fd2 fd3 fd4)
    (GR : FnG P w K mg base CX0 22 fR fdR ["_law_bound_here", "_law_poly_here"] (sp_right K Ts)) (kR : PySem.W.keepIn K (.ref fR) = true) (bR : Binds K fdR ["_law_bound_here", "_law_poly_here"] []) (gR : mg "_law_right" = some (.ref fR)) :
    FnG P w K mg base CX0 23 f fd ["_law_script"] (sp_law K Ts) := by
  have Gc : FnOk P w K mg base CX0 1 h1 d1 ["_law_script", "_law_k"] (sp_cell K) := ok_cell Z.Fc X.ml
  have Gp : FnOk P w K mg base CX0 1 h2 d2 ["_law_cell_here"] sp_pen := ok_pen Z.Fp Z.mm X.mi
  have Gb : FnOk P w K mg base CX0 2 h4 d4 ["_law_pen_here"] sp_bound := ok_bound Z.Fb Z.Fd Z.bd Z.gd Z.md
  have Gy : FnOk P w K mg base CX0 2 h5 d5 ["_law_pen_here", "_law_bound_here", "_law_most"] sp_poly := ok_poly Z.Fy Z.Fd Z.bd Z.gd Z.md X.mr X.mt
  refine F.okG sc_law (fun vs H Q E h => ?_) (fun A outer s H vs Q E hgd hr h => ?_)
  · obtain ⟨a, ns, rfl, _⟩ := h
    rfl
  · obtain ⟨a, ns, rfl, hq, hl, hT, q⟩ := h
    refine ⟨_, pss_cons (ps_for PassesOwn.never rfl (pi_list (pe_lst (pa_cons pe_int (pa_cons pe_int (pa_cons pe_int pa_nil))))) (pg_name (i := 1) sc_law.nd rfl (Or.inl rfl))
        (pss_one (ps_for PassesOwn.never rfl (pi_list (pe_lst (pa_cons (pe_tup pa_nil) (pa_cons (pe_tup (pa_cons pe_int pa_nil)) (pa_cons (pe_tup (pa_cons pe_int (pa_cons pe_int pa_nil))) (pa_cons (pe_tup (pa_cons pe_int (pa_cons pe_int pa_nil))) (pa_cons (pe_tup (pa_cons pe_int (pa_cons pe_int (pa_cons pe_int pa_nil)))) pa_nil))))))) (pg_name (i := 2) sc_law.nd rfl (Or.inl rfl))
          (pss_one (ps_if (pt_not (pt_val (pe_callG GR hgd hr (by rfl) gR kR bR .nil pass0 (pa_cons (pv 1) (pa_cons (pv 2) pa_nil))))) pss_never pss_nil)))))
      (pss_cons (ps_for PassesOwn.never rfl (pi_list (pe_op op_cat (pe_lst (pa_cons (pe_call Gc (hr.mono (by decide)) (by rfl) Z.gc Z.Fc.kp Z.bc .nil pass0 (pa_cons (pv 0) (pa_cons pe_int pa_nil))) pa_nil)) (pe_slice sl_list (pv 0) (po_some pe_int) (po_some pe_int)))) (pg_name (i := 3) sc_law.nd rfl (Or.inl rfl))
        (pss_cons (ps_set (i := 4) sc_law.nd rfl (Or.inl rfl) (pe_call Gp (hr.mono (by decide)) (by rfl) Z.gp Z.Fp.kp Z.bp .nil pass0 (pa_cons (pv 3) pa_nil)))
        (pss_cons (ps_set (i := 1) sc_law.nd rfl (Or.inl rfl) (pe_call Gb (hr.mono (by decide)) (by rfl) Z.gb Z.Fb.kp Z.bb .nil pass0 (pa_cons (pv 4) pa_nil)))
        (pss_one (ps_if (PW.pt (pw_or (pt_not (pt_val (pe_callG GR hgd hr (by rfl) gR kR bR .nil pass0 (pa_cons (pv 1) (pa_cons (pe_call Gy (hr.mono (by decide)) (by rfl) Z.gy Z.Fy.kp Z.by' .nil pass0 (pa_cons (pv 4) (pa_cons (pv 1) (pa_cons pe_int pa_nil)))) pa_nil)))))
          (pw_or1 (pt_not (pt_val (pe_callG GR hgd hr (by rfl) gR kR bR .nil pass0 (pa_cons (pv 1) (pa_cons (pe_call Gy (hr.mono (by decide)) (by rfl) Z.gy Z.Fy.kp Z.by' .nil pass0 (pa_cons (pv 4) (pa_cons (pv 1) (pa_cons pe_int pa_nil)))) pa_nil)))))))) pss_never pss_nil)))))
      (pss_one (ps_ret pe_bl))), ?_⟩
    -- for bound in [2, 9, 16]
    refine ⟨by show 3 ≤ sizeLine; decide, fun t nt => ⟨t, rfl, ⟨_, SqL.of upd_same⟩, ?_⟩⟩
    refine ⟨fun i m σ H' => ∃ y1 y2, σ = [some (.ref a), y1, y2, none, none] ∧ m = 3 - i ∧ i ≤ 3 ∧ Ext H H' ∧ Tbs Ts H' ∧ H' t = some (.lst [.int 2, .int 9, .int 16]), ⟨_, none, none, rfl, rfl, Nat.zero_le _, ext_upd nt, tbs_upd hT nt, upd_same⟩, ?_⟩
    rintro i m σ H1 ⟨y1, y2, rfl, rfl, hi, e1, t1, ht⟩
    by_cases hi3 : i < 3
    · have hil : i < ([.int 2, .int 9, .int 16] : List V).length := hi3
      refine .inr ⟨⟨_, _, SqL.of ht, List.getElem?_eq_getElem hil⟩, fun σ' H' => ∃ y1 y2, σ' = [some (.ref a), y1, y2, none, none] ∧ Ext H H' ∧ Tbs Ts H' ∧ H' t = some (.lst [.int 2, .int 9, .int 16]), fun σ' H' hN => ?_, fun v H1' hy => ?_⟩
      · obtain ⟨z1, z2, q1, q2, q3, q4⟩ := hN
        exact ⟨_, by omega, z1, z2, q1, rfl, hi3, q2, q3, q4⟩
      · obtain ⟨rfl, hv⟩ := hy
        have hv := hv _ (SqL.of ht)
        obtain ⟨b, rfl, hb⟩ : ∃ b : Int, v = .int b ∧ Bd b := by
          have hm := List.mem_of_getElem? hv
          simp only [List.mem_cons, List.not_mem_nil, or_false] at hm
          rcases hm with rfl | rfl | rfl
          · exact ⟨2, rfl, by decide, by decide⟩
          · exact ⟨9, rfl, by decide, by decide⟩
          · exact ⟨16, rfl, by decide, by decide⟩
        -- for poly in [(), ..]
        refine ⟨Nat.zero_le _, fun p1 n1 => ⟨by show 1 ≤ sizeLine; decide, fun p2 n2 => ⟨by show 2 ≤ sizeLine; decide, fun p3 n3 => ⟨by show 2 ≤ sizeLine; decide, fun p4 n4 => ⟨by show 3 ≤ sizeLine; decide, fun p5 n5 => ⟨by show 5 ≤ sizeLine; decide, fun l nl => ⟨l, rfl, ⟨_, SqL.of upd_same⟩, ?_⟩⟩⟩⟩⟩⟩⟩
        have x1 := ext_upd (o := .tup []) n1
        have x2 := ext_upd (o := .tup [.int 1]) n2
        have x3 := ext_upd (o := .tup [.int 0, .int 1]) n3
        have x4 := ext_upd (o := .tup [.int 1, .int 1]) n4
        have x5 := ext_upd (o := .tup [.int 0, .int 0, .int 1]) n5
        have x6 := ext_upd (o := .lst [.ref p1, .ref p2, .ref p3, .ref p4, .ref p5]) nl
        have tt : Tbs Ts _ := tbs_upd (o := .lst [.ref p1, .ref p2, .ref p3, .ref p4, .ref p5]) (tbs_upd (o := .tup [.int 0, .int 0, .int 1]) (tbs_upd (o := .tup [.int 1, .int 1]) (tbs_upd (o := .tup [.int 0, .int 1]) (tbs_upd (o := .tup [.int 1]) (tbs_upd (o := .tup []) t1 n1) n2) n3) n4) n5) nl
        have s1 : SmallP K (upd H1' p1 (.tup [])) (.ref p1) := ⟨p1, [], rfl, SqT.of upd_same, by decide, by decide⟩
        have s2 : SmallP K (upd (upd H1' p1 (.tup [])) p2 (.tup [.int 1])) (.ref p2) := ⟨p2, [1], rfl, SqT.of upd_same, by decide, by decide⟩
        have s3 : SmallP K (upd (upd (upd H1' p1 (.tup [])) p2 (.tup [.int 1])) p3 (.tup [.int 0, .int 1])) (.ref p3) := ⟨p3, [0, 1], rfl, SqT.of upd_same, by decide, by decide⟩
        have s4 : SmallP K (upd (upd (upd (upd H1' p1 (.tup [])) p2 (.tup [.int 1])) p3 (.tup [.int 0, .int 1])) p4 (.tup [.int 1, .int 1])) (.ref p4) := ⟨p4, [1, 1], rfl, SqT.of upd_same, by decide, by decide⟩
        have s5 : SmallP K (upd (upd (upd (upd (upd H1' p1 (.tup [])) p2 (.tup [.int 1])) p3 (.tup [.int 0, .int 1])) p4 (.tup [.int 1, .int 1])) p5 (.tup [.int 0, .int 0, .int 1])) (.ref p5) := ⟨p5, [0, 0, 1], rfl, SqT.of upd_same, by decide, by decide⟩
        have all : ∀ v ∈ ([.ref p1, .ref p2, .ref p3, .ref p4, .ref p5] : List V), SmallP K _ v := fun v hv => by
          simp only [List.mem_cons, List.not_mem_nil, or_false] at hv
          rcases hv with rfl | rfl | rfl | rfl | rfl
          · exact SmallP.ext x6 (SmallP.ext x5 (SmallP.ext x4 (SmallP.ext x3 (SmallP.ext x2 s1))))
          · exact SmallP.ext x6 (SmallP.ext x5 (SmallP.ext x4 (SmallP.ext x3 s2)))
          · exact SmallP.ext x6 (SmallP.ext x5 (SmallP.ext x4 s3))
          · exact SmallP.ext x6 (SmallP.ext x5 s4)
          · exact SmallP.ext x6 s5
        have e2 : Ext H _ := e1.trans (x1.trans (x2.trans (x3.trans (x4.trans (x5.trans x6)))))
        have ht2 := (x1.trans (x2.trans (x3.trans (x4.trans (x5.trans x6))))) _ _ ht fun ps z => by cases z
        have hl2 : (upd (upd (upd (upd (upd (upd H1' p1 (.tup [])) p2 (.tup [.int 1])) p3 (.tup [.int 0, .int 1])) p4 (.tup [.int 1, .int 1])) p5 (.tup [.int 0, .int 0, .int 1])) l (.lst [.ref p1, .ref p2, .ref p3, .ref p4, .ref p5])) l = some (.lst [.ref p1, .ref p2, .ref p3, .ref p4, .ref p5]) := upd_same
        generalize upd (upd (upd (upd (upd (upd H1' p1 (.tup [])) p2 (.tup [.int 1])) p3 (.tup [.int 0, .int 1])) p4 (.tup [.int 1, .int 1])) p5 (.tup [.int 0, .int 0, .int 1])) l (.lst [.ref p1, .ref p2, .ref p3, .ref p4, .ref p5]) = H2 at tt all e2 ht2 hl2
        generalize ([.ref p1, .ref p2, .ref p3, .ref p4, .ref p5] : List V) = zs at all hl2
        refine ⟨fun j m σ H' => ∃ y2, σ = [some (.ref a), some (.int b), y2, none, none] ∧ m = zs.length - j ∧ j ≤ zs.length ∧ Ext H H' ∧ Ext H2 H' ∧ Tbs Ts H', ⟨_, y2, rfl, rfl, Nat.zero_le _, e2, Ext.refl _, tt⟩, ?_⟩
        rintro j m σ H3 ⟨z2, rfl, rfl, hj, e3, e3', t3⟩
        have hl3 := e3' _ _ hl2 fun ps z => by cases z
        by_cases hjl : j < zs.length
        · refine .inr ⟨⟨_, _, SqL.of hl3, List.getElem?_eq_getElem hjl⟩, fun σ' H' => ∃ y2, σ' = [some (.ref a), some (.int b), y2, none, none] ∧ Ext H H' ∧ Ext H2 H' ∧ Tbs Ts H', fun σ' H' hN => ?_, fun v H3' hy => ?_⟩
          · obtain ⟨u2, q1, q2, q3, q4⟩ := hN
            exact ⟨_, by omega, u2, q1, rfl, hjl, q2, q3, q4⟩
          · obtain ⟨rfl, hv⟩ := hy
            have hv := hv _ (SqL.of hl3)
            obtain ⟨pa, ms, rfl, hs, hs1, hs2⟩ := SmallP.ext e3' (all v (List.mem_of_getElem? hv))
            refine ⟨_, rfl, _, rfl, b, pa, ms, rfl, hb, hs, ⟨fun n hn => ?_, hs2⟩, t3, fun H4 e4 t4 => ⟨_, rfl, iteF ⟨_, rfl, e3.trans e4, e3'.trans e4, t4⟩⟩⟩
            have := hs1 n hn
            have := hb.1
            omega
        · refine .inl ⟨⟨_, SqL.of hl3, by omega⟩, ?_⟩
          exact ⟨_, _, rfl, e3, t3, e3' _ _ ht2 fun ps z => by cases z⟩
    · refine .inl ⟨⟨_, SqL.of ht, by show 3 ≤ i; omega⟩, ?_⟩
      -- for cell in [..] + script[1:6]
      have hq1 := Ext.lst e1 hq
      refine ⟨_, rfl, a, ns, 0, rfl, hq1, fun v0 _ => ?_⟩
      refine ⟨by show 1 ≤ sizeLine; decide, fun l1 nl1 => ?_⟩
      refine ⟨_, rfl, 1, rfl, 6, rfl, a, _, rfl, Ext.lst (ext_upd nl1) hq1, fun l2 nl2 => ?_⟩
      have ne12 : l1 ≠ l2 := fun z => by rw [z] at nl2; rw [upd_same] at nl2; cases nl2
      refine ⟨l1, l2, _, _, rfl, rfl, by rw [upd_ne ne12]; exact upd_same, upd_same, ?_, fun l3 nl3 => ⟨l3, rfl, ⟨_, SqL.of upd_same⟩, ?_⟩⟩
      · have h1 : (cutV (ns.map V.int) (some 1) (some 6)).length ≤ ns.length := Nat.le_trans cut_len (by rw [List.length_map]; exact Nat.le_refl _)
        have : (1000 : Nat) ≤ sizeLine := by decide
        simp only [List.length_singleton]
        omega
      have intz : ∀ v ∈ ([.int v0] ++ cutV (ns.map V.int) (some 1) (some 6) : List V), ∃ c : Int, v = .int c := fun v hv => by
        rcases List.mem_append.mp hv with hv | hv
        · exact ⟨v0, List.mem_singleton.mp hv⟩
        · obtain ⟨c, _, rfl⟩ := List.mem_map.mp (cut_mem hv)
          exact ⟨c, rfl⟩
      have t2 : Tbs Ts (upd (upd (upd H1 l1 (.lst [.int v0])) l2 (.lst (cutV (ns.map V.int) (some 1) (some 6)))) l3 (.lst ([.int v0] ++ cutV (ns.map V.int) (some 1) (some 6)))) := tbs_upd (tbs_upd (tbs_upd t1 nl1) nl2) nl3
      have hl3 : (upd (upd (upd H1 l1 (.lst [.int v0])) l2 (.lst (cutV (ns.map V.int) (some 1) (some 6)))) l3 (.lst ([.int v0] ++ cutV (ns.map V.int) (some 1) (some 6)))) l3 = some (.lst ([.int v0] ++ cutV (ns.map V.int) (some 1) (some 6))) := upd_same
      generalize upd (upd (upd H1 l1 (.lst [.int v0])) l2 (.lst (cutV (ns.map V.int) (some 1) (some 6)))) l3 (.lst ([.int v0] ++ cutV (ns.map V.int) (some 1) (some 6))) = H2 at t2 hl3
      generalize ([.int v0] ++ cutV (ns.map V.int) (some 1) (some 6) : List V) = zs at intz hl3
      refine ⟨fun j m σ H' => ∃ y1 y2 y3 y4, σ = [some (.ref a), y1, y2, y3, y4] ∧ m = zs.length - j ∧ j ≤ zs.length ∧ H' l3 = some (.lst zs) ∧ Tbs Ts H', ⟨_, y1, y2, none, none, rfl, rfl, Nat.zero_le _, hl3, t2⟩, ?_⟩
      rintro j m σ H3 ⟨z1, z2, z3, z4, rfl, rfl, hj, hl4, t3⟩
      by_cases hjl : j < zs.length
      · refine .inr ⟨⟨_, _, SqL.of hl4, List.getElem?_eq_getElem hjl⟩, fun σ' H' => ∃ y1 y2 y3 y4, σ' = [some (.ref a), y1, y2, y3, y4] ∧ H' l3 = some (.lst zs) ∧ Tbs Ts H', fun σ' H' hN => ?_, fun v H3' hy => ?_⟩
        · obtain ⟨u1, u2, u3, u4, q1, q2, q3⟩ := hN
          exact ⟨_, by omega, u1, u2, u3, u4, q1, rfl, hjl, q2, q3⟩
        · obtain ⟨rfl, hv⟩ := hy
          obtain ⟨cv, rfl⟩ := intz v (List.mem_of_getElem? (hv _ (SqL.of hl4)))
          refine ⟨_, rfl, cv, rfl, fun p l fl np hl0 => ?_⟩
          have hpen : Pen (upd H3' p (.lst [.int l, .int fl])) p := ⟨l, fl, upd_same, hl0⟩
          have nlp : l3 ≠ p := ne_of_none hl4 np
          refine ⟨_, rfl, p, rfl, hpen, fun b H4 hb e4 hp4 => ?_⟩
          have t4 := e4.tbs hpen (tbs_upd t3 np)
          have hl5 := e4 l3 _ nlp (by rw [upd_ne nlp]; exact hl4)
          refine ⟨_, rfl, _, rfl, _, rfl, p, b, 12, rfl, hp4, hb, by decide, by decide, fun ms pa H5 hok hms e5 hp5 hpa => ?_⟩
          have t5 := e5.tbs hp4 t4
          refine ⟨b, pa, ms, rfl, hb, SqT.of hpa, hok, t5, fun H6 e6 t6 => ⟨_, rfl, iteF ?_⟩⟩
          have hp6 : Pen H6 p := by
            obtain ⟨l', fl', ee, hl'⟩ := hp5
            exact ⟨l', fl', e6 _ _ ee (fun ps z => by cases z), hl'⟩
          have hl6 := e6 _ _ (e5 l3 _ nlp hl5) fun ps z => by cases z
          refine ⟨_, rfl, _, rfl, _, rfl, p, b, 4, rfl, hp6, hb, by decide, by decide, fun ms2 pa2 H7 hok2 hms2 e7 hp7 hpa2 => ?_⟩
          have t7 := e7.tbs hp6 t6
          refine ⟨b, pa2, ms2, rfl, hb, SqT.of hpa2, hok2, t7, fun H8 e8 t8 => ⟨_, rfl, iteF ?_⟩⟩
          exact ⟨_, _, _, _, rfl, e8 _ _ (e7 l3 _ nlp hl6) (fun ps z => by cases z), t8⟩
      · refine .inl ⟨⟨_, SqL.of hl4, by omega⟩, ?_⟩
        exact q _
end
end W

namespace W
open PySem PySem.Spec PyProof.Rows L2 B1
/-- a def where the top has put it -/
structure DefAt (K : PySem.W.Frag) (x : Str) (st : Stmt) (f : Addr) (fd : FuncData) (c : Addr) : Prop where
  ns : PySem.W.nsIn K mainGlobals x = some (some (.ref f))
  fc : FunC K x x st f fd c
theorem def_mk {K : PySem.W.Frag} {x : Str} {st : Stmt} {f c : Addr} {oc : Value} {od an : Option Addr} {osl : Array (Option Value)} {kV doc pm ct : Value} (a : PySem.W.nsIn K mainGlobals x = some (some (.ref f))) (l : K.lookup f = some ⟨oc, od, .func (PySem.W.fnOf x x (defArgs st) (defBody st) (defScope st) .none kV doc pm an (.ref c) ct), osl⟩)
    (hc : PySem.W.codeIn K (.ref c) x = true) (k : PySem.W.keepIn K (.ref f) = true) : DefAt K x st f (PySem.W.fnOf x x (defArgs st) (defBody st) (defScope st) .none kV doc pm an (.ref c) ct) c := ⟨a, funC_mk l hc k⟩
theorem DefAt.tab {K : PySem.W.Frag} {mg : Str → Option Value} {h : Heap} {names : List Str} {x : Str} {st : Stmt} {f c P : Addr} {fd : FuncData} {e : Value} {dd : Option Addr} {vs : Array Value} {sl : Array (Option Value)} (D : DefAt K x st f fd c) (T : TabOf mg h names) (hx : x ∈ names) (KX : K.In h) (g : mg x = some (.ref f))
    (lc : K.lookup c = some ⟨e, dd, .fields vs, sl⟩) (hP : vs[11]? = some (.ref P)) : PySem.W.CodeHd h c P ∧ h.get? P = some { cls := .none, data := .fields #[] } := by
  obtain ⟨oc, od, kV, doc, pm, an, ct, osl, rfl, lk, _⟩ := D.fc.ex
  exact tab_at T hx KX g lk rfl rfl lc hP
theorem all_mk {w : World} {K : PySem.W.Frag} {h : Heap} {mg : Str → Option Value} {fa f0 f1 f2 f3 f4 f5 f6 f7 f8 f9 f10 f11 f12 f13 f14 f15 f16 f17 c0 c1 c2 c3 c4 c5 c6 c7 c8 c9 c10 c11 c12 c13 c14 c15 c16 c17 P3 P9 : Addr} {d0 d1 d2 d3 d4 d5 d6 d7 d8 d9 d10 d11 d12 d13 d14 d15 d16 d17 : FuncData} (KX : K.In h) (G : h.Ns mainGlobals mg) (hfa : mg "law" = some (.ref fa)) (T : TabOf mg h ["is_row", "worths"])
    (D0 : DefAt K "is_whole" s_is_whole f0 d0 c0)
    (D1 : DefAt K "is_whole_between" s_is_whole_between f1 d1 c1)
    (D2 : DefAt K "is_number" s_is_number f2 d2 c2)
    (D3 : DefAt K "is_row" s_is_row f3 d3 c3)
    (D4 : DefAt K "fits_poly" s_fits_poly f4 d4 c4)
    (D5 : DefAt K "check_bound" s_check_bound f5 d5 c5)
    (D6 : DefAt K "check_number" s_check_number f6 d6 c6)
    (D7 : DefAt K "check_poly" s_check_poly f7 d7 c7)
    (D8 : DefAt K "worth_at" s_worth_at f8 d8 c8)
    (D9 : DefAt K "worths" s_worths f9 d9 c9)
    (D10 : DefAt K "_law_cell" s_law_cell f10 d10 c10)
    (D11 : DefAt K "_law_pen" s_law_pen f11 d11 c11)
    (D12 : DefAt K "_law_draw" s_law_draw f12 d12 c12)
    (D13 : DefAt K "_law_same" s_law_same f13 d13 c13)
    (D14 : DefAt K "_law_bound" s_law_bound f14 d14 c14)
    (D15 : DefAt K "_law_poly" s_law_poly f15 d15 c15)
    (D16 : DefAt K "_law_right" s_law_right f16 d16 c16)
    (D17 : DefAt K "law" s_law f17 d17 c17)
    (z0 : PySem.W.nsIn K mainGlobals "isinstance" = some none)
    (z1 : PySem.W.nsIn K mainGlobals "int" = some none)
    (z2 : PySem.W.nsIn K mainGlobals "bool" = some none)
    (z3 : PySem.W.nsIn K mainGlobals "tuple" = some none)
    (z4 : PySem.W.nsIn K mainGlobals "all" = some none)
    (z5 : PySem.W.nsIn K mainGlobals "len" = some none)
    (z6 : PySem.W.nsIn K mainGlobals "range" = some none)
    (z7 : PySem.W.nsIn K mainGlobals "reversed" = some none)
    (z8 : PySem.W.nsIn K mainGlobals "repr" = some none)
    (z9 : PySem.W.nsIn K mainGlobals "max" = some none)
    (z10 : PySem.W.nsIn K mainGlobals "divmod" = some none)
    {t0 : Tok} (k0 : PySem.W.nsIn K mainGlobals "LEAST_BOUND" = some (some (.int 2 t0)))
    {t1 : Tok} (k1 : PySem.W.nsIn K mainGlobals "GREATEST_BOUND" = some (some (.int 16 t1)))
    {e3 : Value} {o3 : Option Addr} {v3 : Array Value} {s3 : Array (Option Value)} (lc3 : K.lookup c3 = some ⟨e3, o3, .fields v3, s3⟩) (lp3 : v3[11]? = some (.ref P3)) (np3 : K.lookup P3 = none)
    {e9 : Value} {o9 : Option Addr} {v9 : Array Value} {s9 : Array (Option Value)} (lc9 : K.lookup c9 = some ⟨e9, o9, .fields v9, s9⟩) (lp9 : v9[11]? = some (.ref P9)) (np9 : K.lookup P9 = none)
    : LawG PySem.Challenge.rw_onceeach_k11_worths_of_polynomials w K 23 63 "_law_script" mg fa h := by
  have e := hfa.symm.trans (PySem.W.mg_of KX G D17.ns)
  cases e
  have g0 := PySem.W.mg_of KX G D0.ns
  have b0 : Binds K d0 ["thing"] [] := D0.fc.toFun.binds fun _ _ _ _ _ _ us hl => match us, hl with | [_], _ => rfl
  have g1 := PySem.W.mg_of KX G D1.ns
  have b1 : Binds K d1 ["thing", "least", "most"] [] := D1.fc.toFun.binds fun _ _ _ _ _ _ us hl => match us, hl with | [_, _, _], _ => rfl
  have g2 := PySem.W.mg_of KX G D2.ns
  have b2 : Binds K d2 ["bound", "thing"] [] := D2.fc.toFun.binds fun _ _ _ _ _ _ us hl => match us, hl with | [_, _], _ => rfl
  have g3 := PySem.W.mg_of KX G D3.ns
  have b3 : Binds K d3 ["bound", "thing"] [] := D3.fc.toFun.binds fun _ _ _ _ _ _ us hl => match us, hl with | [_, _], _ => rfl
  have g4 := PySem.W.mg_of KX G D4.ns
  have b4 : Binds K d4 ["bound", "thing"] [] := D4.fc.toFun.binds fun _ _ _ _ _ _ us hl => match us, hl with | [_, _], _ => rfl
  have g5 := PySem.W.mg_of KX G D5.ns
  have b5 : Binds K d5 ["bound"] [] := D5.fc.toFun.binds fun _ _ _ _ _ _ us hl => match us, hl with | [_], _ => rfl
  have g6 := PySem.W.mg_of KX G D6.ns
  have b6 : Binds K d6 ["bound", "number"] [] := D6.fc.toFun.binds fun _ _ _ _ _ _ us hl => match us, hl with | [_, _], _ => rfl
  have g7 := PySem.W.mg_of KX G D7.ns
  have b7 : Binds K d7 ["bound", "poly"] [] := D7.fc.toFun.binds fun _ _ _ _ _ _ us hl => match us, hl with | [_, _], _ => rfl
  have g8 := PySem.W.mg_of KX G D8.ns
  have b8 : Binds K d8 ["bound", "poly", "number"] [] := D8.fc.toFun.binds fun _ _ _ _ _ _ us hl => match us, hl with | [_, _, _], _ => rfl
  have g9 := PySem.W.mg_of KX G D9.ns
  have b9 : Binds K d9 ["bound", "poly"] [] := D9.fc.toFun.binds fun _ _ _ _ _ _ us hl => match us, hl with | [_, _], _ => rfl
  have g10 := PySem.W.mg_of KX G D10.ns
  have b10 : Binds K d10 ["_law_script", "_law_k"] [] := D10.fc.toFun.binds fun _ _ _ _ _ _ us hl => match us, hl with | [_, _], _ => rfl
  have g11 := PySem.W.mg_of KX G D11.ns
  have b11 : Binds K d11 ["_law_cell_here"] [] := D11.fc.toFun.binds fun _ _ _ _ _ _ us hl => match us, hl with | [_], _ => rfl
  have g12 := PySem.W.mg_of KX G D12.ns
  have b12 : Binds K d12 ["_law_pen_here", "_law_many"] [] := D12.fc.toFun.binds fun _ _ _ _ _ _ us hl => match us, hl with | [_, _], _ => rfl
  have g13 := PySem.W.mg_of KX G D13.ns
  have b13 : Binds K d13 ["_law_found", "_law_due"] [] := D13.fc.toFun.binds fun _ _ _ _ _ _ us hl => match us, hl with | [_, _], _ => rfl
  have g14 := PySem.W.mg_of KX G D14.ns
  have b14 : Binds K d14 ["_law_pen_here"] [] := D14.fc.toFun.binds fun _ _ _ _ _ _ us hl => match us, hl with | [_], _ => rfl
  have g15 := PySem.W.mg_of KX G D15.ns
  have b15 : Binds K d15 ["_law_pen_here", "_law_bound_here", "_law_most"] [] := D15.fc.toFun.binds fun _ _ _ _ _ _ us hl => match us, hl with | [_, _, _], _ => rfl
  have g16 := PySem.W.mg_of KX G D16.ns
  have b16 : Binds K d16 ["_law_bound_here", "_law_poly_here"] [] := D16.fc.toFun.binds fun _ _ _ _ _ _ us hl => match us, hl with | [_, _], _ => rfl
  have g17 := PySem.W.mg_of KX G D17.ns
  have b17 : Binds K d17 ["_law_script"] [] := D17.fc.toFun.binds fun _ _ _ _ _ _ us hl => match us, hl with | [_], _ => rfl
  have m0 := PySem.W.mg_none_of KX G z0
  have m1 := PySem.W.mg_none_of KX G z1
  have m2 := PySem.W.mg_none_of KX G z2
  have m3 := PySem.W.mg_none_of KX G z3
  have m4 := PySem.W.mg_none_of KX G z4
  have m5 := PySem.W.mg_none_of KX G z5
  have m6 := PySem.W.mg_none_of KX G z6
  have m7 := PySem.W.mg_none_of KX G z7
  have m8 := PySem.W.mg_none_of KX G z8
  have m9 := PySem.W.mg_none_of KX G z9
  have m10 := PySem.W.mg_none_of KX G z10
  have q0 := PySem.W.mg_of KX G k0
  have q1 := PySem.W.mg_of KX G k1
  obtain ⟨hc3, ht3⟩ := D3.tab T (by simp) KX g3 lc3 lp3
  obtain ⟨hc9, ht9⟩ := D9.tab T (by simp) KX g9 lc9 lp9
  refine ⟨d17, [(c3, P3), (c9, P9)], sp_law K [P3, P9], (by intro p hp; simp only [List.mem_cons, List.not_mem_nil, or_false] at hp; rcases hp with rfl | rfl <;> first | exact ht3 | exact ht9), (by intro p hp; simp only [List.mem_cons, List.not_mem_nil, or_false] at hp; rcases hp with rfl | rfl <;> first | exact np3 | exact np9), (by intro p hp; simp only [List.mem_cons, List.not_mem_nil, or_false] at hp; rcases hp with rfl | rfl <;> first | exact hc3 | exact hc9), fun s u => ?_, fun H a ns hl hbits hH hS => ?_, fun base KB GB TB => ?_⟩
  · obtain ⟨oc, od, kV, doc, pm, an, ct, osl, rfl, lk, _⟩ := D17.fc.ex
    exact .of_eq rfl
  · exact ⟨a, ns, rfl, hS, hl, fun P hP => by
      simp only [List.mem_cons, List.not_mem_nil, or_false] at hP
      rcases hP with hP | hP
      · rw [hP]; exact ⟨#[], hH (c3, P3) (by simp), trivial⟩
      · rw [hP]; exact ⟨#[], hH (c9, P9) (by simp), trivial⟩
      , fun _ => rfl⟩
  · have tb3 := TB (c3, P3) (by simp)
    have tb9 := TB (c9, P9) (by simp)
    have TB3 : GxR.TabB base mg c3 P3 := ⟨tb3.code, tb3.bm, tb3.gP⟩
    have TB9 : GxR.TabB base mg c9 P9 := ⟨tb9.code, tb9.bm, tb9.gP⟩
    have X : Chk K mg base _ _ _ _ _ _ _ _ _ _ _ := ⟨D0.fc.toFun, D1.fc.toFun, D2.fc.toFun, D3.fc, b0, b1, b2, b3, g0, g1, g2, g3, TB3, (by simp : P3 ∈ [P3, P9]), m0, m1, m2, m3, m4, m5, m6⟩
    have Y : Chp K mg _ _ _ _ _ _ _ _ := ⟨D4.fc.toFun, D5.fc.toFun, D6.fc.toFun, D7.fc.toFun, b4, b5, b6, b7, g4, g5, g6, g7, ⟨_, q0⟩, ⟨_, q1⟩⟩
    have Z : Hlp K mg _ _ _ _ _ _ _ _ _ _ := ⟨D10.fc.toFun, D11.fc.toFun, D12.fc.toFun, D14.fc.toFun, D15.fc.toFun, b10, b11, b12, b14, b15, g10, g11, g12, g14, g15, m9, m10⟩
    exact ok_law D17.fc Z X (ok_right D16.fc D9.fc TB9 (by simp) b9 g9 D8.fc.toFun b8 g8 D13.fc b13 g13 m8 X Y m7) D16.fc.kp b16 g16
end W
open PySem PySem.W PyProof.Rows
set_option maxHeartbeats 0 in
theorem PySem.Challenge.cw_onceeach_k11_worths_of_polynomials_holds : PySem.Challenge.rw_onceeach_k11_worths_of_polynomials.Holds := by
  w_on; o_law; k_head; (case hw => w_witness2)
  k_fill
  refine B1.walk_G (l := PySem.Challenge.rw_onceeach_k11_worths_of_polynomials) (n := 63) (k := 23) (x := "_law_script") ["is_row", "worths"] rfl (by decide) rfl ⟨rfl, by decide, by decide⟩ (by decide +kernel) (fun w h Y => PySem.W.kIn_of Y) ?F
  case F =>
    intro w mg fa h KX G hmg T
    refine' W.all_mk KX G hmg T ?D0 ?D1 ?D2 ?D3 ?D4 ?D5 ?D6 ?D7 ?D8 ?D9 ?D10 ?D11 ?D12 ?D13 ?D14 ?D15 ?D16 ?D17 ?z0 ?z1 ?z2 ?z3 ?z4 ?z5 ?z6 ?z7 ?z8 ?z9 ?z10 ?k0 ?k1 ?lc3 ?lp3 ?np3 ?lc9 ?lp9 ?np9
    (case D0 => (refine' W.def_mk ?a ?l ?c ?k; (case a => k_is); (case l => k_is); (case c => k_is); (case k => k_is)))
    (case D1 => (refine' W.def_mk ?a ?l ?c ?k; (case a => k_is); (case l => k_is); (case c => k_is); (case k => k_is)))
    (case D2 => (refine' W.def_mk ?a ?l ?c ?k; (case a => k_is); (case l => k_is); (case c => k_is); (case k => k_is)))
    (case D3 => (refine' W.def_mk ?a ?l ?c ?k; (case a => k_is); (case l => k_is); (case c => k_is); (case k => k_is)))
    (case D4 => (refine' W.def_mk ?a ?l ?c ?k; (case a => k_is); (case l => k_is); (case c => k_is); (case k => k_is)))
    (case D5 => (refine' W.def_mk ?a ?l ?c ?k; (case a => k_is); (case l => k_is); (case c => k_is); (case k => k_is)))
    (case D6 => (refine' W.def_mk ?a ?l ?c ?k; (case a => k_is); (case l => k_is); (case c => k_is); (case k => k_is)))
    (case D7 => (refine' W.def_mk ?a ?l ?c ?k; (case a => k_is); (case l => k_is); (case c => k_is); (case k => k_is)))
    (case D8 => (refine' W.def_mk ?a ?l ?c ?k; (case a => k_is); (case l => k_is); (case c => k_is); (case k => k_is)))
    (case D9 => (refine' W.def_mk ?a ?l ?c ?k; (case a => k_is); (case l => k_is); (case c => k_is); (case k => k_is)))
    (case D10 => (refine' W.def_mk ?a ?l ?c ?k; (case a => k_is); (case l => k_is); (case c => k_is); (case k => k_is)))
    (case D11 => (refine' W.def_mk ?a ?l ?c ?k; (case a => k_is); (case l => k_is); (case c => k_is); (case k => k_is)))
    (case D12 => (refine' W.def_mk ?a ?l ?c ?k; (case a => k_is); (case l => k_is); (case c => k_is); (case k => k_is)))
    (case D13 => (refine' W.def_mk ?a ?l ?c ?k; (case a => k_is); (case l => k_is); (case c => k_is); (case k => k_is)))
    (case D14 => (refine' W.def_mk ?a ?l ?c ?k; (case a => k_is); (case l => k_is); (case c => k_is); (case k => k_is)))
    (case D15 => (refine' W.def_mk ?a ?l ?c ?k; (case a => k_is); (case l => k_is); (case c => k_is); (case k => k_is)))
    (case D16 => (refine' W.def_mk ?a ?l ?c ?k; (case a => k_is); (case l => k_is); (case c => k_is); (case k => k_is)))
    (case D17 => (refine' W.def_mk ?a ?l ?c ?k; (case a => k_is); (case l => k_is); (case c => k_is); (case k => k_is)))
    (case z0 => k_is)
    (case z1 => k_is)
    (case z2 => k_is)
    (case z3 => k_is)
    (case z4 => k_is)
    (case z5 => k_is)
    (case z6 => k_is)
    (case z7 => k_is)
    (case z8 => k_is)
    (case z9 => k_is)
    (case z10 => k_is)
    (case k0 => k_is)
    (case k1 => k_is)
    (case lc3 => k_is); (case lp3 => rfl); (case np3 => first | rfl | with_unfolding_all rfl | decide +kernel | (trace_state; k_is))
    (case lc9 => k_is); (case lp9 => rfl); (case np9 => first | rfl | with_unfolding_all rfl | decide +kernel | (trace_state; k_is))
