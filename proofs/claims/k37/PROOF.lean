import PyProof.Rows.All
import Wide.All
import OpenK.AllK
import Wide.FinOn
import KE.KStateDown
import HandS.ForMost
import HandS.Wide
import HandS.IsInst
import HandS.Walk
import HandS.Style
import HandS.Evl
import HandS.StrMore
import HandS.Exc
import HandS.WordsExc
import HandS.Defaults
import HandS.Head0
import HandS.Head1
import HandS.Head2
import HandS.HeadEnd
import HandS.HeadHook1
import HandS.HeadHook2
import HandS.Gcd
import HandS.Head3
import HandS.Star
import HandS.RaiseMore
import HandS.AnyAll
import HandS.Conv
import HandS.More
import HandS.Small
import HandS.HeadHook3
import HandS.HeadHook4
import HandS.HeadWalk
import HandS.EndTab
import PyProof.GenCompT
import PyProof.TupleOfGen
import PyProof.WalksPairs
import KE.KTupSum
import KE.DataMinMax
import HandS.SortKw
import HandS.TupAny
import HandS.TupMul
import KE.KDictKeyed
import KE.SortData
import KE.KDictSum
import KE.KDictPairs
import HandS.Zip
import HandS.Codes
import HandS.TryElse
import HandS.HeadNt
import HandS.Property
import HandS.SetBool
import HandS.SetKeys
import HandS.Nested
import HandS.ExcInit
import HandS.ExcField
import HandS.ExcIs
import HandS.FStr
import KE.KExcSuper
import KE.KSuper
import HandS.TupSets
import HandS.ExcCtx
import HandS.Hot
import HandS.HotCalls
import HandS.ExcOwn
import HandS.ExcInitHot
import KE.KIsAll
import KE.GoesMore
import PyProof.EnumMake
import PyProof.Draws
import PyProof.EnumFor
import HandS.GenList
import HandS.GenCall
import HandS.GenBody
import HandS.Comp
import PyProof.CollectWalk
import HandS.Lambda
import PySem.Challenge.RW_meantrace_k37_whole_spreads
set_option Elab.async false
set_option linter.all false
set_option maxRecDepth 100000
/-! Our own words over the hand layer: defs of the top by name, the draws' state, heaps that go on. -/
namespace Mt
open PySem PySem.Spec PyProof.Rows L2
section
variable {P : Program} {w : World} {K : PySem.W.Frag} {mg : Str → Option Value} {base : Heap}
abbrev FnP (K : PySem.W.Frag) (x : Str) (st : Stmt) (f : Addr) (fd : FuncData) : Prop := FunD K x x (defArgs st) (defBody st) (defScope st) [] [] f fd
/-- a def that keeps its promise -/
def Kept (P : Program) (w : World) (K : PySem.W.Frag) (mg : Str → Option Value) (base : Heap) (k : Nat) (x : Str) (ps : List Str) (sp : Sp) : Prop :=
  ∃ f fd, FnOk P w K mg base CX0 k f fd ps sp ∧ mg x = some (.ref f) ∧ PySem.W.keepIn K (.ref f) = true ∧ Binds K fd ps []
/-- what the head tells: facts by names, defs, one more word of one's own -/
abbrev AlM : Type := He.AlD × Bool
def obsM (n : Nat) (fa : List He.Fa) (fn : List He.DefD) (ex : PySem.W.Frag → Bool) (g : Addr → Option Obj) : AlM := (He.obsDG n fa fn g, ex (He.frG g (He.asD g n)))
def SaysM (fa : List He.Fa) (fn : List He.DefD) (ex : PySem.W.Frag → Bool) (K : PySem.W.Frag) : Prop := He.SaysD fa fn K ∧ ex K = true
def hookM (n : Nat) (fa : List He.Fa) (fn : List He.DefD) (ex : PySem.W.Frag → Bool) : PySem.W.Hook where
  α := AlM
  obs := fun s => obsM n fa fn ex s.heap.get?
  val := fun _ => (He.valD fn, true)
  says := fun _ h => ∃ K : PySem.W.Frag, K.In h ∧ SaysM fa fn ex K
  of := fun _ _ e => ⟨_, He.frG_in, congrArg (fun z : AlM => z.1) e, congrArg (fun z : AlM => z.2) e⟩
  keeps := fun _ _ _ ⟨K, hK, c⟩ k => ⟨K, PySem.W.Frag.In.keeps hK k, c⟩
theorem obsM_eq {n : Nat} {fa : List He.Fa} {fn : List He.DefD} {ex : PySem.W.Frag → Bool} {g : Addr → Option Obj} {s : Shared} (h : ∀ a, g a = s.heap.get? a) : obsM n fa fn ex g = (hookM n fa fn ex).obs s := by
  have e : g = s.heap.get? := funext h
  rw [e] <;> rfl
theorem kept_of {h : Heap} (X : K.In h) (G : h.Ns mainGlobals mg) {x : Str} {ps : List Str} {st : Stmt} {k : Nat} {sp : Sp}
    (hd : ∃ fd, FnP K x st (He.ga K x) fd) (hg : (He.Fa.glo x).ok K = true)
    (hb : ∀ (kV doc pm : Value) (an : Option Addr) (cdv ct : Value) (us : List Value), us.length = ps.length → bindArgs (PySem.W.fnOf x x (defArgs st) (defBody st) (defScope st) .none kV doc pm an cdv ct) ⟨us, []⟩ = pure (ps.zip us))
    (ok : ∀ f fd, FnP K x st f fd → FnOk P w K mg base CX0 k f fd ps sp) : Kept P w K mg base k x ps sp := by
  obtain ⟨fd, F⟩ := hd
  exact ⟨_, fd, ok _ fd F, He.glo_ok X G hg, F.kp, F.bindsN hb⟩
end
section
variable {X : Cx}
theorem pe_d {k : Nat} {x : Str} {ps : List Str} {sp : Sp} {e : Expr} {es : List Expr} {t : TA} {p pos : Pos} (D : Kept X.prog X.w X.K X.mg X.base k x ps sp) (hr : Room k X.A) (hg : Gl X x) (ha : PA X (e :: es) t)
    (hdb : (x == ("__debug__" : Str)) = false := by decide) (he : starEach (e :: es) X.env = (false, eval e X.env) :: starEach es X.env := by rfl) (hpl : (backTo pos (starEach es X.env)).any (·.1) = false := by rfl) :
    PE X (.Call (.Name x p) (e :: es) [] pos) (tCall sp [] E0 t) := by
  obtain ⟨f, fd, F, g, kp, b⟩ := D
  exact pe_call F hr hg g kp b .nil pass0 ha hdb he hpl
theorem pe_d0 {k : Nat} {x : Str} {ps : List Str} {sp : Sp} {p pos : Pos} (D : Kept X.prog X.w X.K X.mg X.base k x ps sp) (hr : Room k X.A) (hg : Gl X x) (hdb : (x == ("__debug__" : Str)) = false := by decide) :
    PE X (.Call (.Name x p) [] [] pos) (tCall sp [] E0 tNil) := by
  obtain ⟨f, fd, F, g, kp, b⟩ := D
  exact pe_call0 F hr hg g kp b .nil pass0 hdb
/-- a text of the module; an object of the module -/
theorem pe_gs {x z : Str} {pos : Pos} (h : ∃ t, X.mg x = some (.str z t)) (hg : Gl X x) (hd : (x == ("__debug__" : Str)) = false := by decide) : PE X (.Name x pos) (tC (.str z)) := by
  obtain ⟨t, h⟩ := h
  exact pe_glob hg h ⟨_, rfl⟩ hd
/-- xs[i] op= e reads xs[i] -/
theorem get_list : PGet X (rIxL X.K) := by
  intro pins s σ H o i ov iv Q I ro ri h
  obtain ⟨p, xs, i, z, rfl, rfl, hq, he, q⟩ := h
  cases ro
  obtain ⟨t, rfl⟩ := ri
  obtain ⟨its, r, pl, hz⟩ := I.list hq
  obtain ⟨j, h1, h2, h3, h4, h5⟩ := atI_get he
  obtain ⟨w, ew, rw'⟩ := r.get h2
  have hl := r.length
  have hn := line63
  have fin : EP X pins σ Q w s := ⟨z, H, I, rw', q⟩
  by_cases h0 : 0 ≤ i
  · have hj : i.toNat = j := by
      rw [seqIndex_of h0 h5] at h1
      exact Option.some.inj h1
    exact wpAny_mono (wpAny_getItem_list (Q := fun r s' => r = w ∧ EP X pins σ Q r s') pl.isList h0 (by omega) (by rw [hj]; simpa using ew) ⟨rfl, fin⟩) (fun _ _ q => q.2) (fun _ _ q => q)
  · have hj : (i + (its.toArray.size : Int)).toNat = j := by
      rw [seqIndex_neg (by omega) h4] at h1
      rw [List.size_toArray, ← hl]
      exact Option.some.inj h1
    exact wpAny_mono (wpAny_getItem_list_neg (Q := fun r s' => r = w ∧ EP X pins σ Q r s') pl.isList (by omega) (by rw [List.size_toArray] <;> omega) (by omega) (by rw [hj]; simpa using ew) ⟨rfl, fin⟩) (fun _ _ q => q.2) (fun _ _ q => q)
end

/-! ### the draws: [cells, place, rest, seed] at D -/
structure DrawAt (S D : Addr) (H : Hp) : Prop where
  ne : S ≠ D
  cells : ∃ cs : List Int, H S = some (.lst (cs.map V.int))
  at_ : ∃ i r c : Int, 0 ≤ i ∧ H D = some (.lst [.ref S, .int i, .int r, .int c])
/-- all else that is tracked stays -/
def Keep (D : Addr) (H H' : Hp) : Prop := ∀ b o, H b = some o → b ≠ D → H' b = some o
def Go (S D : Addr) (H H' : Hp) : Prop := DrawAt S D H' ∧ Keep D H H'
theorem Keep.refl {D : Addr} {H : Hp} : Keep D H H := fun _ _ h _ => h
theorem Keep.trans {D : Addr} {H H1 H2 : Hp} (a : Keep D H H1) (b : Keep D H1 H2) : Keep D H H2 := fun x o h n => b x o (a x o h n) n
theorem Go.trans {S D : Addr} {H H1 H2 : Hp} (a : Go S D H H1) (b : Go S D H1 H2) : Go S D H H2 := ⟨b.1, a.2.trans b.2⟩
theorem Keep.set {D : Addr} {H H' : Hp} {o : HO} (k : Keep D H H') : Keep D H (upd H' D o) := fun b u h n => by
  rw [upd_ne n]
  exact k b u h n
theorem DrawAt.set {S D : Addr} {H : Hp} (d : DrawAt S D H) {i r c : Int} (h : 0 ≤ i) : DrawAt S D (upd H D (.lst [.ref S, .int i, .int r, .int c])) :=
  ⟨d.ne, d.cells.imp fun cs h => by rw [upd_ne d.ne]; exact h, ⟨i, r, c, h, upd_same⟩⟩
theorem DrawAt.new {S D p : Addr} {H : Hp} {o : HO} (d : DrawAt S D H) (h : H p = none) : DrawAt S D (upd H p o) := by
  obtain ⟨cs, h1⟩ := d.cells
  obtain ⟨i, r, c, h0, h2⟩ := d.at_
  exact ⟨d.ne, ⟨cs, by rw [upd_ne (ne_of_none h1 h)]; exact h1⟩, ⟨i, r, c, h0, by rw [upd_ne (ne_of_none h2 h)]; exact h2⟩⟩
theorem Keep.new {D p : Addr} {H : Hp} {o : HO} (h : H p = none) : Keep D H (upd H p o) := fun b u e _ => by
  rw [upd_ne (ne_of_none e h)]
  exact e
theorem Go.new {S D p : Addr} {H : Hp} {o : HO} (d : DrawAt S D H) (h : H p = none) : Go S D H (upd H p o) := ⟨d.new h, Keep.new h⟩
theorem Go.same {S D : Addr} {H H' : Hp} (d : DrawAt S D H) (h : Same H H') : Go S D H H' := by
  obtain ⟨cs, h1⟩ := d.cells
  obtain ⟨i, r, c, h0, h2⟩ := d.at_
  exact ⟨⟨d.ne, ⟨cs, h _ _ h1⟩, ⟨i, r, c, h0, h _ _ h2⟩⟩, fun b o e _ => h b o e⟩
theorem Go.refl {S D : Addr} {H : Hp} (d : DrawAt S D H) : Go S D H H := ⟨d, Keep.refl⟩
/-- a fresh place stays fresh when looked at from behind -/
theorem DrawAt.free {S D p : Addr} {H : Hp} (d : DrawAt S D H) (h : H p = none) : p ≠ D ∧ p ≠ S := by
  obtain ⟨cs, h1⟩ := d.cells
  obtain ⟨i, r, c, h0, h2⟩ := d.at_
  exact ⟨(ne_of_none h2 h).symm, (ne_of_none h1 h).symm⟩
theorem Go.free {S D p : Addr} {H H' : Hp} (g : Go S D H H') (d : DrawAt S D H) (h : H' p = none) : H p = none := by
  cases q : H p with
  | none => rfl
  | some o =>
    by_cases e : p = D
    · exact absurd e (g.1.free h).1
    · rw [g.2 p o q e] at h
      cases h
def spDraw : Sp := fun vs H Q _ => ∃ (S D : Addr) (many : Int), vs = [.ref D, .int many] ∧ CDivW 0 many ∧ DrawAt S D H ∧ ∀ H' v, 0 ≤ v → v < many → Go S D H H' → Q (.int v) H'
end Mt
/-! ### a generator expression whose elements are walked (calls, new tuples): tuple(e for t in it if c) -/
namespace GXW
open PySem PySem.Spec PyProof.Rows L2 GenW
/-- the scope of a generator expression: N its names, fr the free ones -/
structure GSc (N fr : List Str) (scope : Scope) : Prop where
  off : NdefX.NScope N [".0"] fr { scope with isGenerator := false }
theorem gsc_by {N fr : List Str} {sc : Scope} (h : NdefX.nscB N [".0"] fr { sc with isGenerator := false } = true) : GSc N fr sc := ⟨NdefX.nscope_by h⟩
theorem no_free {sc : Scope} {R : Str × NameKind → Prop} (h : (sc.names.all fun y => !decide (y.2 = .free)) = true) : ∀ y ∈ sc.names, y.2 = .free → R y := fun y hy e => by
  have := List.all_eq_true.mp h y hy
  rw [decide_eq_true e] at this
  cases this
theorem free_by {sc outer : Scope} (h : (sc.names.all fun y => !decide (y.2 = .free) || (decide (outer.names.lookup y.1 = some .cell) || decide (outer.names.lookup y.1 = some .free))) = true) : ∀ y ∈ sc.names, y.2 = .free → outer.names.lookup y.1 = some .cell ∨ outer.names.lookup y.1 = some .free := fun y hy e => by
  have := List.all_eq_true.mp h y hy
  rw [decide_eq_true e, Bool.not_true, Bool.false_or, Bool.or_eq_true] at this
  exact this.imp of_decide_eq_true of_decide_eq_true
def gx (P : Program) (w : World) (K : PySem.W.Frag) (mg : Str → Option Value) (base : Heap) (N : List Str) (cenv : Env) (A : Around) (outer : List Env) (s : Shared) (H : Hp) (fp : List Addr) (pn : List (Addr × Obj)) : Cx where
  prog := P
  w := w
  K := K
  mg := mg
  base := base
  A := A.deeper cenv
  N := N
  s_0 := s
  H_0 := H
  env := cenv
  outer := outer
  stack := cenv :: outer
  ex := fp
  calm := true
  fn := fun _ => false
  pn := pn
  xe := fun _ _ => False
theorem un_ex {fs ex : List Addr} {H H' : Hp} {h h' : Heap} (u : Un fs [] H H' h h') : Un fs ex H H' h h' :=
  ⟨fun b o e n hb _ => u.keep b o e n hb (by simp), fun b o e n hb _ => u.slot b o e n hb (by simp), fun b o e n _ => u.free b o e n (by simp), fun b o e _ => u.there b o e (by simp), u.tups, u.frzs, u.tbls⟩
theorem over_gen {A : Around} {elt iter tg : Expr} {ifs : List Expr} {scope : Scope} {pos : Pos} {it acc : Value} {env : Env} :
    A.over (.compLoop (.GeneratorExp elt [⟨tg, iter, ifs, 0⟩] scope pos) 0 it acc env) [] = A.deeper env := by
  first
    | rfl
    | (obtain ⟨hd, d, fr, gs, u⟩ := A; simp [Around.over, Around.deeper, marksOver, frameCount, unitsOf, envsOf, guardsOf, pushEnvs, pushGuards, Code.envs, Code.env?, Code.isFrame, Code.guards, Code.isGuard, Code.weight, Code.frames, Code.isCreation, Code.isCaller, Code.cUnits])
theorem over_gen0 {A : Around} {elt iter tg : Expr} {ifs : List Expr} {scope : Scope} {pos : Pos} {it acc : Value} {env : Env} :
    A.over (.compStart (.GeneratorExp elt [⟨tg, iter, ifs, 0⟩] scope pos) 0 it acc env) [] = A.deeper env := by
  first
    | rfl
    | (obtain ⟨hd, d, fr, gs, u⟩ := A; simp [Around.over, Around.deeper, marksOver, frameCount, unitsOf, envsOf, guardsOf, pushEnvs, pushGuards, Code.envs, Code.env?, Code.isFrame, Code.guards, Code.isGuard, Code.weight, Code.frames, Code.isCreation, Code.isCaller, Code.cUnits])
/-- its invariant: what is left of the reading (i: items taken, m: a measure, ys: handed out) -/
abbrev WG : Type := Nat → Nat → List V → L2.St → Hp → Prop
def Steps (J : It) (g : TG) (tt : TT) (te : TE) (W : WG) (cont : List V → Hp → Prop) : Prop := ∀ i m ys σ H, W i m ys σ H →
  (J.stop i H ∧ cont ys H) ∨ (J.go i H ∧ ∃ Nx : List V → L2.St → Hp → Prop, (∀ ys' σ' H', Nx ys' σ' H' → ∃ m', m' < m ∧ W (i + 1) m' ys' σ' H') ∧
    ∀ x H', J.yld i H x H' → g x σ H' fun σ2 H2 => tt σ2 H2 fun b H3 => if b = true then te σ2 H3 fun y H4 => ys.length < sizeLine ∧ Nx (ys ++ [y]) σ2 H4 else Nx ys σ2 H3)
section
variable {P : Program} {w : World} {K : PySem.W.Frag} {mg : Str → Option Value} {base : Heap} {N : List Str} {cenv : Env} {A : Around} {outer : List Env} {s0 : Shared} {H0 : Hp} {fp : List Addr} {pn : List (Addr × Obj)}
  {elt iter tg : Expr} {ifs : List Expr} {scope : Scope} {pos : Pos} {S it : Addr} {J : It} {tn : Nat → Heap → Prop} {g : TG} {tt : TT} {te : TE} {W : WG} {cont : List V → Hp → Prop}
/-- its turns -/
theorem seg_turns (T : Turn P w K tg J fp it tn) (hco : cenv.scope.isCoroutine = false) (hpn : ∀ p ∈ pn, p.1 ≠ S) (hfS : ∀ b ∈ fp, b ≠ S) (hA : Apart (gx P w K mg base N cenv A outer s0 H0 fp pn) S)
    (hst : ∀ {H : Hp} {acc : Array Value} {c : Nat}, (∀ b ∈ fp, H b = none) → ∀ b ∈ fp, FpOk (gx P w K mg base N cenv A outer s0 H0 fp pn) [(S, lstObj acc c)] H b)
    (hg : PG (gx P w K mg base N cenv A outer s0 H0 fp pn) tg g) (ht : PTs (gx P w K mg base N cenv A outer s0 H0 fp pn) ifs tt) (he : PE (gx P w K mg base N cenv A outer s0 H0 fp pn) elt te) (hS : Steps J g tt te W cont) :
    ∀ (m i n : Nat) (ys : List V) (s₀ s : Shared) (σ : L2.St) (H : Hp), n + ys.length = sizeLine → W i m ys σ H → GI (gx P w K mg base N cenv A outer s0 H0 fp pn) S [] ys σ H s → tn i s.heap → (∀ b ∈ fp, H b = none) →
      Seg (model P w) A (fun n s₀ r s1 => r = .ok .next ∧ ∃ ys σ H, n + ys.length = sizeLine ∧ GI (gx P w K mg base N cenv A outer s0 H0 fp pn) S [] ys σ H s1 ∧ cont ys H) (GY (gx P w K mg base N cenv A outer s0 H0 fp pn) S) n s₀
        (.compLoop (.GeneratorExp elt [⟨tg, iter, ifs, 0⟩] scope pos) 0 (.ref it) .none cenv) ((model P w).den (.compLoop (.GeneratorExp elt [⟨tg, iter, ifs, 0⟩] scope pos) 0 (.ref it) .none cenv)) [] s := by
  intro m
  induction m using Nat.strongRecOn with
  | ind m ih =>
    intro i n ys s₀ s σ H hn w1 hI st fr
    have hI0 := hI
    obtain ⟨acc, cc, r, I⟩ := hI
    show Seg _ A _ _ _ s₀ _ ((compTurn (.GeneratorExp elt [⟨tg, iter, ifs, 0⟩] scope pos) 0 (.ref it) .none cenv).onRaise (leaving cenv)) [] s
    rw [compTurn_gen, Sem.onRaise_eq_wrap]
    refine seg_bind_wrap (wpAny_standAt ?_)
    rcases hS i m ys σ H w1 with ⟨stop, qn⟩ | ⟨go, Nx, hN, step⟩
    · refine seg_bind_wrap ?_
      rw [over_gen]
      refine thn (T.done (gx P w K mg base N cenv A outer s0 H0 fp pn) rfl rfl rfl rfl i [(S, lstObj acc cc)] s σ H _ I (hst fr) st stop) fun r1 s4 ⟨hr, I4⟩ => ?_
      subst hr
      exact seg_end (.ok .next) ⟨rfl, ys, σ, H, hn, ⟨acc, cc, r, I4⟩, qn⟩
    · refine seg_bind_wrap ?_
      rw [over_gen]
      refine thn (T.item (gx P w K mg base N cenv A outer s0 H0 fp pn) rfl rfl rfl rfl i [(S, lstObj acc cc)] s σ H _ I (hst fr) st go) fun r1 s4 ⟨u, hr, h4⟩ => ?_
      subst hr
      refine seg_bind_wrap ?_
      rw [over_gen]
      refine thn h4 fun _ s5 ⟨x, H5, I5, r5, y5, st5, fr5⟩ => ?_
      have I5' := I5.pinned (hst fr5) (T.obj _ _ st5)
      refine seg_bind_wrap ?_
      rw [over_gen]
      refine wpAny_mono (hg.run _ s5 σ H5 x u _ I5' r5 (step x H5 y5)) (fun _ s6 ⟨σ6, H6, I6, q6⟩ => ?_) fun _ _ z => False.elim z
      refine seg_bind_wrap ?_
      rw [over_gen]
      refine wpAny_mono (ht.run _ s6 σ6 H6 _ I6 q6) (fun ok s7 h7 => ?_) fun _ _ z => False.elim z
      obtain ⟨H7, I7, q7⟩ := h7
      have keep : ∀ {σ8 : L2.St} {H8 : Hp} {s8 : Shared} {acc8 : Array Value} {c8 : Nat}, Inv (gx P w K mg base N cenv A outer s0 H0 fp pn) ([(S, lstObj acc8 c8)] ++ pinsAt fp s5.heap) σ8 H8 s8 → tn (i + 1) s8.heap ∧ ∀ b ∈ fp, H8 b = none := fun {σ8 H8 s8 acc8 c8} I8 => by
        refine ⟨T.keep _ _ _ st5 fun b hb o e => (I8.pin (b, o) (List.mem_append_right _ (List.mem_append_right _ (mem_pinsAt hb e)))).1, fun b hb => ?_⟩
        obtain ⟨o, e, d⟩ := T.obj _ _ st5 b hb
        exact (I8.pin (b, o) (List.mem_append_right _ (List.mem_append_right _ (mem_pinsAt hb e)))).2.1
      cases ok with
      | false =>
        rw [if_neg Bool.false_ne_true] at q7
        obtain ⟨m', hm, w7⟩ := hN ys σ6 H7 q7
        obtain ⟨k1, k2⟩ := keep I7
        exact seg_again rfl (ih m' hm (i + 1) n ys s₀ s7 σ6 H7 hn w7 ⟨acc, cc, r, I7.unpinned⟩ k1 k2)
      | true =>
        rw [if_pos rfl] at q7
        simp only [if_true]
        have hy : ∀ v, yieldOut cenv v = yieldValue v := fun v => by simp only [yieldOut, hco, Bool.false_eq_true, if_false]
        simp only [hy]
        rw [Sem.bind_eq_wrap', Sem.bind_eq_wrap', Sem.wrap_wrap, Sem.wrap_wrap]
        refine seg_wrap ?_
        rw [over_gen]
        refine wpAny_mono (he.run _ s7 σ6 H7 _ I7 q7) (fun v s8 h8 => ?_) fun _ _ z => False.elim z
        obtain ⟨y, H8, I8, ry, hlt, q8⟩ := h8
        obtain ⟨n', rfl⟩ : ∃ n', n = n' + 1 := ⟨n - 1, by omega⟩
        have hip : ∀ p ∈ pinsAt fp s5.heap, p.1 ≠ S := fun p hp => hfS _ (of_pinsAt hp).1
        have G8 : GI (gx P w K mg base N cenv A outer s0 H0 fp pn) S (pinsAt fp s5.heap) ys σ6 H8 s8 := ⟨acc, cc, r, I8⟩
        refine seg_at (seg_yield rfl rfl rfl ⟨ys, y, pinsAt fp s5.heap, σ6, H8, hn, ry, G8, fun s'' z => ?_⟩)
        obtain ⟨acc9, c9, r9, I9⟩ := G8.woken hpn hip hA ry z
        obtain ⟨m', hm, w8⟩ := hN _ σ6 H8 q8
        obtain ⟨k1, k2⟩ := keep I9
        refine seg_again rfl (ih m' hm (i + 1) n' (ys ++ [y]) s'' s'' σ6 H8 ?_ w8 ⟨acc9, c9, r9, Inv.unpinned (pins := [(S, lstObj acc9 c9)]) I9⟩ k1 k2)
        rw [List.length_append, List.length_singleton]
        omega
/-- its first step -/
theorem seg_first (T : Turn P w K tg J fp it tn) {R : GenEnd} {Y : Protocol} {n : Nat} {s₀ s : Shared} (st : tn 0 s.heap)
    (loop : Seg (model P w) A R Y n s₀ (.compLoop (.GeneratorExp elt [⟨tg, iter, ifs, 0⟩] scope pos) 0 (.ref it) .none cenv) ((model P w).den (.compLoop (.GeneratorExp elt [⟨tg, iter, ifs, 0⟩] scope pos) 0 (.ref it) .none cenv)) [] s) :
    Seg (model P w) A R Y n s₀ (.compStart (.GeneratorExp elt [⟨tg, iter, ifs, 0⟩] scope pos) 0 (.ref it) .none cenv) ((model P w).den (.compStart (.GeneratorExp elt [⟨tg, iter, ifs, 0⟩] scope pos) 0 (.ref it) .none cenv)) [] s := by
  show Seg _ A _ _ _ s₀ _ ((compStart (.GeneratorExp elt [⟨tg, iter, ifs, 0⟩] scope pos) 0 (.ref it) .none cenv).onRaise (leaving cenv)) [] s
  unfold compStart
  rw [Sem.onRaise_eq_wrap]
  show Seg _ A _ _ _ s₀ _ ((ask >>= _).wrap _ _ _ _) [] s
  refine seg_bind_wrap (wpAny_askSetting ?_)
  split
  · exact seg_again rfl loop
  · first
      | exact seg_bind_wrap (wpAny_rule (seg_bind_wrap (wpAny_standAt (seg_bind_wrap (T.self _ 0 s _ _ st (seg_again rfl loop))))))
      | (refine seg_bind_wrap (wpAny_rule ?_); show Seg _ A _ _ _ s₀ _ ((standAt iter.pos >>= _).wrap _ _ _ _) [] s; exact seg_bind_wrap (wpAny_standAt (seg_bind_wrap (T.self _ 0 s _ _ st (seg_again rfl loop)))))
/-- its entry -/
theorem inv_gx {fr : List Str} {cl : List (Str × Addr)} {ws : List (Option V)} {env : Env} {code : Value} {s s2 : Shared} {H : Hp} (S : GSc N fr scope) (hd : A.handled = none) (e0 : Env0 P w K mg base A outer s H) (C : NdefX.CellsAt cl fr ws s.heap H) (hG : env.globals = mainGlobals)
    (hfp : ∀ b ∈ fp, b ≠ s.heap.objs.size ∧ (∀ x c, cl.lookup x = some c → c ≠ b) ∧ b ∉ frs outer ∧ base.get? b = none) (hns : s2.heap.Ns s.heap.objs.size (fun y => if y = ".0" then some (.ref it) else none)) (kp : ∀ b o, s.heap.get? b = some o → s2.heap.get? b = some o) (os : s2.os = s.os) (hb : AllBare s2.gens) :
    Inv (gx P w K mg base N (genEnv scope cl s.heap.objs.size code builtinsNs env) A outer s H fp []) [] (NdefX.startF N [.ref it] ws) H s2 := by
  have e : (fun y : Str => ((([".0"] : List Str).zip [Value.ref it]).reverse.lookup y)) = fun y : Str => if y = (".0" : Str) then some (.ref it) else none := by
    funext y
    by_cases hy : y = ".0"
    · subst hy
      simp
    · have : (y == (".0" : Str)) = false := by simpa using hy
      simp [List.lookup, this, hy]
  have I0 := NdefX.inv_startN (CX := fun _ _ _ _ _ _ => False) (P := P) (w := w) (K := K) (mg := mg) (base := base) (N := N) (ps := [".0"]) (fr := fr) (F := ⟨"", "", { posonlyargs := [], args := [], vararg := none, kwonlyargs := [], kw_defaults := [], kwarg := none, defaults := [] }, [], { scope with isGenerator := false }, cl, 0⟩) (f := 0) (A := A) (outer := outer) (s := s) (H := H) (E := fun _ _ _ => False) (us := [.ref it]) (vs := [.ref it]) (ws := ws) (h₁ := s2.heap) (tk := s2.toks)
    S.off hd e0 rfl (.cons rfl .nil) C (by rw [e]; exact hns) kp
  exact ⟨⟨I0.ok.mod, S.off.kind, hG, rfl, Nat.le_refl _, C.inj, I0.ok.has, fun _ _ z _ => (nomatch (show false = true from z)), fun _ => hd, Around.frames_deeper e0.frames, .inr ⟨rfl, rfl⟩, fun b z => ⟨(hfp b z).1, (hfp b z).2.1⟩, e0.bs, e0.bsz, fun b o q z => (by
      have q : base.get? b = some o := q
      have := (hfp b z).2.2.2
      rw [q] at this
      cases this), fun b z => (hfp b z).2.2.1, e0.funs, e0.frf⟩,
    os, hb, un_ex I0.base, I0.loc, I0.cell, I0.free, I0.freeC, fun q hq => absurd (show q ∈ ([] : List (Addr × Obj)) ++ [] from hq) (by simp), I0.hok, I0.len⟩
theorem pin_gx {pins : List (Addr × Obj)} {σ : L2.St} {H : Hp} {s1 : Shared} (I : Inv (gx P w K mg base N cenv A outer s0 H0 fp []) [] σ H s1) (h : ∀ p ∈ pn ++ pins, s1.heap.get? p.1 = some p.2 ∧ H p.1 = none ∧ p.1 ≠ cenv.locals ∧ p.1 ∉ frs outer ∧ ∀ v, p.2.data ≠ .cell v) :
    Inv (gx P w K mg base N cenv A outer s0 H0 fp pn) pins σ H s1 :=
  ⟨⟨I.ok.mod, I.ok.kind, I.ok.glob, I.ok.blt, I.ok.above, I.ok.inj, I.ok.has, I.ok.cab, I.ok.hd, I.ok.frames, I.ok.stk, I.ok.exf, I.ok.bs, I.ok.bsz, I.ok.noex, I.ok.exfs, I.ok.funs, I.ok.frf⟩, I.os, I.bare, I.base, I.loc, I.cell, I.free, I.freeC, h, I.hok, I.len⟩
end
/-- the generator that such an expression makes -/
theorem gmade {X : Cx} {pins : List (Addr × Obj)} {σ : L2.St} {H : Hp} {s : Shared} {N fr : List Str} {js : List Nat} {fp : List Addr} {elt iter tg : Expr} {ifs : List Expr} {scope : Scope} {pos : Pos} {it : Addr} {J : It} {tn : Nat → Heap → Prop} {g : TG} {tt : TT} {te : TE} {cont : List V → Hp → Prop} {k : Nat} {code nm qn : Value} {h' : Heap} {tk : Nat}
    (I : Inv X pins σ H s) (S : GSc N fr scope) (C : NdefX.CellsAt (cloFrom X.env.cells scope.names []) fr (js.map (NdefX.slotAt σ)) s.heap H) (hsub : ∀ y c, (cloFrom X.env.cells scope.names []).lookup y = some c → X.env.cells.lookup y = some c)
    (T : Turn X.prog X.w X.K tg J fp it tn) (st : tn 0 s.heap) (f2 : ∀ b ∈ fp, FpOk X pins H b)
    (hns : h'.Ns s.heap.objs.size (fun y => if y = ".0" then some (.ref it) else none)) (kp : ∀ b o, s.heap.get? b = some o → h'.get? b = some o)
    (hg : ∀ (A : Around) (pn : List (Addr × Obj)), Room k (A.deeper (genEnv scope (cloFrom X.env.cells scope.names []) s.heap.objs.size code builtinsNs X.env)) → PG (gx X.prog X.w X.K X.mg X.base N (genEnv scope (cloFrom X.env.cells scope.names []) s.heap.objs.size code builtinsNs X.env) A X.stack s H fp pn) tg g)
    (ht : ∀ (A : Around) (pn : List (Addr × Obj)), Room k (A.deeper (genEnv scope (cloFrom X.env.cells scope.names []) s.heap.objs.size code builtinsNs X.env)) → PTs (gx X.prog X.w X.K X.mg X.base N (genEnv scope (cloFrom X.env.cells scope.names []) s.heap.objs.size code builtinsNs X.env) A X.stack s H fp pn) ifs tt)
    (he : ∀ (A : Around) (pn : List (Addr × Obj)), Room k (A.deeper (genEnv scope (cloFrom X.env.cells scope.names []) s.heap.objs.size code builtinsNs X.env)) → PE (gx X.prog X.w X.K X.mg X.base N (genEnv scope (cloFrom X.env.cells scope.names []) s.heap.objs.size code builtinsNs X.env) A X.stack s H fp pn) elt te)
    (hR : ∃ W : WG, (∃ m, W 0 m [] (NdefX.startF N [.ref it] (js.map (NdefX.slotAt σ))) H) ∧ Steps J g tt te W cont) :
    GMade X.prog X.w (k + 1) X.stack H s fp cont (fun _ _ _ => False) (.ref h'.objs.size)
      { s with gens := s.gens.push (.fresh (.compStart (.GeneratorExp elt [⟨tg, iter, ifs, 0⟩] scope pos) 0 (.ref it) .none (genEnv scope (cloFrom X.env.cells scope.names []) s.heap.objs.size code builtinsNs X.env))), toks := tk, heap := h'.push { cls := .type "generator", data := .fields #[.int s.gens.size 0, nm, qn] } } := by
  have lt1 : s.heap.objs.size < h'.objs.size := hns.lt
  have hgen : ∀ h : Heap, h.get? h'.objs.size = some { cls := .type "generator", data := .fields #[.int s.gens.size 0, nm, qn] } → h.IsGen h'.objs.size s.gens.size := fun h e => ⟨_, nm, qn, e, rfl, rfl, rfl⟩
  generalize hgo : ({ cls := .type "generator", data := .fields #[.int s.gens.size 0, nm, qn] } : Obj) = go at *
  have hgd0 : go.data = .fields #[.int s.gens.size 0, nm, qn] := by rw [← hgo]
  have hpushed : (h'.push go).get? h'.objs.size = some go := by
    subst hgo
    exact Heap.get?_push_size _ rfl
  have lim1 : h'.NoLimit := I.nolimit.keeps kp
  refine ⟨h'.objs.size, s.gens.size, _, rfl, Nat.le_of_lt lt1, ?_, hgen _ hpushed, Array.getElem?_push_size .., rfl, I.bare.push rfl, lim1.keeps fun b o e => Heap.get?_push_of_some _ e, fun b o e => Heap.get?_push_of_some _ (kp b o e), ?_⟩
  · show _ < (h'.push _).objs.size
    rw [Heap.size_push]
    exact Nat.lt_succ_self _
  intro Aw Sx s2 hrw hfr hSx hk2 hSo hos hba
  obtain ⟨W, ⟨m0, w0⟩, hS⟩ := hR
  have e0 := I.env0
  have e0w : Env0 X.prog X.w X.K X.mg X.base Aw X.stack s H := ⟨hfr, e0.mod, e0.bs, e0.bsz, e0.funs, e0.frf, e0.hok, e0.bare⟩
  have kp2 : ∀ b o, s.heap.get? b = some o → s2.heap.get? b = some o := fun b o e => hk2 b o (Heap.get?_push_of_some _ (kp b o e))
  have fplt : ∀ b ∈ fp, b < s.heap.objs.size := fun b hb => by
    obtain ⟨o, e, _⟩ := T.obj _ _ st b hb
    exact Heap.lt_size e
  have fpst : ∀ b ∈ fp, b ∉ frs X.stack := fun b hb hm => by
    obtain ⟨_, f1, f3, _⟩ := f2 b hb
    rcases List.mem_cons.mp (I.stkSub b hm) with z | z
    · exact f1 z
    · exact f3 z
  have fpcl : ∀ b ∈ fp, ∀ x c, (cloFrom X.env.cells scope.names []).lookup x = some c → c ≠ b := fun b hb x c e => (f2 b hb).2.2.2.2.1 x c (hsub x c e)
  have I1 := inv_gx (P := X.prog) (w := X.w) (K := X.K) (mg := X.mg) (base := X.base) (N := N) (A := Aw) (outer := X.stack) (fp := fp) (scope := scope) (it := it) (env := X.env) (code := code) (s := s) (s2 := s2) S hrw.hd e0w C I.ok.glob
    (fun b hb => ⟨Nat.ne_of_lt (fplt b hb), fpcl b hb, fpst b hb, by
      cases q : X.base.get? b with
      | none => rfl
      | some o =>
        rcases (f2 b hb).2.2.2.1 with z | z
        · exact absurd z (I.ok.noex b o q)
        · exact absurd (Nat.lt_of_lt_of_le (Heap.lt_size q) (Nat.le_trans I.ok.bsz z)) (Nat.lt_irrefl _)⟩) (hns.at' fun o e => hk2 _ o (Heap.get?_push_of_some _ e)) kp2 hos hba
  have hSz : h'.objs.size < Sx := by
    have hSx' : (h'.push go).objs.size ≤ Sx := hSx
    rw [Heap.size_push] at hSx'
    exact hSx'
  obtain ⟨cS, heS⟩ := hSo
  have hea : s2.heap.get? h'.objs.size = some go := hk2 _ go hpushed
  have hgd : ∀ v, go.data ≠ .cell v := fun v q => by
    rw [hgd0] at q
    cases q
  have young : ∀ b, h'.objs.size ≤ b → H b = none ∧ b ≠ s.heap.objs.size ∧ b ∉ frs X.stack ∧ s.heap.objs.size ≤ b ∧ ∀ y c, (cloFrom X.env.cells scope.names []).lookup y = some c → c ≠ b := fun b hb => by
    have hb' : s.heap.objs.size ≤ b := Nat.le_trans (Nat.le_of_lt lt1) hb
    refine ⟨I.hok.fresh hb', Nat.ne_of_gt (Nat.lt_of_lt_of_le lt1 hb), fun hm => ?_, hb', fun y c e z => ?_⟩
    · rcases List.mem_cons.mp (I.stkSub b hm) with z | z
      · have := I.lt
        rw [z] at hb'
        exact absurd (Nat.lt_of_lt_of_le this hb') (Nat.lt_irrefl _)
      · exact I.nofs hb' z
    · obtain ⟨_, v, o, ho, _⟩ := C.all y c e
      have := Heap.lt_size ho
      rw [z] at this
      exact absurd (Nat.lt_of_lt_of_le this hb') (Nat.lt_irrefl _)
  have hSne : h'.objs.size ≠ Sx := Nat.ne_of_lt hSz
  have st2 : tn 0 s2.heap := T.keep _ _ _ st fun b _ o e => kp2 b o e
  generalize hce : genEnv scope (cloFrom X.env.cells scope.names []) s.heap.objs.size code builtinsNs X.env = cenv at *
  have hcl : cenv.locals = s.heap.objs.size := by rw [← hce]; rfl
  have hcc : cenv.cells = cloFrom X.env.cells scope.names [] := by rw [← hce]; rfl
  have hcs : cenv.scope = scope := by rw [← hce]; rfl
  have hG : GI (gx X.prog X.w X.K X.mg X.base N cenv Aw X.stack s H fp [(h'.objs.size, go)]) Sx [] [] (NdefX.startF N [.ref it] (js.map (NdefX.slotAt σ))) H s2 := by
    refine ⟨#[], cS, .nil, pin_gx I1 fun p hp => ?_⟩
    rw [hcl]
    rcases List.mem_append.mp hp with z | z
    · rw [List.mem_singleton.mp z]
      obtain ⟨y1, y2, y3, _, _⟩ := young h'.objs.size (Nat.le_refl _)
      exact ⟨hea, y1, y2, y3, hgd⟩
    · rw [List.mem_singleton.mp z]
      obtain ⟨y1, y2, y3, _, _⟩ := young Sx (Nat.le_of_lt hSz)
      exact ⟨heS, y1, y2, y3, fun v q => by cases q⟩
  have hAp : L2.Apart (gx X.prog X.w X.K X.mg X.base N cenv Aw X.stack s H fp [(h'.objs.size, go)]) Sx := by
    obtain ⟨_, y2, _, y4, y5⟩ := young Sx (Nat.le_of_lt hSz)
    refine ⟨y4, ?_, ?_⟩
    · show Sx ≠ cenv.locals
      rw [hcl]
      exact y2
    · show ∀ x c, cenv.cells.lookup x = some c → c ≠ Sx
      rw [hcc]
      exact y5
  have hpn : ∀ p ∈ [(h'.objs.size, go)], p.1 ≠ Sx := fun p hp => by
    rw [List.mem_singleton.mp hp]
    exact hSne
  have hfS : ∀ b ∈ fp, b ≠ Sx := fun b hb => Nat.ne_of_lt (Nat.lt_trans (Nat.lt_trans (fplt b hb) lt1) hSz)
  have hst : ∀ {H' : Hp} {acc : Array Value} {c : Nat}, (∀ b ∈ fp, H' b = none) → ∀ b ∈ fp, FpOk (gx X.prog X.w X.K X.mg X.base N cenv Aw X.stack s H fp [(h'.objs.size, go)]) [(Sx, lstObj acc c)] H' b := fun {H' acc c} hn b hb => by
    refine ⟨hn b hb, ?_, fpst b hb, .inl hb, ?_, fun p hp => ?_⟩
    · show b ≠ cenv.locals
      rw [hcl]
      exact Nat.ne_of_lt (fplt b hb)
    · show ∀ x c, cenv.cells.lookup x = some c → c ≠ b
      rw [hcc]
      exact fpcl b hb
    · rcases List.mem_append.mp hp with z | z
      · rw [List.mem_singleton.mp z]
        exact Nat.ne_of_gt (Nat.lt_trans (fplt b hb) lt1)
      · rw [List.mem_singleton.mp z]
        exact (hfS b hb).symm
  have pinned : ∀ {ip : List (Addr × Obj)} {ys : List V} {s' : Shared} {σ' : L2.St} {H' : Hp}, GI (gx X.prog X.w X.K X.mg X.base N cenv Aw X.stack s H fp [(h'.objs.size, go)]) Sx ip ys σ' H' s' → s'.heap.IsGen h'.objs.size s.gens.size := fun {ip ys s' σ' H'} hI => by
    obtain ⟨acc, cc, _, J⟩ := hI
    exact hgen _ (J.pin (h'.objs.size, go) (List.mem_append_left _ (List.mem_singleton.mpr rfl))).1
  have rm : Room k (Aw.deeper cenv) := hrw.deeper _
  refine seg_first T st2 (seg_imp (fun n s₀ r s1' hR => ?_) (fun n s₀ v s1' kap kap' hkk hY => ?_) sizeLine (seg_turns T (by rw [hcs]; exact S.off.co) hpn hfS hAp hst (hg Aw _ rm) (ht Aw _ rm) (he Aw _ rm) hS m0 0 sizeLine [] s2 s2 _ H (Nat.add_zero _) w0 hG st2 fun b hb => (f2 b hb).1))
  · obtain ⟨hr, ys, σ', H', hn, hI, hQ⟩ := hR
    obtain ⟨a1, _, _, acc, cc, ra, ea⟩ := hI.at
    obtain ⟨_, _, _, J⟩ := hI
    exact .inl ⟨.inr hr, H', ys, acc, cc, J.os, J.bare, J.base, J.hok, a1, ea, ra, by omega, hQ⟩
  · obtain ⟨ys, xx, ip, σ', H', hn, h2, hI, h3⟩ := hY
    obtain ⟨_, _, _, acc, cc, ra, ea⟩ := hI.at
    have hg := pinned hI
    obtain ⟨_, _, _, J⟩ := hI
    have hsz : acc.size = ys.length := by
      have e1 := ra.length
      have e2 : acc.toList.length = acc.size := by simp
      omega
    exact ⟨J.os, J.bare, J.nolimit, hg, ⟨acc, cc, ea, by rw [hsz]; exact hn⟩, fun s' z => hkk _ _ (h3 s' z)⟩
/-- what is read: the table of code objects may grow, then the steps -/
def tGx (P : Addr) (N : List Str) (js : List Nat) (wi : TI) (g : TG) (tt : TT) (te : TE) : TGen := fun σ H cont => wi σ H fun J H1 => GxR.TabG H1 P ∧
  ∀ it H2, GxR.Tabbed P H1 H2 → ∃ W : WG, (∃ m, W 0 m [] (NdefX.startF N [.ref it] (js.map (NdefX.slotAt σ))) H2) ∧ Steps J g tt te W cont
/-- the environment of its code -/
abbrev xenv (scope : Scope) (X : Cx) (s : Shared) (code : Value) : Env := genEnv scope (cloFrom X.env.cells scope.names []) s.heap.objs.size code builtinsNs X.env
/-- the context of its code -/
abbrev xgx (X : Cx) (N : List Str) (scope : Scope) (s : Shared) (code : Value) (A : Around) (H : Hp) (fp : List Addr) (pn : List (Addr × Obj)) : Cx := gx X.prog X.w X.K X.mg X.base N (xenv scope X s code) A X.stack s H fp pn
theorem pgen_gx {X : Cx} {N fr : List Str} {js : List Nat} {elt iter tg : Expr} {ifs : List Expr} {scope : Scope} {pos : Pos} {wi : TI} {g : TG} {tt : TT} {te : TE} {k j : Nat} {c P : Addr}
    (hr : Room j X.A) (hc : X.calm = true) (TB : GxR.TabB X.base X.mg c P) (hcode : X.env.code = .ref c) (S : GSc N fr scope) (hfree : ∀ y ∈ scope.names, y.2 = .free → X.env.scope.names.lookup y.1 = some .cell ∨ X.env.scope.names.lookup y.1 = some .free) (hfr : ∀ y ∈ fr, (y, NameKind.free) ∈ scope.names) (hjs : js.map (fun j => X.N[j]?) = fr.map some)
    (hi : PI X tg iter wi)
    (hg : ∀ (A : Around) (s : Shared) (H : Hp) (code : Value) (fp : List Addr) (pn : List (Addr × Obj)), Room k (A.deeper (xenv scope X s code)) → PG (xgx X N scope s code A H fp pn) tg g)
    (ht : ∀ (A : Around) (s : Shared) (H : Hp) (code : Value) (fp : List Addr) (pn : List (Addr × Obj)), Room k (A.deeper (xenv scope X s code)) → PTs (xgx X N scope s code A H fp pn) ifs tt)
    (he : ∀ (A : Around) (s : Shared) (H : Hp) (code : Value) (fp : List Addr) (pn : List (Addr × Obj)), Room k (A.deeper (xenv scope X s code)) → PE (xgx X N scope s code A H fp pn) elt te)
    (hs : ∀ v, genFold iter X.env v = pure v := by intro _; rfl) :
    PGen X (k + 1) (.GeneratorExp elt [⟨tg, iter, ifs, 0⟩] scope pos) (tGx P N js wi g tt te) (fun _ _ _ => False) := by
  refine ⟨fun pins s σ H cont I h => ?_⟩
  have hcl : closureFor scope X.env = pure (cloFrom X.env.cells scope.names []) := closure_ok fun y hy e => (hfree y hy e).elim (fun z => I.ok.has _ (.inl z)) fun z => I.ok.has _ (.inr z)
  have h0 : scope.names.lookup (".0" : Str) = some NameKind.local := S.off.par _ (List.mem_singleton.mpr rfl)
  refine wpAny_GeneratorExp_make S.off.co hcl S.off.nocell h0 S.off.kind (by have := hr.dp; omega) ?_ hs
  refine thn (hi.run pins s σ H _ I h) fun xv s1 h1 => thn h1 fun itv s2 h2 => ?_
  obtain ⟨it, fp, tn, J, H2, rfl, I2, T, st2, f2, ⟨pts, hP, ht'⟩, rd⟩ := h2
  have hPs : s2.heap.get? P = some { cls := .none, data := .fields pts } := I2.hok P _ hP
  have cd : PySem.W.CodeHd s2.heap c P := TB.code.keeps fun b u e => I2.bk b u e
  have cont2 : ∀ (code : Value) (h3 : Heap) (tk : Nat) (ps' : Array Value), Heap.ExtBut P s2.heap h3 → h3.get? P = some { cls := .none, data := .fields ps' } → (∃ more, ps' = pts ++ more) → TriplesOk ps'.toList →
      wpAny (model X.prog X.w) X.A (builtinsFor X.env.globals X.env.builtins) (fun bi s₄ => ∀ h', h'.Ns s₄.heap.objs.size (fun y => if y = ".0" then some (.ref it) else none) → Heap.SameBut s₄.heap.objs.size (s₄.heap.push { cls := .type "frame", data := .dict #[] }) h' →
        ∃ H1 sc ex, Inv X pins σ H1 sc ∧ ExOk X pins ex ∧ GMade X.prog X.w (k + 1) X.stack H1 sc ex cont (fun _ _ _ => False) (.ref h'.objs.size) { s₄ with
            gens := s₄.gens.push (.fresh (.compStart (.GeneratorExp elt [⟨tg, iter, ifs, 0⟩] scope pos) 0 (.ref it) .none (genEnv scope (cloFrom X.env.cells scope.names []) s₄.heap.objs.size code bi X.env))),
            toks := s₄.toks + 1 + 1 + 1,
            heap := h'.push { cls := .type "generator", data := .fields #[.int s₄.gens.size 0, .str "<genexpr>" (s₄.toks + 1), .str (X.env.qual ++ "<genexpr>") (s₄.toks + 1 + 1)] } }) X.xe { s2 with heap := h3, toks := tk } := by
    intro code h3 tk ps' hx hP3 hmore ht3
    obtain ⟨bm, ob, e1, e2, e3, e4, e5, e6, e7, e8⟩ := TB.bm
    refine wpAny_builtinsFor (m := X.mg) (by rw [I2.ok.glob]; exact (I2.mod.glob.keeps I2.bk).extBut hx TB.gP) e1 e2 (hx _ _ e4 (I2.bk _ _ e5)) e6 e7 e8 ?_
    intro h' hns hsb
    obtain ⟨more, em⟩ := hmore
    have J4 : Inv X pins σ (upd H2 P (.tbl (pts ++ more))) { s2 with heap := h3, toks := tk } :=
      GxR.inv_tab (more := more) (h' := h3) (g' := s2.gens) (d' := s2.drawn) (t' := tk) I2 hP (fun b u hb e => hx b u hb e) (by rw [← em]; exact hP3) I2.bare
    have fpP : ∀ b ∈ fp, b ≠ P := fun b hb z => by
      have := (f2 b hb).1
      rw [z, hP] at this
      cases this
    have f4 : ∀ b ∈ fp, FpOk X pins (upd H2 P (.tbl (pts ++ more))) b := fun b hb => ⟨by rw [upd_ne (fpP b hb)]; exact (f2 b hb).1, (f2 b hb).2⟩
    have st4 : tn 0 h3 := T.keep _ _ _ st2 fun b hb o e => hx b o (fpP b hb) e
    have cp : NdefX.Caps X (cloFrom X.env.cells scope.names []) fr js := NdefX.Caps.made I.ok hfree hfr hjs
    refine ⟨_, _, fp, J4, fun b hb => ⟨(f4 b hb).2.2.2.1, (f4 b hb).2.1, (f4 b hb).2.2.2.2.1, (f4 b hb).2.2.2.2.2⟩, ?_⟩
    refine gmade J4 S (NdefX.cells_of J4 cp) cp.sub T st4 f4 hns (fun b o e => hsb.extBut b o (Nat.ne_of_lt (Heap.lt_size e)) (Heap.get?_push_of_some _ e)) (fun A pn rm => hg A _ _ code fp pn rm) (fun A pn rm => ht A _ _ code fp pn rm) (fun A pn rm => he A _ _ code fp pn rm) ?_
    exact rd it _ ⟨⟨pts ++ more, upd_same, by rw [← em]; exact ht3⟩, fun b hb => upd_ne hb⟩
  refine ⟨I2.nolimit, ?_⟩
  cases hf : codeAmong pos pts.toList with
  | none =>
    refine wpAny_genexprCodeX hcode (cd.code hPs ht') (cd.tab hPs) hf fun c' h' tk hx hge hlt hco' _ htab' _ => ?_
    obtain ⟨o1, vs, f1, tf, fl, tg, inF, tx, tt, op, _, _, _, _, _, _, _, _, _, htr, _⟩ := hco'
    exact cont2 _ h' tk _ hx htab'.2 ⟨_, rfl⟩ htr
  | some cv =>
    refine wpAny_genexprCode_hit hcode (cd.code hPs ht') hf ?_
    exact cont2 cv s2.heap s2.toks pts (Heap.ExtBut.refl _ _) hPs ⟨#[], by simp⟩ ht'
/-- the items of a new generator, in a tuple -/
theorem no_cx {P : Program} {w : World} {outer : List Env} {H : Hp} {s : Shared} {e : Value} {s' : Shared} (h : L2.CX P w outer H s (fun _ _ _ => False) e s') : False := by
  obtain ⟨_, _, _, _, _, _, _, _, _, _, _, _, z⟩ := h
  exact z
theorem collect_new {P : Program} {w : World} {outer : List Env} {H : Hp} {sc s : Shared} {ex : List Addr} {Q : List V → Hp → Prop} {A : Around} {k : Nat} {u : Value} {Q' : List Value → Shared → Prop} {E : Value → Shared → Prop}
    (hh : A.handled = none) (hd : A.depth < recursionLimit) (hrw : Room k A.in1.in1) (hfr : A.frames = some outer) (h : GMade P w k outer H sc ex Q (fun _ _ _ => False) u s)
    (hQ : ∀ (S : Addr) (s' : Shared) (acc : Array Value) (c : Nat) (H' : Hp) (ys : List V), s.heap.objs.size ≤ S → s'.heap.get? S = some (lstObj acc c) → Vals ys acc.toList → ys.length ≤ sizeLine → s'.os = sc.os → AllBare s'.gens → Un (frs outer) ex H H' sc.heap s'.heap → HOk P w H' s'.heap → H' S = none → Q ys H' → Q' acc.toList s') :
    wpAny (model P w) A (collect u) Q' E s := by
  obtain ⟨a, g, c, rfl, ha1, ha2, hg, hgs, hos, hb, hl, hkp, wake⟩ := h
  have hSa : s.heap.objs.size ≠ a := Nat.ne_of_gt ha2
  have hcl : cStatics < s.heap.objs.size := let ⟨_, hn, _⟩ := hl; hn.lt
  have hSc : s.heap.objs.size ≠ cStatics := Nat.ne_of_gt hcl
  have up : ∀ (h : Heap) (f : Obj → Obj), (∀ b o, s.heap.get? b = some o → h.get? b = some o) → ∀ b o, s.heap.get? b = some o → (h.update s.heap.objs.size f).get? b = some o := fun h f q b o e =>
    (Heap.get?_update_other _ _ (Ne.symm (Nat.ne_of_lt (Heap.lt_size e)))).trans (q b o e)
  have gty : ∀ {h : Heap}, (∀ b o, s.heap.get? b = some o → h.get? b = some o) → h.IsGen a g := fun {h} q => hg.keeps q
  unfold collect
  refine wpAny_bind (wpAny_runValue (codeAny_builtin F.entry_proto_collect ?_))
  rw [Around.under_plainId F.plain_proto_collect _]
  show wpAny _ A.in1 (newList [] >>= fun l => again (.builtin "list.__iadd__" ⟨[l, .ref a], []⟩)) _ _ s
  refine wpAny_bind (wpAny_newObj_type ?_)
  refine wpAny_pure ⟨plainId_quiet F.plain_list_iadd _, codeAny_builtin F.entry_list_iadd ?_⟩
  rw [Around.under_plainId F.plain_list_iadd _]
  have k1 : ∀ b o, s.heap.get? b = some o → (s.heap.push { cls := .type "list", data := .seq ([] : List Value).toArray }).get? b = some o := fun b o e => Heap.get?_push_of_some _ e
  show wpAny _ A.in1 (Builtin.List.listExtendWith (.ref s.heap.objs.size) (.ref a) (.ref s.heap.objs.size)) _ _ _
  unfold Builtin.List.listExtendWith
  refine wpAny_bind (wpAny_typeOf (Heap.IsGen.typeIs (s := { s with heap := _ }) (gty k1)) ?_)
  have h1 : Builtin.List.listSameRef (.ref s.heap.objs.size) (.ref a) = false := by simp [Builtin.List.listSameRef, hSa]
  have h2 : (Value.type "generator" == Value.type "list") = false := by decide
  have h3 : (Value.type "generator" == Value.type "tuple") = false := by decide
  simp only [h1, h2, h3, Bool.or_false, Bool.false_eq_true, if_false]
  refine wpAny_bind (wpAny_pyIter_gen (s := { s with heap := _ }) (gty k1) ?_)
  refine wpAny_bind (wpAny_holding ?_)
  unfold Builtin.List.listLengthHint
  refine wpAny_bind (wpAny_specialOf (Heap.IsGen.typeIs (s := { s with heap := _ }) (gty k1)) F.gen_no_len ?_)
  show wpAny _ A.in1 (specialOf (Value.ref a) (Str.ofString "__length_hint__") >>= _) _ _ _
  refine wpAny_bind (wpAny_specialOf (Heap.IsGen.typeIs (s := { s with heap := _ }) (gty k1)) F.gen_no_hint ?_)
  refine wpAny_pure ?_
  show wpAny _ A.in1 (rule "list.extend.makes-room" >>= fun _ => Builtin.List.listTouch (.ref s.heap.objs.size) >>= fun _ =>
    again (.builtin "list.extend.loop" ⟨[.ref s.heap.objs.size, .ref a, .ref s.heap.objs.size], []⟩)) _ _ _
  refine wpAny_bind (wpAny_rule ?_)
  have hS₁ : (s.heap.push { cls := .type "list", data := .seq ([] : List Value).toArray }).get? s.heap.objs.size = some { cls := .type "list", data := .seq ([] : List Value).toArray } := Heap.get?_push_size _ rfl
  refine wpAny_bind ?_
  show wpAny _ A.in1 (updateSeq s.heap.objs.size (·.push .none) >>= fun _ => updateSeq s.heap.objs.size (·.pop)) _ _ _
  refine wpAny_bind (wpAny_updateSeq hS₁ rfl ?_)
  have hS₂ := Heap.get?_update_self (Obj.mapSeq (·.push Value.none)) hS₁ rfl
  refine wpAny_updateSeq hS₂ rfl ?_
  have hS₃ := Heap.get?_update_self (Obj.mapSeq (·.pop)) hS₂ rfl
  have k4 := up _ (Obj.mapSeq (·.pop)) (up _ (Obj.mapSeq (·.push Value.none)) k1)
  refine wpAny_pure ⟨plainId_quiet F.plain_extend_loop _, ?_⟩
  refine drain (P := P) (w := w) (outer := outer) (H := H) (sc := sc) (ex := ex) (Q := Q) (EX := fun _ _ _ => False) (A := A) (g := g) hh hd hSa hSc
    (fun s' acc c H' ys q1 q2 q3 q4 q5 q6 q7 q8 q9 => ?_) (fun e s' hc => (no_cx hc).elim)
    sizeLine _ (gty k4) (hl.keeps k4) ⟨_, hgs, rfl, ?_⟩
  · show wpAny _ A (load s.heap.objs.size >>= _) _ _ s'
    refine wpAny_bind (wpAny_load q1 ?_)
    exact wpAny_pure (hQ _ s' acc c H' ys (Nat.le_refl _) q1 q2 q3 q4 q5 q6 q7 q8 q9)
  · exact wake _ _ _ hrw hfr (Nat.le_refl _) k4 ⟨_, hS₃⟩ hos (allBare_setGen (s := { s with heap := _ }) hb rfl)
theorem code_tuple_new {P : Program} {w : World} {outer : List Env} {H : Hp} {sc s : Shared} {ex : List Addr} {Q : List V → Hp → Prop} {A : Around} {k : Nat} {a : Addr} {Q₁ : Value → Shared → Prop} {E : Value → Shared → Prop}
    (hh : A.handled = none) (hd : A.depth < recursionLimit) (hrw : Room k A.in1.in1.in1) (hfr : A.frames = some outer) (hTI : s.TypeIs (.ref a) "generator") (h : GMade P w k outer H sc ex Q (fun _ _ _ => False) (.ref a) s)
    (hQ : ∀ (S : Addr) (s' : Shared) (acc : Array Value) (c : Nat) (H' : Hp) (ys : List V), s.heap.objs.size ≤ S → s'.heap.get? S = some (lstObj acc c) → Vals ys acc.toList → ys.length ≤ sizeLine → s'.os = sc.os → AllBare s'.gens → Un (frs outer) ex H H' sc.heap s'.heap → HOk P w H' s'.heap → H' S = none → Q ys H' →
      Q₁ (.ref s'.heap.objs.size) { s' with heap := s'.heap.push { cls := .type "tuple", data := .seq acc } }) :
    codeAny (model P w) A (.call (.builtin "tuple.__new__") ⟨[.type "tuple", .ref a], []⟩) (wants Q₁ E) s := by
  refine codeAny_of_tree ?_
  show wpAny _ A.in1 (do checkBuiltinCall "tuple.__new__" ⟨[.type "tuple", .ref a], []⟩; again (.builtin "tuple.__new__" ⟨[.type "tuple", .ref a], []⟩)) _ _ s
  refine wpAny_bind (wpAny_of_eq (F.newCall_tuple_1 _) (wpAny_pure ⟨plainId_quiet F.plain_tuple_new _, codeAny_builtin F.entry_tuple_new ?_⟩))
  rw [Around.under_plainId F.plain_tuple_new _]
  have hsub := sub_tuple_self
  have hinit := init_tuple_lookup
  have hmh := madeHere_tuple
  wp_walk using wpAny_typeOf hTI, collect_new (A := A.in1) hh hd hrw hfr h
  intro S s' acc c H' ys q0 q1 q2 q3 q4 q5 q6 q7 q8 q9
  show wpAny _ _ (Builtin.Tuple.tupleExact acc.toList.toArray >>= fun v => ret v) _ _ _
  unfold Builtin.Tuple.tupleExact
  have hz : acc.toList.toArray.size ≤ sizeLine := by
    have := q2.length
    simp only [Array.toArray_toList]
    have e2 : acc.toList.length = acc.size := by simp
    omega
  refine wpAny_bind (wpAny_newObj_type ?_ hz)
  refine wpAny_pure ?_
  have e : acc.toList.toArray = acc := by simp
  rw [e]
  exact hQ S s' acc c H' ys q0 q1 q2 q3 q4 q5 q6 q7 q8 q9
theorem call_tuple_new {P : Program} {w : World} {outer : List Env} {H : Hp} {sc s : Shared} {ex : List Addr} {Q : List V → Hp → Prop} {A : Around} {k : Nat} {u : Value} {Q' : Value → Shared → Prop} {E : Value → Shared → Prop}
    (hr : Room (k + 3) A) (hfr : A.frames = some outer) (h : GMade P w k outer H sc ex Q (fun _ _ _ => False) u s)
    (hQ : ∀ (S : Addr) (s' : Shared) (acc : Array Value) (c : Nat) (H' : Hp) (ys : List V), s.heap.objs.size ≤ S → s'.heap.get? S = some (lstObj acc c) → Vals ys acc.toList → ys.length ≤ sizeLine → s'.os = sc.os → AllBare s'.gens → Un (frs outer) ex H H' sc.heap s'.heap → HOk P w H' s'.heap → H' S = none → Q ys H' →
      Q' (.ref s'.heap.objs.size) { s' with heap := s'.heap.push { cls := .type "tuple", data := .seq acc } }) :
    wpAny (model P w) A (call (.type "tuple") [u]) Q' E s := by
  have hG := h
  obtain ⟨a, g, c, rfl, ha1, ha2, hg, hgs, hos, hb, hl, hkp, wake⟩ := h
  refine callType_codes (Q₁ := fun obj s₁ => s₁.TypeIs obj "tuple" ∧ Q' obj s₁) F.called_tuple (F.typeCall_tuple_1 _) F.entry_object_init
    (code_tuple_new (A := A.in1) hr.hd (by have := hr.dp; show A.depth < _; omega) ⟨hr.hd, ?_, ?_⟩ hfr hg.typeIs hG fun S s' acc c H' ys q0 q1 q2 q3 q4 q5 q6 q7 q8 q9 => ⟨⟨_, Heap.get?_push_size _ rfl, rfl⟩, hQ S s' acc c H' ys q0 q1 q2 q3 q4 q5 q6 q7 q8 q9⟩) fun obj s₁ h₁ => ?_
  · have := hr.dp
    show A.depth + 3 * k + 5 < _
    omega
  · have := hr.un
    show A.units + 1 + 1 + 1 + 1 + 16 * k + 200 < _
    omega
  · exact ⟨h₁.1, F.args_object_init_2 obj _, object_init_meets F.called_tuple.init.lookup F.called_tuple.made (by decide) P w A.in1 _ s₁ ⟨h₁.1, rfl, h₁.2⟩⟩
section
variable {X : Cx} {k : Nat} {p pos : Pos}
def tTupX (tg : TGen) : TE := fun σ H Q => tg σ H fun out H2 => ∀ p, H2 p = none → Q (.ref p) (upd H2 p (.tup out))
/-- tuple(e for t in it if c) -/
theorem pe_tupX {e : Expr} {tg : TGen} (h : PGen X k e tg (fun _ _ _ => False)) (hr : Room (k + 3) X.A) (hg : Gl X "tuple") (hm : X.mg "tuple" = none) (hv : bootBuiltins "tuple" = some (.type "tuple"))
    (he : starEach [e] X.env = (false, eval e X.env) :: starEach [] X.env := by rfl) : PE X (.Call (.Name "tuple" p) [e] [] pos) (tTupX tg) := by
  refine ⟨fun pins s σ H Q I hq => ?_⟩
  refine wpAny_Call_Name_kw (ld_blt I hg hm hv ?_)
  refine PyProof.Rows.callWith_type1 ?_ he rfl
  rw [he]
  show wpAny _ _ (spliced ((false, eval e X.env) :: backTo pos (starEach [] X.env))) _ _ s
  refine Calls.spliced_cons (thn (h.run pins s σ H _ I hq) fun u s1 ⟨H1, sc, ex, I1, hex, hG⟩ => ?_)
  refine Calls.spliced_nil ?_
  have hsz : sc.heap.objs.size ≤ s1.heap.objs.size := by
    obtain ⟨a, g, c, _, h1, h2, _⟩ := hG
    exact Nat.le_trans h1 (Nat.le_of_lt h2)
  refine call_tuple_new hr I1.ok.frames hG (fun S s' acc c H' ys q0 q1 q2 hl q3 q4 q5 q6 q7 q8 => ?_)
  have J : Inv X pins σ H' s' := I1.call' (ch := ex) q3 q5 q6 q4 hex
  have J2 : Inv X pins σ (upd H' s'.heap.objs.size (.tup ys)) { s' with heap := s'.heap.push { cls := .type "tuple", data := .seq acc } } :=
    J.laid (t' := s'.toks) (fun b o e => Heap.get?_push_of_some _ e) (Nat.le_refl _) (show ObjOk X.prog X.w _ _ _ (.tup ys) from ⟨hl, acc.toList, q2, by simpa using IsTup.new s'.heap acc⟩)
  exact ⟨.ref s'.heap.objs.size, _, J2, rfl, q8 _ (J.hok.fresh (Nat.le_refl _))⟩
end
/-- its steps, by a walk -/
theorem gx_it {J : It} {n : Nat} {G : Hp → Prop} {Y : Nat → Hp → V → Hp → Prop} (w : Walk J n G Y) {g : TG} {tt : TT} {te : TE} {cont : List V → Hp → Prop} {σ0 : L2.St} {H0 : Hp} (Pv : Nat → List V → L2.St → Hp → Prop) (h0 : Pv 0 [] σ0 H0) (hG : ∀ i ys σ H, i ≤ n → Pv i ys σ H → G H)
    (hs : ∀ i x ys σ H H', i < n → Pv i ys σ H → Y i H x H' → g x σ H' fun σ2 H2 => tt σ2 H2 fun b H3 => if b = true then te σ2 H3 fun y H4 => ys.length < sizeLine ∧ Pv (i + 1) (ys ++ [y]) σ2 H4 else Pv (i + 1) ys σ2 H3) (hd : ∀ ys σ H, Pv n ys σ H → cont ys H) :
    ∃ W : WG, (∃ m, W 0 m [] σ0 H0) ∧ Steps J g tt te W cont := by
  refine ⟨fun i m ys σ H => m = n - i ∧ i ≤ n ∧ Pv i ys σ H, ⟨n, by simp, Nat.zero_le _, h0⟩, ?_⟩
  rintro i m ys σ H ⟨rfl, hi, p⟩
  have q := hG i ys σ H hi p
  by_cases hlt : i < n
  · exact .inr ⟨w.goes i H hlt q, Pv (i + 1), fun ys' σ' H' p' => ⟨n - (i + 1), by omega, rfl, hlt, p'⟩, fun x H' y => hs i x ys σ H H' hlt p (w.yields i H x H' hlt q y)⟩
  · have e : i = n := by omega
    subst e
    exact .inl ⟨w.stops H q, hd ys σ H p⟩
end GXW
namespace Mt
open PySem PySem.Spec PyProof.Rows L2
def topS (i : Nat) : Stmt := PySem.Challenge.pw_meantrace_k37_whole_spreads.main.body.getD i (.Pass ⟨0, 0, 0, 0⟩)
abbrev s_make_fraction : Stmt := topS 2
abbrev N_make_fraction : List Str := ["n", "d", "common"]
theorem sc_make_fraction : FnScope N_make_fraction ["n", "d"] (defScope s_make_fraction) := ⟨rfl, rfl, rfl, by decide +kernel, rfl, by decide +kernel, by decide +kernel⟩
abbrev s_sum_of : Stmt := topS 3
abbrev N_sum_of : List Str := ["a", "b"]
theorem sc_sum_of : FnScope N_sum_of ["a", "b"] (defScope s_sum_of) := ⟨rfl, rfl, rfl, by decide +kernel, rfl, by decide +kernel, by decide +kernel⟩
abbrev s_difference_of : Stmt := topS 4
abbrev N_difference_of : List Str := ["a", "b"]
theorem sc_difference_of : FnScope N_difference_of ["a", "b"] (defScope s_difference_of) := ⟨rfl, rfl, rfl, by decide +kernel, rfl, by decide +kernel, by decide +kernel⟩
abbrev s_product_of : Stmt := topS 5
abbrev N_product_of : List Str := ["a", "b"]
theorem sc_product_of : FnScope N_product_of ["a", "b"] (defScope s_product_of) := ⟨rfl, rfl, rfl, by decide +kernel, rfl, by decide +kernel, by decide +kernel⟩
abbrev s_total_of : Stmt := topS 6
abbrev N_total_of : List Str := ["fractions", "total", "fraction"]
theorem sc_total_of : FnScope N_total_of ["fractions"] (defScope s_total_of) := ⟨rfl, rfl, rfl, by decide +kernel, rfl, by decide +kernel, by decide +kernel⟩
abbrev s_tally_of : Stmt := topS 8
abbrev N_tally_of : List Str := ["values", "squares", "worth", "least", "greatest"]
theorem sc_tally_of : FnScope N_tally_of ["values"] (defScope s_tally_of) := ⟨rfl, rfl, rfl, by decide +kernel, rfl, by decide +kernel, by decide +kernel⟩
abbrev s_mean_of : Stmt := topS 9
abbrev N_mean_of : List Str := ["tally", "many", "total"]
theorem sc_mean_of : FnScope N_mean_of ["tally"] (defScope s_mean_of) := ⟨rfl, rfl, rfl, by decide +kernel, rfl, by decide +kernel, by decide +kernel⟩
abbrev s_spread_of : Stmt := topS 10
abbrev N_spread_of : List Str := ["tally", "mean"]
theorem sc_spread_of : FnScope N_spread_of ["tally"] (defScope s_spread_of) := ⟨rfl, rfl, rfl, by decide +kernel, rfl, by decide +kernel, by decide +kernel⟩
abbrev s_batches : Stmt := topS 12
abbrev N_batches : List Str := ["values", "length", "many", "at"]
theorem sc_batches : FnScope N_batches ["values", "length"] (defScope s_batches) := ⟨rfl, rfl, rfl, by decide +kernel, rfl, by decide +kernel, by decide +kernel⟩
abbrev s_spread_within : Stmt := topS 13
abbrev N_spread_within : List Str := ["tallies", "many", "tally"]
theorem sc_spread_within : FnScope N_spread_within ["tallies"] (defScope s_spread_within) := ⟨rfl, rfl, rfl, by decide +kernel, rfl, by decide +kernel, by decide +kernel⟩
abbrev s_spread_between : Stmt := topS 14
abbrev N_spread_between : List Str := ["tallies", "many", "tally", "mean", "parts", "distance"]
theorem sc_spread_between : FnScope N_spread_between ["tallies"] (defScope s_spread_between) := ⟨rfl, rfl, rfl, by decide +kernel, rfl, by decide +kernel, by decide +kernel⟩
abbrev s__law_begin : Stmt := topS 16
abbrev N__law_begin : List Str := ["script", "cell"]
theorem sc__law_begin : FnScope N__law_begin ["script"] (defScope s__law_begin) := ⟨rfl, rfl, rfl, by decide +kernel, rfl, by decide +kernel, by decide +kernel⟩
abbrev s__law_draw : Stmt := topS 17
abbrev N__law_draw : List Str := ["d", "many", "found", "size", "cell"]
theorem sc__law_draw : FnScope N__law_draw ["d", "many"] (defScope s__law_draw) := ⟨rfl, rfl, rfl, by decide +kernel, rfl, by decide +kernel, by decide +kernel⟩
abbrev s__law_rare : Stmt := topS 18
abbrev N__law_rare : List Str := ["d", "many"]
theorem sc__law_rare : FnScope N__law_rare ["d", "many"] (defScope s__law_rare) := ⟨rfl, rfl, rfl, by decide +kernel, rfl, by decide +kernel, by decide +kernel⟩
abbrev s__law_is_int : Stmt := topS 19
abbrev N__law_is_int : List Str := ["thing"]
theorem sc__law_is_int : FnScope N__law_is_int ["thing"] (defScope s__law_is_int) := ⟨rfl, rfl, rfl, by decide +kernel, rfl, by decide +kernel, by decide +kernel⟩
abbrev s__law_is_ints : Stmt := topS 20
abbrev N__law_is_ints : List Str := ["row", "part"]
theorem sc__law_is_ints : FnScope N__law_is_ints ["row"] (defScope s__law_is_ints) := ⟨rfl, rfl, rfl, by decide +kernel, rfl, by decide +kernel, by decide +kernel⟩
abbrev s__law_frac : Stmt := topS 21
abbrev N__law_frac : List Str := ["n", "d", "a", "b", "rest"]
theorem sc__law_frac : FnScope N__law_frac ["n", "d"] (defScope s__law_frac) := ⟨rfl, rfl, rfl, by decide +kernel, rfl, by decide +kernel, by decide +kernel⟩
abbrev s__law_plus : Stmt := topS 22
abbrev N__law_plus : List Str := ["a", "b"]
theorem sc__law_plus : FnScope N__law_plus ["a", "b"] (defScope s__law_plus) := ⟨rfl, rfl, rfl, by decide +kernel, rfl, by decide +kernel, by decide +kernel⟩
abbrev s__law_minus : Stmt := topS 23
abbrev N__law_minus : List Str := ["a", "b"]
theorem sc__law_minus : FnScope N__law_minus ["a", "b"] (defScope s__law_minus) := ⟨rfl, rfl, rfl, by decide +kernel, rfl, by decide +kernel, by decide +kernel⟩
abbrev s__law_times : Stmt := topS 24
abbrev N__law_times : List Str := ["a", "b"]
theorem sc__law_times : FnScope N__law_times ["a", "b"] (defScope s__law_times) := ⟨rfl, rfl, rfl, by decide +kernel, rfl, by decide +kernel, by decide +kernel⟩
abbrev s__law_is_frac : Stmt := topS 25
abbrev N__law_is_frac : List Str := ["thing"]
theorem sc__law_is_frac : FnScope N__law_is_frac ["thing"] (defScope s__law_is_frac) := ⟨rfl, rfl, rfl, by decide +kernel, rfl, by decide +kernel, by decide +kernel⟩
abbrev s__law_line : Stmt := topS 26
abbrev N__law_line : List Str := ["d", "many", "kind", "row", "k"]
theorem sc__law_line : FnScope N__law_line ["d", "many"] (defScope s__law_line) := ⟨rfl, rfl, rfl, by decide +kernel, rfl, by decide +kernel, by decide +kernel⟩
abbrev s__law_tally : Stmt := topS 27
abbrev N__law_tally : List Str := ["row", "total", "squares", "least", "most", "value"]
theorem sc__law_tally : FnScope N__law_tally ["row"] (defScope s__law_tally) := ⟨rfl, rfl, rfl, by decide +kernel, rfl, by decide +kernel, by decide +kernel⟩
abbrev s__law_same : Stmt := topS 28
abbrev N__law_same : List Str := ["told", "due", "part"]
theorem sc__law_same : FnScope N__law_same ["told", "due"] (defScope s__law_same) := ⟨rfl, rfl, rfl, by decide +kernel, rfl, by decide +kernel, by decide +kernel⟩
abbrev s__law_cut : Stmt := topS 29
abbrev N__law_cut : List Str := ["row", "length", "found", "group", "value"]
theorem sc__law_cut : FnScope N__law_cut ["row", "length"] (defScope s__law_cut) := ⟨rfl, rfl, rfl, by decide +kernel, rfl, by decide +kernel, by decide +kernel⟩
abbrev s__law_apart : Stmt := topS 30
abbrev N__law_apart : List Str := ["row", "middle", "found", "value", "far"]
theorem sc__law_apart : FnScope N__law_apart ["row", "middle"] (defScope s__law_apart) := ⟨rfl, rfl, rfl, by decide +kernel, rfl, by decide +kernel, by decide +kernel⟩
abbrev s__law_groups_hold : Stmt := topS 31
abbrev N__law_groups_hold : List Str := ["groups", "row", "group", "middle", "inner", "outer", "own", "far", "value", "tallies", "share", "one", "two"]
theorem sc__law_groups_hold : FnScope N__law_groups_hold ["groups"] (defScope s__law_groups_hold) := ⟨rfl, rfl, rfl, by decide +kernel, rfl, by decide +kernel, by decide +kernel⟩
abbrev s_law : Stmt := topS 32
abbrev N_law : List Str := ["script", "d", "many", "row", "length", "groups", "told", "k", "sizes"]
theorem sc_law : FnScope N_law ["script"] (defScope s_law) := ⟨rfl, rfl, rfl, by decide +kernel, rfl, by decide +kernel, by decide +kernel⟩
structure Txt (K : PySem.W.Frag) (mg : Str → Option Value) : Prop where
  b_int : mg "int" = none
  b_abs : mg "abs" = none
  b_len : mg "len" = none
  b_isinstance : mg "isinstance" = none
  b_bool : mg "bool" = none
  b_tuple : mg "tuple" = none
  b_range : mg "range" = none
  b_sum : mg "sum" = none
  b_min : mg "min" = none
  b_max : mg "max" = none
  b_all : mg "all" = none
  f_gcd : mg "gcd" = some (.builtin "math.gcd")
theorem upd_upd {H : Hp} {p : Addr} {a b : HO} : upd (upd H p a) p b = upd H p b := by
  funext x
  unfold upd
  split <;> rfl
theorem take_map_succ {α β : Type} {f : α → β} {l : List α} {i : Nat} {c : α} (h : l[i]? = some c) : (l.take i).map f ++ [f c] = (l.take (i + 1)).map f := by
  rw [List.take_add_one, h, List.map_append]
  rfl
theorem divW_of {n : Int} (h : 0 < n) (h2 : n < 2 ^ 64) : CDivW 0 n := wide_div h (b := 64) (by omega) (by decide) (by decide)
theorem getV {ns : List Int} {i : Nat} {x : V} (h : (ns.map V.int)[i]? = some x) : ∃ z, x = .int z ∧ ns[i]? = some z := by
  rw [List.getElem?_map] at h
  cases e : ns[i]? with
  | none =>
    rw [e] at h
    cases h
  | some z =>
    rw [e] at h
    exact ⟨z, (Option.some.inj h).symm, rfl⟩
def spBegin (K : PySem.W.Frag) : Sp := fun vs H Q _ => ∃ (a : Addr) (ns : List Int), vs = [.ref a] ∧ SqL K H a (ns.map V.int) ∧ ns.length ≤ 63 ∧ ∀ S D H', Same H H' → H D = none → DrawAt S D H' → Q (.ref D) H'
/-- a text or a list, what it holds -/
def Row (K : PySem.W.Frag) (H : Hp) (v : V) (xs : List V) : Prop := (∃ z : Str, v = .str z ∧ xs = z.cps.toList.map fun c => .str ⟨#[c]⟩) ∨ ∃ p, v = .ref p ∧ SqL K H p xs
def spPick (K : PySem.W.Frag) : Sp := fun vs H Q _ => ∃ (S D : Addr) (r : V) (xs : List V), vs = [.ref D, r] ∧ DrawAt S D H ∧ (∀ H', Go S D H H' → Row K H' r xs) ∧ 0 < xs.length ∧ xs.length ≤ 100000 ∧ ∀ H' x, x ∈ xs → Go S D H H' → Q x H'

theorem same_new {H : Hp} {p : Addr} {o : HO} (h : H p = none) : Same H (upd H p o) := fun b x e => by
  rw [upd_ne (ne_of_none e h)]
  exact e
/-- a change at a place that H does not know -/
theorem same_mut {H H' : Hp} {p : Addr} {o : HO} (s : Same H H') (h : H p = none) : Same H (upd H' p o) := fun b u e => by
  rw [upd_ne (ne_of_none e h)]
  exact s b u e
theorem iteNT {A B : Prop} (h : B) : if (!true) = true then A else B := iteF h
theorem line5 {n : Nat} (h : n ≤ 100000) : n ≤ sizeLine := Nat.le_trans h (by decide)
theorem line6 {n : Nat} (h : n < 100000) : n < sizeLine := Nat.lt_of_lt_of_le h (by decide)
/-! ### fractions -/
abbrev F2 : Type := Int × Int
def gg (n d : Int) : Nat := Nat.gcd n.natAbs d.natAbs
def fr (n d : Int) : F2 := ((if d < 0 then -n else n) / (gg n d : Int), (if d < 0 then -d else d) / (gg n d : Int))
def add2 (a b : F2) : Int × Int := (a.1 * b.2 + b.1 * a.2, a.2 * b.2)
def sub2 (a b : F2) : Int × Int := (a.1 * b.2 - b.1 * a.2, a.2 * b.2)
def mul2 (a b : F2) : Int × Int := (a.1 * b.1, a.2 * b.2)
def div2 (a b : F2) : Int × Int := (a.1 * b.2, a.2 * b.1)
def frp (x : Int × Int) : F2 := fr x.1 x.2
theorem gg_pos {n d : Int} (h : d ≠ 0) : 0 < gg n d := Nat.gcd_pos_of_pos_right _ (Int.natAbs_pos.mpr h)
theorem gg_le {n d : Int} (h : d ≠ 0) : gg n d ≤ d.natAbs := Nat.gcd_le_right _ (Int.natAbs_pos.mpr h)
/-- in lowest terms, the second at least 1 -/
structure Low (x : F2) : Prop where
  pos : 1 ≤ x.2
  co : Nat.gcd x.1.natAbs x.2.natAbs = 1
theorem fr_low {n d : Int} (h : d ≠ 0) : Low (fr n d) := by
  have g0 := gg_pos (n := n) h
  have gd1 : (gg n d : Int) ∣ d := Int.ofNat_dvd_left.mpr (Nat.gcd_dvd_right _ _)
  have gn1 : (gg n d : Int) ∣ n := Int.ofNat_dvd_left.mpr (Nat.gcd_dvd_left _ _)
  have key : ∀ a b : Int, a.natAbs = n.natAbs → b.natAbs = d.natAbs → 0 < b → Low (a / (gg n d : Int), b / (gg n d : Int)) := fun a b ha hb hp => by
    have g1 : (gg n d : Int) ∣ b := Int.ofNat_dvd_left.mpr (by rw [hb]; exact Nat.gcd_dvd_right _ _)
    have g2 : (gg n d : Int) ∣ a := Int.ofNat_dvd_left.mpr (by rw [ha]; exact Nat.gcd_dvd_left _ _)
    refine ⟨?_, ?_⟩
    · have := Int.ediv_pos_of_pos_of_dvd hp (by omega) g1
      show 1 ≤ b / (gg n d : Int)
      omega
    · show Nat.gcd (a / (gg n d : Int)).natAbs (b / (gg n d : Int)).natAbs = 1
      rw [Int.natAbs_ediv_of_dvd g2, Int.natAbs_ediv_of_dvd g1, ha, hb, Int.natAbs_natCast]
      exact Nat.gcd_div_gcd_div_gcd_of_pos_right (Int.natAbs_pos.mpr h)
  unfold fr
  by_cases hd : d < 0
  · rw [if_pos hd, if_pos hd]
    exact key _ _ (Int.natAbs_neg n) (Int.natAbs_neg d) (by omega)
  · rw [if_neg hd, if_neg hd]
    exact key _ _ rfl rfl (by omega)
theorem low_fr {x : F2} (h : Low x) : fr x.1 x.2 = x := by
  have h1 := h.pos
  unfold fr
  rw [if_neg (by omega), if_neg (by omega)]
  have : gg x.1 x.2 = 1 := h.co
  rw [this]
  show (x.1 / 1, x.2 / 1) = x
  rw [Int.ediv_one, Int.ediv_one]
/-- the size: below 2 ^ k both -/
def Sz (k : Nat) (x : Int × Int) : Prop := x.1.natAbs < 2 ^ k ∧ x.2.natAbs < 2 ^ k
theorem div_small (a : Int) (g : Nat) : (a / (g : Int)).natAbs ≤ a.natAbs := Int.natAbs_ediv_le_natAbs a g
theorem fr_sz {k : Nat} {x : Int × Int} (h : Sz k x) : Sz k (frp x) := by
  have key : ∀ (c : Prop) [Decidable c] (a : Int) (g : Nat), ((if c then -a else a) / (g : Int)).natAbs ≤ a.natAbs := fun c _ a g => by
    split
    · exact Nat.le_trans (div_small _ _) (Nat.le_of_eq (Int.natAbs_neg a))
    · exact div_small _ _
  exact ⟨Nat.lt_of_le_of_lt (key _ _ _) h.1, Nat.lt_of_le_of_lt (key _ _ _) h.2⟩
theorem sz_mul {a b : Int} {j k : Nat} (ha : a.natAbs < 2 ^ j) (hb : b.natAbs < 2 ^ k) : (a * b).natAbs < 2 ^ (j + k) := wide_lt ha hb
theorem sz_add {a b : Int} {k : Nat} (ha : a.natAbs < 2 ^ k) (hb : b.natAbs < 2 ^ k) : (a + b).natAbs < 2 ^ (k + 1) := by
  have := Int.natAbs_add_le a b
  rw [Nat.pow_succ]
  omega
theorem sz_sub {a b : Int} {k : Nat} (ha : a.natAbs < 2 ^ k) (hb : b.natAbs < 2 ^ k) : (a - b).natAbs < 2 ^ (k + 1) := by
  have := sz_add ha (b := -b) (by rw [Int.natAbs_neg]; exact hb)
  rw [Int.sub_eq_add_neg]
  exact this
theorem sz_up {x : Int × Int} {j k : Nat} (h : Sz j x) (hl : j ≤ k) : Sz k x :=
  ⟨Nat.lt_of_lt_of_le h.1 (Nat.pow_le_pow_right (by decide) hl), Nat.lt_of_lt_of_le h.2 (Nat.pow_le_pow_right (by decide) hl)⟩
theorem n_up {a : Int} {j k : Nat} (h : a.natAbs < 2 ^ j) (hl : j ≤ k) : a.natAbs < 2 ^ k := Nat.lt_of_lt_of_le h (Nat.pow_le_pow_right (by decide) hl)
theorem add2_sz {a b : F2} {j k : Nat} (ha : Sz j a) (hb : Sz k b) : Sz (j + k + 1) (add2 a b) :=
  ⟨sz_add (sz_mul ha.1 hb.2) (by rw [Nat.add_comm j k]; exact sz_mul hb.1 ha.2), n_up (sz_mul ha.2 hb.2) (Nat.le_succ _)⟩
theorem sub2_sz {a b : F2} {j k : Nat} (ha : Sz j a) (hb : Sz k b) : Sz (j + k + 1) (sub2 a b) :=
  ⟨sz_sub (sz_mul ha.1 hb.2) (by rw [Nat.add_comm j k]; exact sz_mul hb.1 ha.2), n_up (sz_mul ha.2 hb.2) (Nat.le_succ _)⟩
theorem mul2_sz {a b : F2} {j k : Nat} (ha : Sz j a) (hb : Sz k b) : Sz (j + k + 1) (mul2 a b) := ⟨n_up (sz_mul ha.1 hb.1) (Nat.le_succ _), n_up (sz_mul ha.2 hb.2) (Nat.le_succ _)⟩
theorem div2_sz {a b : F2} {j k : Nat} (ha : Sz j a) (hb : Sz k b) : Sz (j + k + 1) (div2 a b) := ⟨n_up (sz_mul ha.1 hb.2) (Nat.le_succ _), n_up (sz_mul ha.2 hb.1) (Nat.le_succ _)⟩
/-- the sum of a row, from the left -/
def tot : List F2 → F2 → F2
  | [], t => t
  | x :: r, t => tot r (frp (add2 t x))
theorem gg_if (n d : Int) : (if d < 0 then -n else n).natAbs.gcd (if d < 0 then -d else d).natAbs = gg n d := by
  unfold gg
  split <;> simp
theorem low0 : Low (0, 1) := ⟨by decide, by decide⟩
theorem sz0 : Sz 1 (0, 1) := ⟨by decide, by decide⟩
theorem low_frp {x : Int × Int} (h : x.2 ≠ 0) : Low (frp x) := fr_low h
theorem add2_ne {a b : F2} (ha : Low a) (hb : Low b) : (add2 a b).2 ≠ 0 := by
  have h1 := ha.pos
  have h2 := hb.pos
  exact Int.ne_of_gt (Int.mul_pos (by omega) (by omega))
theorem tot_ok : ∀ (fs : List F2) (t : F2) {k : Nat}, Low t → Sz k t → (∀ x ∈ fs, Sz 100 x ∧ Low x) → Sz (k + 101 * fs.length) (tot fs t) ∧ Low (tot fs t)
  | [], t, k, h1, h2, _ => ⟨h2, h1⟩
  | x :: r, t, k, h1, h2, h3 => by
    obtain ⟨a, b⟩ := h3 x (List.mem_cons_self)
    have := tot_ok r (frp (add2 t x)) (k := k + 100 + 1) (low_frp (add2_ne h1 b)) (fr_sz (add2_sz h2 a)) (fun y hy => h3 y (List.mem_cons_of_mem _ hy))
    refine ⟨sz_up this.1 ?_, this.2⟩
    rw [List.length_cons]
    omega
theorem tot_snoc (x : F2) : ∀ (l : List F2) (t : F2), tot (l ++ [x]) t = frp (add2 (tot l t) x)
  | [], _ => rfl
  | y :: r, t => tot_snoc x r (frp (add2 t y))
theorem same_l {K : PySem.W.Frag} {H H' : Hp} {a : Addr} {xs : List V} (e : Same H H') (h : SqL K H a xs) : SqL K H' a xs := e.seq h
theorem same_t {K : PySem.W.Frag} {H H' : Hp} {a : Addr} {xs : List V} (e : Same H H') (h : SqT K H a xs) : SqT K H' a xs := by
  rcases h with (h | ⟨o, h⟩) | h
  · exact .inl (.inl (e _ _ h))
  · exact .inl (.inr ⟨o, e _ _ h⟩)
  · exact .inr h
theorem Paired.at {α β : Type} {R : α → β → Prop} : ∀ {xs : List α} {ys : List β} {i : Nat} {x : α}, Paired R xs ys → xs[i]? = some x → ∃ y, ys[i]? = some y ∧ R x y
  | _, _, _, _, .nil, e => by simp at e
  | _, _, 0, _, .cons r _, e => by
    have e : _ = _ := Option.some.inj e
    subst e
    exact ⟨_, rfl, r⟩
  | _, _, i + 1, x, .cons _ t, e => by
    obtain ⟨y, h1, h2⟩ := Paired.at (i := i) (x := x) t (by simpa using e)
    exact ⟨y, by simpa using h1, h2⟩
def dF (x : Int × Int) : PyData := .tuple [.int x.1, .int x.2]
def dFs (l : List (Int × Int)) : PyData := .list (l.map dF)
theorem dF_sh (x : Int × Int) : SeqAt.shaped (dF x) = true := rfl
theorem dFs_lay : ∀ l : List (Int × Int), PyData.canLayAll0 (l.map dF) = true
  | [] => rfl
  | x :: r => by
    show (PyData.canLay0 (dF x) && PyData.canLayAll0 (r.map dF)) = true
    rw [dFs_lay r]
    rfl
theorem dFs_dep : ∀ l : List (Int × Int), PyData.depthAll (l.map dF) ≤ 1
  | [] => Nat.zero_le _
  | x :: r => by
    show max (PyData.depth (dF x)) (PyData.depthAll (r.map dF)) ≤ 1
    have := dFs_dep r
    have e : PyData.depth (dF x) = 1 := rfl
    omega
theorem dFs_sh (l : List (Int × Int)) : SeqAt.shaped (dFs l) = true := by
  unfold SeqAt.shaped
  rw [Bool.and_eq_true]
  refine ⟨dFs_lay l, decide_eq_true ?_⟩
  show PyData.depthAll (l.map dF) + 1 ≤ 64
  have := dFs_dep l
  omega
theorem dFs_eqv (l : List (Int × Int)) : PyData.eqv (dFs l) (dFs l) = true := SeqAt.eqv_refl _ (dFs_lay l)
theorem dF_eqv (x : Int × Int) : PyData.eqv (dF x) (dF x) = true := SeqAt.eqv_refl _ rfl
/-! ### promises -/
def tupF (x : Int × Int) : HO := .tup [.int x.1, .int x.2]
def spFrac : Sp := fun vs H Q _ => ∃ n d : Int, vs = [.int n, .int d] ∧ d ≠ 0 ∧ Sz 4000 (n, d) ∧ ∀ p, H p = none → Q (.ref p) (upd H p (tupF (fr n d)))
def spBin (K : PySem.W.Frag) (op : F2 → F2 → Int × Int) : Sp := fun vs H Q _ => ∃ (p q : Addr) (a b : F2), vs = [.ref p, .ref q] ∧ H p = some (tupF a) ∧ H q = some (tupF b) ∧ Sz 1900 a ∧ Sz 1900 b ∧ (op a b).2 ≠ 0 ∧ ∀ r, H r = none → Q (.ref r) (upd H r (tupF (frp (op a b))))
def spIsInt : Sp := fun vs H Q _ => ∃ i : Int, vs = [.int i] ∧ Q (.bl true) H
def spIsInts (K : PySem.W.Frag) : Sp := fun vs H Q _ => ∃ (p : Addr) (ns : List Int), vs = [.ref p] ∧ H p = some (.tup (ns.map V.int)) ∧ ns.length ≤ 100 ∧ ∀ H', Same H H' → Q (.bl true) H'
def spIsFrac (K : PySem.W.Frag) : Sp := fun vs H Q _ => ∃ (p : Addr) (x : F2), vs = [.ref p] ∧ H p = some (tupF x) ∧ Low x ∧ Sz 4000 x ∧ ∀ H', Same H H' → Q (.bl true) H'
theorem dp_F {K : PySem.W.Frag} {H : Hp} {p : Addr} {x : Int × Int} (h : H p = some (tupF x)) : Dp K H (.ref p) (dF x) := .tup (SqT.of h) (.cons (.int _) (.cons (.int _) .nil))
theorem cut_k (xs : List V) (k : Nat) : cutV xs none (some (k : Int)) = xs.take k := by
  unfold cutV
  rw [HT.sIx_nat, HT.sIx_none]
  show List.take (min k xs.length - 0) (xs.drop 0) = _
  rw [List.drop_zero, Nat.sub_zero, ← List.take_eq_take_min]
theorem cut_3 (xs : List V) : cutV xs none (some 3) = xs.take 3 := cut_k xs 3
theorem all_true {α : Type} (l : List α) : (l.map fun _ => true).all id = true := by
  rw [List.all_map]
  exact List.all_eq_true.mpr fun _ _ => rfl
/-! ### sum, min, max of a tuple of whole numbers, with default= -/
section
variable {X : Cx}
theorem cr_sumT (hc : X.calm = true) : CallR X (.builtin "sum") (fun vs H Q => ∃ (a : Addr) (ns : List Int), vs = [V.ref a] ∧ SqT X.K H a (ns.map V.int) ∧ Q (.int ns.sum) H) := by
  intro pins s σ H vs us Q I r h
  obtain ⟨a, ns, rfl, hs, q⟩ := h
  obtain ⟨its, rv, hl, _⟩ := I.tuple hs
  rw [Vals.ref1 r]
  obtain ⟨xs, e⟩ := rv.ints.allInts.items
  have hn : numsOf (intItems xs).toList = ns := e ▸ rv.ints.numsOf
  rw [nums_intItems] at hn
  rw [e] at hl
  refine PySem.W.ktm_sumG (I.ok.hd hc) hl fun h' tk t' hk => ⟨.int _, H, I.kept hk, ⟨t', rfl⟩, ?_⟩
  rw [preSum_eq, List.take_of_length_le (by simp), hn]
  exact q
theorem al_ints (ns : List Int) : PySem.W.AlikeAll (ns.map PyData.int) := by
  refine ⟨fun x hx y hy => ?_, fun x hx e => ?_⟩
  · obtain ⟨i, _, rfl⟩ := List.mem_map.mp hx
    obtain ⟨j, _, rfl⟩ := List.mem_map.mp hy
    rfl
  · obtain ⟨i, _, rfl⟩ := List.mem_map.mp hx
    cases e
theorem dep_ints : ∀ ns : List Int, PyData.depthAll (ns.map PyData.int) = 0
  | [] => rfl
  | n :: r => by
    show max (PyData.depth (.int n)) (PyData.depthAll (r.map PyData.int)) = 0
    rw [dep_ints r]
    rfl
/-- xs of whole numbers: f of the first and the others, or the default -/
def rExtT (K : PySem.W.Frag) (f : Int → Int → Int) : List V → List V → Hp → VK → Prop := fun vs zs H Q => ∃ (a : Addr) (ns : List Int) (d : V), vs = [.ref a] ∧ zs = [d] ∧ SqT K H a (ns.map V.int) ∧ (ns = [] → Q d H) ∧ ∀ n r, ns = n :: r → Q (.int (r.foldl f n)) H
def rExtL (K : PySem.W.Frag) (f : Int → Int → Int) : List V → List V → Hp → VK → Prop := fun vs zs H Q => ∃ (a : Addr) (ns : List Int) (d : V), vs = [.ref a] ∧ zs = [d] ∧ SqL K H a (ns.map V.int) ∧ (ns = [] → Q d H) ∧ ∀ n r, ns = n :: r → Q (.int (r.foldl f n)) H
theorem cr_minT (hc : X.calm = true) (hu : X.A.units + 64 < cLine) : CallRK X (.builtin "min") [Str.ofString "default"] (rExtT X.K min) := by
  intro pins s σ H vs zs us ws Q I r rz h
  obtain ⟨a, ns, d, rfl, rfl, hs, q0, q⟩ := h
  obtain ⟨its, rv, hl, _⟩ := I.tuple hs
  obtain ⟨w, rfl, rw'⟩ := vals1 rz
  rw [Vals.ref1 r]
  refine PySem.W.min_tuple_default (xs := ns.map PyData.int) (as := []) (I.ok.hd hc) hl (ints_readAll _ rv.ints) (al_ints ns) (by rw [dep_ints]; omega) (fun e h' tk hk => ⟨d, H, I.kept hk, rw', q0 ?_⟩) fun y ys i v h' tk bs e hv rd hk => ?_
  · cases ns with
    | nil => rfl
    | cons n r => cases e
  · cases ns with
    | nil => cases e
    | cons n r =>
      obtain ⟨rfl, rfl⟩ := List.cons.inj (show PyData.int n :: r.map PyData.int = y :: ys from e)
      rw [PySem.W.minD_ints] at rd
      cases rd with
      | int i t => exact ⟨.int _, H, I.kept hk, ⟨t, rfl⟩, q n r rfl⟩
theorem cr_maxT (hc : X.calm = true) (hu : X.A.units + 64 < cLine) : CallRK X (.builtin "max") [Str.ofString "default"] (rExtT X.K max) := by
  intro pins s σ H vs zs us ws Q I r rz h
  obtain ⟨a, ns, d, rfl, rfl, hs, q0, q⟩ := h
  obtain ⟨its, rv, hl, _⟩ := I.tuple hs
  obtain ⟨w, rfl, rw'⟩ := vals1 rz
  rw [Vals.ref1 r]
  refine PySem.W.max_tuple_default (xs := ns.map PyData.int) (as := []) (I.ok.hd hc) hl (ints_readAll _ rv.ints) (al_ints ns) (by rw [dep_ints]; omega) (fun e h' tk hk => ⟨d, H, I.kept hk, rw', q0 ?_⟩) fun y ys i v h' tk bs e hv rd hk => ?_
  · cases ns with
    | nil => rfl
    | cons n r => cases e
  · cases ns with
    | nil => cases e
    | cons n r =>
      obtain ⟨rfl, rfl⟩ := List.cons.inj (show PyData.int n :: r.map PyData.int = y :: ys from e)
      rw [PySem.W.maxD_ints] at rd
      cases rd with
      | int i t => exact ⟨.int _, H, I.kept hk, ⟨t, rfl⟩, q n r rfl⟩
end
/-! ### the reckoning -/
def sq (l : List Int) : Int := (l.map fun v => v * v).sum
def aps (c t : Int) (l : List Int) : Int := (l.map fun v => (c * v - t) * (c * v - t)).sum
theorem aps_eq (c t : Int) : ∀ l : List Int, aps c t l = c * c * sq l - 2 * c * t * l.sum + l.length * (t * t)
  | [] => by simp [sq, aps]
  | v :: r => by
    have := aps_eq c t r
    unfold sq aps at *
    simp only [List.map_cons, List.sum_cons, List.length_cons] at *
    rw [this]
    push_cast
    grind
def len (l : List Int) : Int := (l.length : Int)
/-- the numerator of the error, over the number of integers cubed -/
def nn (l : List Int) : Int := sq l * len l - l.sum * l.sum
def AP (l : List Int) : Int := aps (len l) l.sum l
def Q4 (l : List Int) : Int := len l * len l * len l * len l
theorem AP_eq (l : List Int) : AP l = len l * nn l := by
  unfold AP nn
  rw [aps_eq]
  unfold len
  grind
theorem frv {n d : Int} (h : d ≠ 0) : (fr n d).1 * d = n * (fr n d).2 := by
  have g0 : (gg n d : Int) ≠ 0 := by
    have := Nat.gcd_pos_of_pos_right n.natAbs (Int.natAbs_pos.mpr h)
    show ((Nat.gcd n.natAbs d.natAbs : Nat) : Int) ≠ 0
    omega
  obtain ⟨a, ha⟩ : (gg n d : Int) ∣ n := Int.ofNat_dvd_left.mpr (Nat.gcd_dvd_left _ _)
  obtain ⟨b, hb⟩ : (gg n d : Int) ∣ d := Int.ofNat_dvd_left.mpr (Nat.gcd_dvd_right _ _)
  show ((if d < 0 then -n else n) / (gg n d : Int)) * d = n * ((if d < 0 then -d else d) / (gg n d : Int))
  generalize (gg n d : Int) = g at *
  split
  · rw [show -n = g * -a by rw [ha]; grind, show -d = g * -b by rw [hb]; grind, Int.mul_ediv_cancel_left _ g0, Int.mul_ediv_cancel_left _ g0]
    subst ha hb
    grind
  · rw [show n / g = a by rw [ha, Int.mul_ediv_cancel_left _ g0], show d / g = b by rw [hb, Int.mul_ediv_cancel_left _ g0]]
    subst ha hb
    grind
theorem low_uniq {x y : F2} (hx : Low x) (hy : Low y) (e : x.1 * y.2 = y.1 * x.2) : x = y := by
  obtain ⟨a, b⟩ := x
  obtain ⟨c, d⟩ := y
  have b1 : 1 ≤ b := hx.pos
  have d1 : 1 ≤ d := hy.pos
  have e1 : a.natAbs * d.natAbs = c.natAbs * b.natAbs := by
    rw [← Int.natAbs_mul, ← Int.natAbs_mul]
    exact congrArg Int.natAbs e
  have h1 : b.natAbs ∣ d.natAbs := Nat.Coprime.dvd_of_dvd_mul_left (Nat.Coprime.symm hx.co) ⟨c.natAbs, by rw [e1, Nat.mul_comm]⟩
  have h2 : d.natAbs ∣ b.natAbs := Nat.Coprime.dvd_of_dvd_mul_left (Nat.Coprime.symm hy.co) ⟨a.natAbs, by rw [← e1, Nat.mul_comm]⟩
  have h3 := Nat.dvd_antisymm h1 h2
  have h4 : b = d := by omega
  subst h4
  have h5 : a = c := Int.eq_of_mul_eq_mul_right (by omega) (show a * b = c * b from e)
  rw [h5]
theorem key {s t n u1 u2 m1 m2 q1 q2 x1 x2 : Int} (hn : n ≠ 0) (hu : u2 ≠ 0) (hm : m2 ≠ 0) (hq : q2 ≠ 0) (e1 : u1 * n = s * u2) (e2 : m1 * n = t * m2) (e3 : q1 * (m2 * m2) = m1 * m1 * q2) (e4 : x1 * (u2 * q2) = (u1 * q2 - q1 * u2) * x2) :
    x1 * (n * n * n) = n * (s * n - t * t) * x2 := by
  have c : u2 * q2 * (m2 * m2) ≠ 0 := Int.mul_ne_zero (Int.mul_ne_zero hu hq) (Int.mul_ne_zero hm hm)
  refine Int.eq_of_mul_eq_mul_left c ?_
  calc u2 * q2 * (m2 * m2) * (x1 * (n * n * n)) = (x1 * (u2 * q2)) * (m2 * m2) * (n * n * n) := by grind
    _ = (u1 * q2 - q1 * u2) * x2 * (m2 * m2) * (n * n * n) := by rw [e4]
    _ = x2 * (n * n * n) * (u1 * q2 * (m2 * m2) - q1 * (m2 * m2) * u2) := by grind
    _ = x2 * (n * n * n) * (u1 * q2 * (m2 * m2) - m1 * m1 * q2 * u2) := by rw [e3]
    _ = x2 * n * q2 * ((u1 * n) * n * (m2 * m2) - (m1 * n) * (m1 * n) * u2) := by grind
    _ = x2 * n * q2 * ((s * u2) * n * (m2 * m2) - (t * m2) * (t * m2) * u2) := by rw [e1, e2]
    _ = u2 * q2 * (m2 * m2) * (n * (s * n - t * t) * x2) := by grind
def omin : Option Int → Option Int → Option Int
  | none, b => b
  | a, none => a
  | some a, some b => some (min a b)
def loO : List Int → Option Int
  | [] => none
  | x :: r => omin (some x) (loO r)
theorem omin_assoc (a b c : Option Int) : omin a (omin b c) = omin (omin a b) c := by
  cases a <;> cases b <;> cases c <;> simp [omin]
theorem omin_comm (a b : Option Int) : omin a b = omin b a := by
  cases a <;> cases b <;> simp [omin]
  omega
theorem loO_app : ∀ (a b : List Int), loO (a ++ b) = omin (loO a) (loO b)
  | [], b => by cases h : loO b <;> simp [loO, omin, h]
  | x :: r, b => by
    show omin (some x) (loO (r ++ b)) = _
    rw [loO_app r b, omin_assoc]
    rfl
theorem loO_fold : ∀ (r : List Int) (a : Int), omin (some a) (loO r) = some (r.foldl min a)
  | [], a => rfl
  | x :: r, a => by
    show omin (some a) (omin (some x) (loO r)) = some (r.foldl min (min a x))
    rw [omin_assoc]
    exact loO_fold r (min a x)
def omax : Option Int → Option Int → Option Int
  | none, b => b
  | a, none => a
  | some a, some b => some (max a b)
def hiO : List Int → Option Int
  | [] => none
  | x :: r => omax (some x) (hiO r)
theorem omax_assoc (a b c : Option Int) : omax a (omax b c) = omax (omax a b) c := by
  cases a <;> cases b <;> cases c <;> simp [omax]
theorem omax_comm (a b : Option Int) : omax a b = omax b a := by
  cases a <;> cases b <;> simp [omax]
  omega
theorem hiO_app : ∀ (a b : List Int), hiO (a ++ b) = omax (hiO a) (hiO b)
  | [], b => by cases h : hiO b <;> simp [hiO, omax, h]
  | x :: r, b => by
    show omax (some x) (hiO (r ++ b)) = _
    rw [hiO_app r b, omax_assoc]
    rfl
theorem hiO_fold : ∀ (r : List Int) (a : Int), omax (some a) (hiO r) = some (r.foldl max a)
  | [], a => rfl
  | x :: r, a => by
    show omax (some a) (omax (some x) (hiO r)) = some (r.foldl max (max a x))
    rw [omax_assoc]
    exact hiO_fold r (max a x)

/-! ### tallies -/
def Few (ns : List Int) : Prop := ∀ z ∈ ns, z.natAbs ≤ 2 ^ 40
theorem sum_few : ∀ {ns : List Int}, Few ns → ns.sum.natAbs ≤ ns.length * 2 ^ 40
  | [], _ => by simp
  | z :: r, h => by
    have h1 := h z List.mem_cons_self
    have h2 := sum_few (ns := r) fun x hx => h x (List.mem_cons_of_mem _ hx)
    rw [List.sum_cons, List.length_cons]
    omega
theorem sq_few : ∀ {ns : List Int}, Few ns → (sq ns).natAbs ≤ ns.length * 2 ^ 80
  | [], _ => by simp [sq]
  | z :: r, h => by
    have h1 := h z List.mem_cons_self
    have h2 := sq_few (ns := r) fun x hx => h x (List.mem_cons_of_mem _ hx)
    have h3 : (z * z).natAbs ≤ 2 ^ 40 * 2 ^ 40 := by
      rw [Int.natAbs_mul]
      exact Nat.mul_le_mul h1 h1
    have e : sq (z :: r) = z * z + sq r := rfl
    rw [e, List.length_cons]
    omega
theorem Few.app {a b : List Int} (ha : Few a) (hb : Few b) : Few (a ++ b) := fun z hz => (List.mem_append.mp hz).elim (ha z) (hb z)
theorem Few.take {ns : List Int} (h : Few ns) (i : Nat) : Few (ns.take i) := fun z hz => h z (List.mem_of_mem_take hz)
theorem Few.drop {ns : List Int} (h : Few ns) (i : Nat) : Few (ns.drop i) := fun z hz => h z (List.mem_of_mem_drop hz)
theorem few_nil : Few [] := fun _ h => absurd h List.not_mem_nil
theorem few_add {ns : List Int} {z : Int} (h : Few ns) (hz : z.natAbs ≤ 2 ^ 40) : Few (ns ++ [z]) := fun x hx => by
  rcases List.mem_append.mp hx with h1 | h1
  · exact h x h1
  · rw [List.mem_singleton.mp h1]
    exact hz
def vO : Option Int → V
  | none => .non
  | some i => .int i
def dO : Option Int → PyData
  | none => .none
  | some i => .int i
def tal (l : List Int) : List V := [.int (len l), .int l.sum, .int (sq l), vO (loO l), vO (hiO l)]
def dT (l : List Int) : PyData := .tuple [.int (len l), .int l.sum, .int (sq l), dO (loO l), dO (hiO l)]
theorem dp_O {K : PySem.W.Frag} {H : Hp} (o : Option Int) : Dp K H (vO o) (dO o) := by
  cases o with
  | none => exact .non
  | some i => exact .int i
theorem dp_T {K : PySem.W.Frag} {H : Hp} {p : Addr} {l : List Int} (h : H p = some (.tup (tal l))) : Dp K H (.ref p) (dT l) := .tup (SqT.of h) (.cons (.int _) (.cons (.int _) (.cons (.int _) (.cons (dp_O _) (.cons (dp_O _) .nil)))))
theorem dT_lay (l : List Int) : PyData.canLay0 (dT l) = true := by
  unfold dT
  cases loO l <;> cases hiO l <;> rfl
theorem dT_sh (l : List Int) : SeqAt.shaped (dT l) = true := by
  unfold dT
  cases loO l <;> cases hiO l <;> rfl
theorem dT_eqv (l : List Int) : PyData.eqv (dT l) (dT l) = true := SeqAt.eqv_refl _ (dT_lay l)
theorem len_app (a b : List Int) : len (a ++ b) = len a + len b := by
  unfold len
  rw [List.length_append]
  omega
theorem sum_app (a b : List Int) : (a ++ b).sum = a.sum + b.sum := List.sum_append
theorem sq_app (a b : List Int) : sq (a ++ b) = sq a + sq b := by
  unfold sq
  rw [List.map_append, List.sum_append]
theorem tal_comm (a b : List Int) : tal (a ++ b) = tal (b ++ a) := by
  unfold tal
  rw [len_app, len_app, sum_app, sum_app, sq_app, sq_app, loO_app, loO_app, hiO_app, hiO_app, Int.add_comm (len a), Int.add_comm a.sum, Int.add_comm (sq a), omin_comm, omax_comm]
theorem len_pos {l : List Int} (h : l ≠ []) : 0 < len l := by
  have := List.length_pos_iff.mpr h
  unfold len
  omega
theorem loO_none {l : List Int} (h : loO l = none) : l = [] := by
  cases l with
  | nil => rfl
  | cons x r =>
    have : loO (x :: r) = some (r.foldl min x) := loO_fold r x
    rw [this] at h
    cases h
def mn (l : List Int) : F2 := fr l.sum (len l)
def spr (l : List Int) : F2 := frp (sub2 (fr (sq l) (len l)) (frp (mul2 (mn l) (mn l))))
theorem spr_low {l : List Int} (h : l ≠ []) : Low (spr l) := by
  have h0 := len_pos h
  have a := fr_low (n := sq l) (d := len l) (by omega)
  have b := fr_low (n := l.sum) (d := len l) (by omega)
  have c := low_frp (x := mul2 (mn l) (mn l)) (Int.mul_ne_zero (by have := b.pos; show (fr l.sum (len l)).2 ≠ 0; omega) (by have := b.pos; show (fr l.sum (len l)).2 ≠ 0; omega))
  refine low_frp (Int.mul_ne_zero ?_ ?_)
  · have := a.pos
    omega
  · have := c.pos
    omega
theorem spr_eq {l : List Int} (h : l ≠ []) : spr l = fr (AP l) (len l * len l * len l) := by
  have h0 := len_pos h
  have n0 : len l ≠ 0 := by omega
  have n3 : len l * len l * len l ≠ 0 := Int.mul_ne_zero (Int.mul_ne_zero n0 n0) n0
  have a := fr_low (n := sq l) (d := len l) n0
  have b := fr_low (n := l.sum) (d := len l) n0
  have a1 := a.pos
  have b1 := b.pos
  have m2 : (mul2 (mn l) (mn l)).2 ≠ 0 := Int.mul_ne_zero (by show (fr l.sum (len l)).2 ≠ 0; omega) (by show (fr l.sum (len l)).2 ≠ 0; omega)
  have c := low_frp (x := mul2 (mn l) (mn l)) m2
  have c1 := c.pos
  have s2 : (sub2 (fr (sq l) (len l)) (frp (mul2 (mn l) (mn l)))).2 ≠ 0 := Int.mul_ne_zero (by omega) (by omega)
  refine low_uniq (spr_low h) (fr_low n3) ?_
  have e1 := frv (n := sq l) n0
  have e2 := frv (n := l.sum) n0
  have e3 : (frp (mul2 (mn l) (mn l))).1 * ((mn l).2 * (mn l).2) = (mn l).1 * (mn l).1 * (frp (mul2 (mn l) (mn l))).2 := frv m2
  have e4 : (spr l).1 * ((fr (sq l) (len l)).2 * (frp (mul2 (mn l) (mn l))).2) = ((fr (sq l) (len l)).1 * (frp (mul2 (mn l) (mn l))).2 - (frp (mul2 (mn l) (mn l))).1 * (fr (sq l) (len l)).2) * (spr l).2 := frv s2
  have e5 := key n0 (by omega) (by show (fr l.sum (len l)).2 ≠ 0; omega) (by omega) e1 e2 e3 e4
  have e6 := frv (n := AP l) n3
  refine Int.eq_of_mul_eq_mul_right n3 ?_
  have e8 : len l * (sq l * len l - l.sum * l.sum) = AP l := (AP_eq l).symm
  rw [e8] at e5
  clear e1 e2 e3 e4 e8
  generalize fr (AP l) (len l * len l * len l) = y at *
  generalize spr l = x at *
  generalize len l * len l * len l = n at *
  generalize AP l = p at *
  calc x.1 * y.2 * n = (x.1 * n) * y.2 := by grind
    _ = p * x.2 * y.2 := by rw [e5]
    _ = p * y.2 * x.2 := by grind
    _ = y.1 * n * x.2 := by rw [e6]
    _ = y.1 * x.2 * n := by grind
theorem mn_low {l : List Int} (h : l ≠ []) : Low (mn l) := fr_low (by have := len_pos h; omega)
theorem sz_s {l : List Int} (h : l.length ≤ 200) (hf : Few l) : Sz 60 (l.sum, len l) := by
  have := sum_few hf
  refine ⟨?_, ?_⟩
  · show l.sum.natAbs < 2 ^ 60
    omega
  · show (len l).natAbs < 2 ^ 60
    unfold len
    omega
theorem sz_q {l : List Int} (h : l.length ≤ 200) (hf : Few l) : Sz 100 (sq l, len l) := by
  have := sq_few hf
  refine ⟨?_, ?_⟩
  · show (sq l).natAbs < 2 ^ 100
    omega
  · show (len l).natAbs < 2 ^ 100
    unfold len
    omega
theorem mn_sz {l : List Int} (h : l.length ≤ 200) (hf : Few l) : Sz 60 (mn l) := fr_sz (sz_s h hf)
theorem spr_sz {l : List Int} (h : l.length ≤ 200) (hf : Few l) : Sz 300 (spr l) := fr_sz (sz_up (sub2_sz (fr_sz (sz_q h hf)) (fr_sz (mul2_sz (mn_sz h hf) (mn_sz h hf)))) (by decide))
def spRare : Sp := fun vs H Q _ => ∃ (S D : Addr) (m : Int), vs = [.ref D, .int m] ∧ 0 < m ∧ m < 1000 ∧ DrawAt S D H ∧ ∀ H' b, Go S D H H' → Q (.bl b) H'
def spTally (K : PySem.W.Frag) : Sp := fun vs H Q _ => ∃ (a : Addr) (ns : List Int), vs = [.ref a] ∧ SqT K H a (ns.map V.int) ∧ ns.length ≤ 200 ∧ Few ns ∧ ∀ (H' : Hp) (p : Addr), Same H H' → H' p = some (.tup (tal ns)) → Q (.ref p) H'
def spLTally (K : PySem.W.Frag) : Sp := fun vs H Q _ => ∃ (a : Addr) (ns : List Int), vs = [.ref a] ∧ SqL K H a (ns.map V.int) ∧ ns.length ≤ 200 ∧ Few ns ∧ ∀ (H' : Hp) (p : Addr), Same H H' → H' p = some (.tup (tal ns)) → Q (.ref p) H'
def spMean (K : PySem.W.Frag) : Sp := fun vs H Q _ => ∃ (p : Addr) (xs : List Int), vs = [.ref p] ∧ H p = some (.tup (tal xs)) ∧ xs.length ≤ 200 ∧ Few xs ∧ ∀ H' : Hp, Same H H' → (xs = [] → Q .non H') ∧ ∀ r, xs ≠ [] → H' r = some (tupF (mn xs)) → Q (.ref r) H'
def spSpread (K : PySem.W.Frag) : Sp := fun vs H Q _ => ∃ (p : Addr) (xs : List Int), vs = [.ref p] ∧ H p = some (.tup (tal xs)) ∧ xs.length ≤ 200 ∧ Few xs ∧ ∀ H' : Hp, Same H H' → (xs = [] → Q .non H') ∧ ∀ r, xs ≠ [] → H' r = some (tupF (spr xs)) → Q (.ref r) H'
section
variable {P : Program} {w : World} {K : PySem.W.Frag} {mg : Str → Option Value} {base : Heap}
theorem ok__law_draw (T : Txt K mg) {f : Addr} {fd : FuncData} (F : FnP K "_law_draw" s__law_draw f fd) : FnOk P w K mg base CX0 1 f fd ["d", "many"] spDraw := by
  refine F.ok sc__law_draw (fun vs H Q E h => ?_) (fun cdv A outer s H vs Q E hr h => ?_)
  · obtain ⟨S, D, m, rfl, _⟩ := h
    rfl
  · obtain ⟨S, D, m, rfl, hm, d, q⟩ := h
    obtain ⟨cs, hS⟩ := id d.cells
    obtain ⟨i, r, c, h0, hD⟩ := id d.at_
    have hm0 : 0 < m := hm.1
    refine ⟨_, PSs.nox (pss_cons (ps_if (pt_cmpR op_gt (pe_ix ix_list (pv 0) pe_int (fun _ _ => rfl)) pe_int (nomark _)) (pss_cons (ps_set (i := 2) sc__law_draw.nd rfl (Or.inl rfl) (pe_ix ix_list (pv 0) pe_int (fun _ _ => rfl)))
      (pss_cons (ps_asg (pe_op op_fdivW (pv 2) (pv 1)) (pg_sub (pv 0) pe_int set_list))
      (pss_one (ps_ret (pe_op op_mod (pe_callTy call_int1 (by rfl) T.b_int (by decide +kernel) (pa_cons (pv 2) pa_nil)) (pv 1)))))) pss_nil)
      (pss_cons (ps_set (i := 3) sc__law_draw.nd rfl (Or.inl rfl) pe_int)
      (Evl.pss_cut (ps_if (pt_cmpR op_lt (pe_ix ix_list (pv 0) pe_int (fun _ _ => rfl)) (pe_callB call_len (by rfl) T.b_len (by decide +kernel) (pa_cons (pe_ix ix_list (pv 0) pe_int (fun _ _ => rfl)) pa_nil)) (nomark _)) (pss_cons (ps_set (i := 4) sc__law_draw.nd rfl (Or.inl rfl) (pe_ix ix_list (pe_ix ix_list (pv 0) pe_int (fun _ _ => rfl)) (pe_ix ix_list (pv 0) pe_int (fun _ _ => rfl)) (fun _ _ => rfl)))
      (pss_one (ps_set (i := 3) sc__law_draw.nd rfl (Or.inl rfl) (pe_op op_add (pe_op op_mul pe_int (pe_callB call_abs (by rfl) T.b_abs (by decide +kernel) (pa_cons (pv 4) pa_nil))) (pe_callTy call_int1 (by rfl) T.b_int (by decide +kernel) (pa_cons (pe_cmpR op_lt (pv 4) pe_int (nomark _)) pa_nil)))))) pss_nil)
      (pss_cons (ps_augS (pv 0) pe_int get_list pe_int ip_add set_list)
      (pss_cons (ps_if (pt_cmpR op_ge (pv 3) (pe_op op_mul pe_int (pe_op op_pow pe_int pe_int)) (nomark _)) (pss_cons (ps_set (i := 2) sc__law_draw.nd rfl (Or.inl rfl) (pe_op op_mod (pe_callTy call_int1 (by rfl) T.b_int (by decide +kernel) (pa_cons (pe_op op_fdivW (pv 3) pe_int) pa_nil)) (pe_op op_shl pe_int pe_int)))
      (pss_cons (ps_asg (pe_op op_fdivW (pv 2) (pv 1)) (pg_sub (pv 0) pe_int set_list))
      (pss_one (ps_ret (pe_op op_mod (pe_callTy call_int1 (by rfl) T.b_int (by decide +kernel) (pa_cons (pv 2) pa_nil)) (pv 1)))))) pss_nil)
      (pss_cons (ps_asg (pe_op op_mod (pe_callTy call_int1 (by rfl) T.b_int (by decide +kernel) (pa_cons (pe_op op_add (pe_op op_add (pe_op op_add (pe_op op_mul (pe_ix ix_list (pv 0) pe_int (fun _ _ => rfl)) pe_int) (pe_op op_mul (pe_op op_mod (pe_callTy call_int1 (by rfl) T.b_int (by decide +kernel) (pa_cons (pv 3) pa_nil)) pe_int) pe_int)) (pe_op op_mul (pe_ix ix_list (pv 0) pe_int (fun _ _ => rfl)) pe_int)) pe_int) pa_nil)) pe_int) (pg_sub (pv 0) pe_int set_list))
      (pss_one (ps_ret (pe_op op_mod (pe_callTy call_int1 (by rfl) T.b_int (by decide +kernel) (pa_cons (pe_op op_fdivW (pe_ix ix_list (pv 0) pe_int (fun _ _ => rfl)) pe_int) pa_nil)) (pv 1)))))))))), ?_⟩
    refine ⟨_, rfl, D, _, _, _, rfl, rfl, SqL.of hD, atI_nat (j := 2) rfl, _, _, rfl, rfl, _, rfl, ?_⟩
    refine ite2 (fun e => ?_) (fun e => ?_)
    · refine ⟨_, rfl, D, _, _, _, rfl, rfl, SqL.of hD, atI_nat (j := 2) rfl, ?_⟩
      refine ⟨_, rfl, _, rfl, _, _, rfl, rfl, hm, _, rfl, D, _, _, 2, rfl, rfl, hD, rfl, ?_⟩
      refine ⟨_, rfl, .inl ⟨_, rfl, _, rfl, _, _, rfl, rfl, hm0, ?_⟩⟩
      refine q _ _ (Int.emod_nonneg _ (by omega)) (Int.emod_lt_of_pos _ hm0) ⟨d.set h0, Keep.refl.set⟩
    · refine ⟨fun σ' H' => ∃ (z : Int) (x : Option V), σ' = [some (.ref D), some (.int m), none, some (.int z), x] ∧ H' = H, ?_, ?_⟩
      · refine ⟨_, rfl, D, _, _, _, rfl, rfl, SqL.of hD, atI_nat (j := 1) rfl, ?_⟩
        refine ⟨_, rfl, D, _, _, _, rfl, rfl, SqL.of hD, atI_nat (j := 0) rfl, _, _, rfl, .inl ⟨_, SqL.of hS, rfl⟩, _, _, rfl, rfl, _, rfl, ?_⟩
        refine ite2 (fun e1 => ?_) (fun e1 => ?_)
        · have e2 : i < ((cs.map V.int).length : Int) := of_decide_eq_true e1
          have e3 : i.toNat < (cs.map V.int).length := by omega
          have e4 : i.toNat < cs.length := by rw [List.length_map] at e3; exact e3
          have e5 : (cs.map V.int)[i.toNat]? = some (.int cs[i.toNat]) := by
            rw [List.getElem?_map, List.getElem?_eq_getElem e4]
            rfl
          have e6 : atI (cs.map V.int) i = some (.int cs[i.toNat]) := by
            have := atI_nat (xs := cs.map V.int) e5
            rw [show ((i.toNat : Nat) : Int) = i by omega] at this
            exact this
          refine ⟨_, rfl, D, _, _, _, rfl, rfl, SqL.of hD, atI_nat (j := 0) rfl, ?_⟩
          refine ⟨_, rfl, D, _, _, _, rfl, rfl, SqL.of hD, atI_nat (j := 1) rfl, ?_⟩
          refine ⟨S, _, _, _, rfl, rfl, SqL.of hS, e6, ?_⟩
          refine ⟨_, rfl, _, rfl, _, _, rfl, rfl, .inl ⟨by decide, by decide⟩, ?_⟩
          refine ⟨_, rfl, _, _, rfl, rfl, .inr ⟨_, rfl, _, _, rfl, rfl, ?_⟩⟩
          exact ⟨_, _, rfl, rfl⟩
        · exact ⟨_, _, rfl, rfl⟩
      · rintro σ' H' ⟨z, x, rfl, rfl⟩
        refine ⟨_, rfl, D, _, _, _, rfl, rfl, SqL.of hD, atI_nat (j := 1) rfl, ?_⟩
        refine ⟨_, _, rfl, rfl, D, _, _, 1, rfl, rfl, hD, rfl, ?_⟩
        have hD1 : (upd H' D (.lst [.ref S, .int (i + 1), .int r, .int c])) D = some (.lst [.ref S, .int (i + 1), .int r, .int c]) := upd_same
        have d1 : DrawAt S D (upd H' D (.lst [.ref S, .int (i + 1), .int r, .int c])) := d.set (by omega)
        refine ⟨_, rfl, _, _, rfl, rfl, ⟨by decide, by decide, by decide⟩, _, _, rfl, rfl, .inl ⟨by decide, by decide⟩, _, _, rfl, rfl, _, rfl, ?_⟩
        refine ite2 (fun e1 => ?_) (fun e1 => ?_)
        · refine ⟨_, rfl, _, _, rfl, rfl, ⟨by decide, by decide⟩, .inl ⟨_, rfl, _, _, rfl, rfl, ⟨by decide, by decide, by decide⟩, ?_⟩⟩
          refine ⟨_, _, rfl, rfl, ?_, ?_⟩
          · show (0 : Int) < 1 * 2 ^ (6000 : Int).toNat
            exact Int.mul_pos (by decide) (Int.pow_pos (by decide))
          · refine ⟨_, rfl, _, rfl, _, _, rfl, rfl, hm, _, rfl, D, _, _, 2, rfl, rfl, hD1, rfl, ?_⟩
            refine ⟨_, rfl, .inl ⟨_, rfl, _, rfl, _, _, rfl, rfl, hm0, ?_⟩⟩
            exact q _ _ (Int.emod_nonneg _ (by omega)) (Int.emod_lt_of_pos _ hm0) ⟨d1.set (by omega), Keep.refl.set.set⟩
        · refine ⟨_, rfl, D, _, _, _, rfl, rfl, SqL.of hD1, atI_nat (j := 3) rfl, _, _, rfl, rfl, .inr ⟨by decide, by decide⟩, ?_⟩
          refine ⟨_, rfl, .inl ⟨_, rfl, _, _, rfl, rfl, (by show (0 : Int) < 2147483629; decide), _, _, rfl, rfl, .inr ⟨by decide, by decide⟩, _, _, rfl, rfl, ?_⟩⟩
          refine ⟨_, rfl, D, _, _, _, rfl, rfl, SqL.of hD1, atI_nat (j := 1) rfl, _, _, rfl, rfl, .inr ⟨by decide, by decide⟩, _, _, rfl, rfl, _, _, rfl, rfl, .inl ⟨_, rfl, ?_⟩⟩
          refine ⟨_, _, rfl, rfl, (by show (0 : Int) < 2147483647; decide), _, rfl, D, _, _, 3, rfl, rfl, hD1, rfl, ?_⟩
          refine ⟨_, rfl, D, _, _, _, rfl, rfl, SqL.of upd_same, atI_nat (j := 3) rfl, _, _, rfl, rfl, ⟨by decide, by decide⟩, ?_⟩
          refine .inl ⟨_, rfl, _, rfl, _, _, rfl, rfl, hm0, ?_⟩
          exact q _ _ (Int.emod_nonneg _ (by omega)) (Int.emod_lt_of_pos _ hm0) ⟨d1.set (by omega), Keep.refl.set.set⟩
theorem ok__law_begin (T : Txt K mg) {f : Addr} {fd : FuncData} (F : FnP K "_law_begin" s__law_begin f fd) : FnOk P w K mg base CX0 1 f fd ["script"] (spBegin K) := by
  refine F.ok sc__law_begin (fun vs H Q E h => ?_) (fun cdv A outer s H vs Q E hr h => ?_)
  · obtain ⟨a, ns, rfl, _⟩ := h
    rfl
  · obtain ⟨a, ns, rfl, hS, hlen, q⟩ := h
    refine ⟨_, PSs.nox (pss_one (ps_ret (pe_lst (pa_cons (pe_lc (own := [("cell", 1)]) (g := (gName 1)) (tt := tYes) rfl sc__law_begin.nd (pi_list (pv 0)) (blkOk_by (N := N__law_begin) (sc := defScope s__law_begin) (by decide +kernel)) (fun _ _ _ _ _ => (pg_name (i := 1) sc__law_begin.nd rfl (Or.inl rfl))) (fun _ _ _ _ _ => pts_nil) (fun _ _ _ _ _ => (pe_callTy call_int1 (by rfl) T.b_int (by decide +kernel) (pa_cons (pv 1) pa_nil)))) (pa_cons pe_int (pa_cons pe_int (pa_cons pe_int pa_nil))))))), ?_⟩
    refine ⟨_, rfl, a, rfl, ⟨_, hS⟩, fun L hL => lc_list (xs := ns.map V.int) (fun i H' => H' = upd H L (.lst ((ns.take i).map V.int))) rfl (fun i H' _ e => ?_) ?_ ?_⟩
    · subst e
      exact (show Same H _ from fun b o h => by rw [upd_ne (ne_of_none h hL)]; exact h).seq hS
    · rintro i x H1 hi rfl
      obtain ⟨z, rfl, hz⟩ := getV hi
      refine ⟨rfl, _, rfl, .inl ⟨_, rfl, _, upd_same, ?_, ?_⟩⟩
      · rw [List.length_map, List.length_take]
        exact Nat.lt_of_le_of_lt (Nat.min_le_right _ _) (small1000 (by omega))
      · rw [upd_upd, take_map_succ (f := V.int) hz]
    · rintro H' rfl
      refine ⟨by show 4 ≤ sizeLine; decide, fun D hD => ?_⟩
      have nLD : D ≠ L := fun e => by
        rw [e, upd_same] at hD
        cases hD
      have hD0 : H D = none := by
        rw [upd_ne nLD] at hD
        exact hD
      refine q L D _ (fun b o h => ?_) hD0 ⟨fun e => nLD e.symm, ⟨ns, ?_⟩, ⟨0, 0, 7, by decide, upd_same⟩⟩
      · rw [upd_ne (ne_of_none h hD0), upd_ne (ne_of_none h hL)]
        exact h
      · rw [upd_ne (fun e => nLD e.symm), upd_same]
        rw [List.take_of_length_le (by rw [List.length_map]; exact Nat.le_refl _)]
theorem ok_make_fraction (T : Txt K mg) {f : Addr} {fd : FuncData} (F : FnP K "make_fraction" s_make_fraction f fd) : FnOk P w K mg base CX0 1 f fd ["n", "d"] spFrac := by
  refine F.ok sc_make_fraction (fun vs H Q E h => ?_) (fun cdv A outer s H vs Q E hr h => ?_)
  · obtain ⟨n, d, rfl, _⟩ := h
    rfl
  · obtain ⟨n, d, rfl, hd, hz, q⟩ := h
    refine ⟨_, PSs.nox (Evl.pss_cut (ps_if (pt_cmpR op_lt (pv 1) pe_int (nomark _)) (pss_one (ps_par (i := 0) (j := 1) (by rfl) sc_make_fraction.nd rfl rfl (by decide) rfl rfl (pa_cons (pe_un un_neg (pv 0)) (pa_cons (pe_un un_neg (pv 1)) pa_nil)) (by rfl))) pss_nil)
      (pss_cons (ps_set (i := 2) sc_make_fraction.nd rfl (Or.inl rfl) (pe_callBfun cr_gcd (by rfl) T.f_gcd (pa_cons (pv 0) (pa_cons (pv 1) pa_nil))))
      (pss_one (ps_ret (pe_tup (pa_cons (pe_op op_fdivW (pv 0) (pv 2)) (pa_cons (pe_op op_fdivW (pv 1) (pv 2)) pa_nil))))))), ?_⟩
    have g0 := gg_pos (n := n) hd
    have gl := gg_le (n := n) hd
    have cw : CDivW 0 (gg n d : Int) := wide_div (b := 4000) (by omega) (Nat.lt_of_le_of_lt (by rw [Int.natAbs_natCast]; exact gl) hz.2) (by decide) (by decide)
    refine ⟨fun σ H' => σ = [some (.int (if d < 0 then -n else n)), some (.int (if d < 0 then -d else d)), none] ∧ H' = H, ?_, ?_⟩
    · refine ⟨_, rfl, _, _, rfl, rfl, _, rfl, ?_⟩
      refine ite2 (fun e => ?_) (fun e => ?_)
      · have e1 : d < 0 := of_decide_eq_true e
        rw [if_pos e1, if_pos e1]
        exact ⟨_, rfl, _, rfl, _, rfl, _, rfl, _, _, rfl, rfl, rfl⟩
      · have e1 : ¬ d < 0 := fun z => e (decide_eq_true z)
        rw [if_neg e1, if_neg e1]
        exact ⟨rfl, rfl⟩
    · rintro σ H' ⟨rfl, rfl⟩
      refine ⟨_, rfl, _, rfl, _, _, rfl, ?_⟩
      rw [gg_if]
      refine ⟨_, rfl, _, rfl, _, _, rfl, rfl, cw, _, rfl, _, rfl, _, _, rfl, rfl, cw, by show 2 ≤ sizeLine; decide, fun p hp => ?_⟩
      exact q p hp
theorem ok__law_frac (T : Txt K mg) {f : Addr} {fd : FuncData} (F : FnP K "_law_frac" s__law_frac f fd) : FnOk P w K mg base CX0 1 f fd ["n", "d"] spFrac := by
  refine F.ok sc__law_frac (fun vs H Q E h => ?_) (fun cdv A outer s H vs Q E hr h => ?_)
  · obtain ⟨n, d, rfl, _⟩ := h
    rfl
  · obtain ⟨n, d, rfl, hd, hz, q⟩ := h
    refine ⟨_, PSs.nox (Evl.pss_cut (ps_if (pt_cmpR op_lt (pv 1) pe_int (nomark _)) (pss_cons (ps_set (i := 0) sc__law_frac.nd rfl (Or.inl rfl) (pe_un un_neg (pv 0)))
      (pss_one (ps_set (i := 1) sc__law_frac.nd rfl (Or.inl rfl) (pe_un un_neg (pv 1))))) pss_nil)
      (pss_cons (ps_set (i := 2) sc__law_frac.nd rfl (Or.inl rfl) (pe_callB call_abs (by rfl) T.b_abs (by decide +kernel) (pa_cons (pv 0) pa_nil)))
      (pss_cons (ps_set (i := 3) sc__law_frac.nd rfl (Or.inl rfl) (pv 1))
      (pss_cons (ps_while PassesOwn.never (pt_cmpR op_gt (pv 3) pe_int (nomark _)) (pss_cons (ps_set (i := 4) sc__law_frac.nd rfl (Or.inl rfl) (pe_op op_mod (pe_callTy call_int1 (by rfl) T.b_int (by decide +kernel) (pa_cons (pv 2) pa_nil)) (pv 3)))
      (pss_cons (ps_set (i := 2) sc__law_frac.nd rfl (Or.inl rfl) (pv 3))
      (pss_one (ps_set (i := 3) sc__law_frac.nd rfl (Or.inl rfl) (pv 4))))))
      (pss_one (ps_ret (pe_tup (pa_cons (pe_op op_fdivW (pv 0) (pv 2)) (pa_cons (pe_op op_fdivW (pv 1) (pv 2)) pa_nil))))))))), ?_⟩
    have g0 := gg_pos (n := n) hd
    have gl := gg_le (n := n) hd
    have cw : CDivW 0 (gg n d : Int) := wide_div (b := 4000) (by omega) (Nat.lt_of_le_of_lt (by rw [Int.natAbs_natCast]; exact gl) hz.2) (by decide) (by decide)
    refine ⟨fun σ H' => σ = [some (.int (if d < 0 then -n else n)), some (.int (if d < 0 then -d else d)), none, none, none] ∧ H' = H, ?_, ?_⟩
    · refine ⟨_, rfl, _, _, rfl, rfl, _, rfl, ?_⟩
      refine ite2 (fun e => ?_) (fun e => ?_)
      · have e1 : d < 0 := of_decide_eq_true e
        rw [if_pos e1, if_pos e1]
        exact ⟨_, rfl, _, rfl, _, rfl, _, rfl, rfl, rfl⟩
      · have e1 : ¬ d < 0 := fun z => e (decide_eq_true z)
        rw [if_neg e1, if_neg e1]
        exact ⟨rfl, rfl⟩
    · rintro σ H' ⟨rfl, rfl⟩
      refine ⟨_, rfl, _, rfl, _, rfl, ?_⟩
      have ea : (if (if d < 0 then -n else n) < 0 then -(if d < 0 then -n else n) else (if d < 0 then -n else n)) = ((n.natAbs : Nat) : Int) := by
        split <;> split <;> omega
      have eb : (if d < 0 then -d else d) = ((d.natAbs : Nat) : Int) := by
        split <;> omega
      refine ⟨fun m σ' H1 => ∃ (x y : Nat) (r : Option V), σ' = [some (.int (if d < 0 then -n else n)), some (.int (if d < 0 then -d else d)), some (.int (x : Nat)), some (.int (y : Nat)), r] ∧ y = m ∧ Nat.gcd x y = gg n d ∧ H1 = H', ⟨_, n.natAbs, d.natAbs, none, ?_, rfl, rfl, rfl⟩, ?_⟩
      · rw [← ea, ← eb]
        rfl
      · rintro m σ' H1 ⟨x, y, r, rfl, rfl, hg, rfl⟩
        refine ⟨_, rfl, _, _, rfl, rfl, _, rfl, ?_⟩
        refine ite2 (fun e => ?_) (fun e => ?_)
        · have e1 : (0 : Int) < (y : Int) := of_decide_eq_true e
          have e2 : 0 < y := by omega
          refine ⟨fun σ2 H2 => ∃ r : Option V, σ2 = [some (.int (if d < 0 then -n else n)), some (.int (if d < 0 then -d else d)), some (.int (y : Nat)), some (.int ((x % y : Nat) : Int)), r] ∧ H2 = H1, ?_, ?_⟩
          · rintro σ2 H2 ⟨r, rfl, rfl⟩
            refine ⟨x % y, Nat.mod_lt _ e2, y, x % y, r, rfl, rfl, ?_, rfl⟩
            rw [← hg, Nat.gcd_comm x y, Nat.gcd_rec y x, Nat.gcd_comm]
          · exact ⟨_, rfl, .inl ⟨_, rfl, _, rfl, _, _, rfl, rfl, e1, _, rfl, _, rfl, _, rfl, rfl⟩⟩
        · have e1 : ¬ (0 : Int) < (y : Int) := fun z => e (decide_eq_true z)
          have e2 : y = 0 := by omega
          subst e2
          have e3 : x = gg n d := by rw [← hg, Nat.gcd_zero_right]
          subst e3
          exact ⟨_, rfl, _, rfl, _, _, rfl, rfl, cw, _, rfl, _, rfl, _, _, rfl, rfl, cw, by show 2 ≤ sizeLine; decide, fun p hp => q p hp⟩
theorem ok_difference_of (T : Txt K mg) (D_make_fraction : Kept P w K mg base 1 "make_fraction" ["n", "d"] spFrac) {f : Addr} {fd : FuncData} (F : FnP K "difference_of" s_difference_of f fd) : FnOk P w K mg base CX0 2 f fd ["a", "b"] (spBin K sub2) := by
  refine F.ok sc_difference_of (fun vs H Q E h => ?_) (fun cdv A outer s H vs Q E hr h => ?_)
  · obtain ⟨p, p2, a, b, rfl, _⟩ := h
    rfl
  · obtain ⟨p, p2, a, b, rfl, hp, hp2, za, zb, hne, q⟩ := h
    refine ⟨_, PSs.nox (pss_one (ps_ret (pe_d D_make_fraction (hr.mono (by decide)) (by rfl) (pa_cons (pe_op op_sub (pe_op op_mulW (pe_ix ix_tup (pv 0) pe_int (fun _ _ => rfl)) (pe_ix ix_tup (pv 1) pe_int (fun _ _ => rfl))) (pe_op op_mulW (pe_ix ix_tup (pv 1) pe_int (fun _ _ => rfl)) (pe_ix ix_tup (pv 0) pe_int (fun _ _ => rfl)))) (pa_cons (pe_op op_mulW (pe_ix ix_tup (pv 0) pe_int (fun _ _ => rfl)) (pe_ix ix_tup (pv 1) pe_int (fun _ _ => rfl))) pa_nil))))), ?_⟩
    exact ⟨_, rfl, p, _, _, _, rfl, rfl, SqT.of hp, atI_nat (j := 0) rfl, _, rfl, p2, _, _, _, rfl, rfl, SqT.of hp2, atI_nat (j := 1) rfl, _, _, rfl, rfl, wide_mul za.1 zb.2 (by decide) (by decide) (by decide), _, rfl, p2, _, _, _, rfl, rfl, SqT.of hp2, atI_nat (j := 0) rfl, _, rfl, p, _, _, _, rfl, rfl, SqT.of hp, atI_nat (j := 1) rfl, _, _, rfl, rfl, wide_mul zb.1 za.2 (by decide) (by decide) (by decide), _, _, rfl, rfl, _, rfl, p, _, _, _, rfl, rfl, SqT.of hp, atI_nat (j := 1) rfl, _, rfl, p2, _, _, _, rfl, rfl, SqT.of hp2, atI_nat (j := 1) rfl, _, _, rfl, rfl, wide_mul za.2 zb.2 (by decide) (by decide) (by decide), _, _, rfl, hne, sz_up (sub2_sz za zb) (by decide), q⟩
theorem ok_product_of (T : Txt K mg) (D_make_fraction : Kept P w K mg base 1 "make_fraction" ["n", "d"] spFrac) {f : Addr} {fd : FuncData} (F : FnP K "product_of" s_product_of f fd) : FnOk P w K mg base CX0 2 f fd ["a", "b"] (spBin K mul2) := by
  refine F.ok sc_product_of (fun vs H Q E h => ?_) (fun cdv A outer s H vs Q E hr h => ?_)
  · obtain ⟨p, p2, a, b, rfl, _⟩ := h
    rfl
  · obtain ⟨p, p2, a, b, rfl, hp, hp2, za, zb, hne, q⟩ := h
    refine ⟨_, PSs.nox (pss_one (ps_ret (pe_d D_make_fraction (hr.mono (by decide)) (by rfl) (pa_cons (pe_op op_mulW (pe_ix ix_tup (pv 0) pe_int (fun _ _ => rfl)) (pe_ix ix_tup (pv 1) pe_int (fun _ _ => rfl))) (pa_cons (pe_op op_mulW (pe_ix ix_tup (pv 0) pe_int (fun _ _ => rfl)) (pe_ix ix_tup (pv 1) pe_int (fun _ _ => rfl))) pa_nil))))), ?_⟩
    exact ⟨_, rfl, p, _, _, _, rfl, rfl, SqT.of hp, atI_nat (j := 0) rfl, _, rfl, p2, _, _, _, rfl, rfl, SqT.of hp2, atI_nat (j := 0) rfl, _, _, rfl, rfl, wide_mul za.1 zb.1 (by decide) (by decide) (by decide), _, rfl, p, _, _, _, rfl, rfl, SqT.of hp, atI_nat (j := 1) rfl, _, rfl, p2, _, _, _, rfl, rfl, SqT.of hp2, atI_nat (j := 1) rfl, _, _, rfl, rfl, wide_mul za.2 zb.2 (by decide) (by decide) (by decide), _, _, rfl, hne, sz_up (mul2_sz za zb) (by decide), q⟩
theorem ok_sum_of (T : Txt K mg) (D_make_fraction : Kept P w K mg base 1 "make_fraction" ["n", "d"] spFrac) {f : Addr} {fd : FuncData} (F : FnP K "sum_of" s_sum_of f fd) : FnOk P w K mg base CX0 2 f fd ["a", "b"] (spBin K add2) := by
  refine F.ok sc_sum_of (fun vs H Q E h => ?_) (fun cdv A outer s H vs Q E hr h => ?_)
  · obtain ⟨p, p2, a, b, rfl, _⟩ := h
    rfl
  · obtain ⟨p, p2, a, b, rfl, hp, hp2, za, zb, hne, q⟩ := h
    refine ⟨_, PSs.nox (pss_one (ps_ret (pe_d D_make_fraction (hr.mono (by decide)) (by rfl) (pa_cons (pe_op op_add (pe_op op_mulW (pe_ix ix_tup (pv 0) pe_int (fun _ _ => rfl)) (pe_ix ix_tup (pv 1) pe_int (fun _ _ => rfl))) (pe_op op_mulW (pe_ix ix_tup (pv 1) pe_int (fun _ _ => rfl)) (pe_ix ix_tup (pv 0) pe_int (fun _ _ => rfl)))) (pa_cons (pe_op op_mulW (pe_ix ix_tup (pv 0) pe_int (fun _ _ => rfl)) (pe_ix ix_tup (pv 1) pe_int (fun _ _ => rfl))) pa_nil))))), ?_⟩
    exact ⟨_, rfl, p, _, _, _, rfl, rfl, SqT.of hp, atI_nat (j := 0) rfl, _, rfl, p2, _, _, _, rfl, rfl, SqT.of hp2, atI_nat (j := 1) rfl, _, _, rfl, rfl, wide_mul za.1 zb.2 (by decide) (by decide) (by decide), _, rfl, p2, _, _, _, rfl, rfl, SqT.of hp2, atI_nat (j := 0) rfl, _, rfl, p, _, _, _, rfl, rfl, SqT.of hp, atI_nat (j := 1) rfl, _, _, rfl, rfl, wide_mul zb.1 za.2 (by decide) (by decide) (by decide), _, _, rfl, rfl, _, rfl, p, _, _, _, rfl, rfl, SqT.of hp, atI_nat (j := 1) rfl, _, rfl, p2, _, _, _, rfl, rfl, SqT.of hp2, atI_nat (j := 1) rfl, _, _, rfl, rfl, wide_mul za.2 zb.2 (by decide) (by decide) (by decide), _, _, rfl, hne, sz_up (add2_sz za zb) (by decide), q⟩
theorem ok__law_minus (T : Txt K mg) (D__law_frac : Kept P w K mg base 1 "_law_frac" ["n", "d"] spFrac) {f : Addr} {fd : FuncData} (F : FnP K "_law_minus" s__law_minus f fd) : FnOk P w K mg base CX0 2 f fd ["a", "b"] (spBin K sub2) := by
  refine F.ok sc__law_minus (fun vs H Q E h => ?_) (fun cdv A outer s H vs Q E hr h => ?_)
  · obtain ⟨p, p2, a, b, rfl, _⟩ := h
    rfl
  · obtain ⟨p, p2, a, b, rfl, hp, hp2, za, zb, hne, q⟩ := h
    refine ⟨_, PSs.nox (pss_one (ps_ret (pe_d D__law_frac (hr.mono (by decide)) (by rfl) (pa_cons (pe_op op_sub (pe_op op_mulW (pe_ix ix_tup (pv 0) pe_int (fun _ _ => rfl)) (pe_ix ix_tup (pv 1) pe_int (fun _ _ => rfl))) (pe_op op_mulW (pe_ix ix_tup (pv 1) pe_int (fun _ _ => rfl)) (pe_ix ix_tup (pv 0) pe_int (fun _ _ => rfl)))) (pa_cons (pe_op op_mulW (pe_ix ix_tup (pv 0) pe_int (fun _ _ => rfl)) (pe_ix ix_tup (pv 1) pe_int (fun _ _ => rfl))) pa_nil))))), ?_⟩
    exact ⟨_, rfl, p, _, _, _, rfl, rfl, SqT.of hp, atI_nat (j := 0) rfl, _, rfl, p2, _, _, _, rfl, rfl, SqT.of hp2, atI_nat (j := 1) rfl, _, _, rfl, rfl, wide_mul za.1 zb.2 (by decide) (by decide) (by decide), _, rfl, p2, _, _, _, rfl, rfl, SqT.of hp2, atI_nat (j := 0) rfl, _, rfl, p, _, _, _, rfl, rfl, SqT.of hp, atI_nat (j := 1) rfl, _, _, rfl, rfl, wide_mul zb.1 za.2 (by decide) (by decide) (by decide), _, _, rfl, rfl, _, rfl, p, _, _, _, rfl, rfl, SqT.of hp, atI_nat (j := 1) rfl, _, rfl, p2, _, _, _, rfl, rfl, SqT.of hp2, atI_nat (j := 1) rfl, _, _, rfl, rfl, wide_mul za.2 zb.2 (by decide) (by decide) (by decide), _, _, rfl, hne, sz_up (sub2_sz za zb) (by decide), q⟩
theorem ok__law_plus (T : Txt K mg) (D__law_frac : Kept P w K mg base 1 "_law_frac" ["n", "d"] spFrac) {f : Addr} {fd : FuncData} (F : FnP K "_law_plus" s__law_plus f fd) : FnOk P w K mg base CX0 2 f fd ["a", "b"] (spBin K add2) := by
  refine F.ok sc__law_plus (fun vs H Q E h => ?_) (fun cdv A outer s H vs Q E hr h => ?_)
  · obtain ⟨p, p2, a, b, rfl, _⟩ := h
    rfl
  · obtain ⟨p, p2, a, b, rfl, hp, hp2, za, zb, hne, q⟩ := h
    refine ⟨_, PSs.nox (pss_one (ps_ret (pe_d D__law_frac (hr.mono (by decide)) (by rfl) (pa_cons (pe_op op_add (pe_op op_mulW (pe_ix ix_tup (pv 0) pe_int (fun _ _ => rfl)) (pe_ix ix_tup (pv 1) pe_int (fun _ _ => rfl))) (pe_op op_mulW (pe_ix ix_tup (pv 1) pe_int (fun _ _ => rfl)) (pe_ix ix_tup (pv 0) pe_int (fun _ _ => rfl)))) (pa_cons (pe_op op_mulW (pe_ix ix_tup (pv 0) pe_int (fun _ _ => rfl)) (pe_ix ix_tup (pv 1) pe_int (fun _ _ => rfl))) pa_nil))))), ?_⟩
    exact ⟨_, rfl, p, _, _, _, rfl, rfl, SqT.of hp, atI_nat (j := 0) rfl, _, rfl, p2, _, _, _, rfl, rfl, SqT.of hp2, atI_nat (j := 1) rfl, _, _, rfl, rfl, wide_mul za.1 zb.2 (by decide) (by decide) (by decide), _, rfl, p2, _, _, _, rfl, rfl, SqT.of hp2, atI_nat (j := 0) rfl, _, rfl, p, _, _, _, rfl, rfl, SqT.of hp, atI_nat (j := 1) rfl, _, _, rfl, rfl, wide_mul zb.1 za.2 (by decide) (by decide) (by decide), _, _, rfl, rfl, _, rfl, p, _, _, _, rfl, rfl, SqT.of hp, atI_nat (j := 1) rfl, _, rfl, p2, _, _, _, rfl, rfl, SqT.of hp2, atI_nat (j := 1) rfl, _, _, rfl, rfl, wide_mul za.2 zb.2 (by decide) (by decide) (by decide), _, _, rfl, hne, sz_up (add2_sz za zb) (by decide), q⟩
theorem ok__law_times (T : Txt K mg) (D__law_frac : Kept P w K mg base 1 "_law_frac" ["n", "d"] spFrac) {f : Addr} {fd : FuncData} (F : FnP K "_law_times" s__law_times f fd) : FnOk P w K mg base CX0 2 f fd ["a", "b"] (spBin K mul2) := by
  refine F.ok sc__law_times (fun vs H Q E h => ?_) (fun cdv A outer s H vs Q E hr h => ?_)
  · obtain ⟨p, p2, a, b, rfl, _⟩ := h
    rfl
  · obtain ⟨p, p2, a, b, rfl, hp, hp2, za, zb, hne, q⟩ := h
    refine ⟨_, PSs.nox (pss_one (ps_ret (pe_d D__law_frac (hr.mono (by decide)) (by rfl) (pa_cons (pe_op op_mulW (pe_ix ix_tup (pv 0) pe_int (fun _ _ => rfl)) (pe_ix ix_tup (pv 1) pe_int (fun _ _ => rfl))) (pa_cons (pe_op op_mulW (pe_ix ix_tup (pv 0) pe_int (fun _ _ => rfl)) (pe_ix ix_tup (pv 1) pe_int (fun _ _ => rfl))) pa_nil))))), ?_⟩
    exact ⟨_, rfl, p, _, _, _, rfl, rfl, SqT.of hp, atI_nat (j := 0) rfl, _, rfl, p2, _, _, _, rfl, rfl, SqT.of hp2, atI_nat (j := 0) rfl, _, _, rfl, rfl, wide_mul za.1 zb.1 (by decide) (by decide) (by decide), _, rfl, p, _, _, _, rfl, rfl, SqT.of hp, atI_nat (j := 1) rfl, _, rfl, p2, _, _, _, rfl, rfl, SqT.of hp2, atI_nat (j := 1) rfl, _, _, rfl, rfl, wide_mul za.2 zb.2 (by decide) (by decide) (by decide), _, _, rfl, hne, sz_up (mul2_sz za zb) (by decide), q⟩
theorem ok__law_is_int (T : Txt K mg) {f : Addr} {fd : FuncData} (F : FnP K "_law_is_int" s__law_is_int f fd) : FnOk P w K mg base CX0 1 f fd ["thing"] spIsInt := by
  refine F.ok sc__law_is_int (fun vs H Q E h => ?_) (fun cdv A outer s H vs Q E hr h => ?_)
  · obtain ⟨p, rfl, _⟩ := h
    rfl
  · obtain ⟨i, rfl, q⟩ := h
    refine ⟨_, PSs.nox (pss_one (ps_ret (pe_and (pe_callB call_isi (by rfl) T.b_isinstance (by decide +kernel) (pa_cons (pv 0) (pa_cons (pe_bltn (v := .ty "int") (u := .type "int") (by rfl) T.b_int (by decide +kernel) rfl) pa_nil))) (pe_one (pe_not (pe_callB call_isi (by rfl) T.b_isinstance (by decide +kernel) (pa_cons (pv 0) (pa_cons (pe_bltn (v := .ty "bool") (u := .type "bool") (by rfl) T.b_bool (by decide +kernel) rfl) pa_nil)))))))), ?_⟩
    refine ⟨_, rfl, _, .ty "int", .type "int", .type "int", true, rfl, .ty _, .base (.int _), kit_ty (by decide +kernel), true, rfl, ?_⟩
    exact ⟨_, rfl, _, .ty "bool", .type "int", .type "bool", false, rfl, .ty _, .base (.int _), kit_ty (by decide +kernel), false, rfl, q⟩
theorem ok__law_is_ints (T : Txt K mg) (D__law_is_int : Kept P w K mg base 1 "_law_is_int" ["thing"] spIsInt) {f : Addr} {fd : FuncData} (F : FnP K "_law_is_ints" s__law_is_ints f fd) : FnOk P w K mg base CX0 2 f fd ["row"] (spIsInts K) := by
  refine F.ok sc__law_is_ints (fun vs H Q E h => ?_) (fun cdv A outer s H vs Q E hr h => ?_)
  · obtain ⟨p, ns, rfl, _⟩ := h
    rfl
  · obtain ⟨p, ns, rfl, hp, hl, q⟩ := h
    refine ⟨_, PSs.nox (pss_one (ps_ret (pe_and (pe_callB call_isi (by rfl) T.b_isinstance (by decide +kernel) (pa_cons (pv 0) (pa_cons (pe_bltn (v := .ty "tuple") (u := .type "tuple") (by rfl) T.b_tuple (by decide +kernel) rfl) pa_nil))) (pe_one (pe_callB (cr_all rfl) (by rfl) T.b_all (by decide +kernel) (pa_cons (pe_lc (own := [("part", 1)]) (g := (gName 1)) (tt := tYes) rfl sc__law_is_ints.nd (pi_tup (pv 0)) (blkOk_by (N := N__law_is_ints) (sc := defScope s__law_is_ints) (by decide +kernel)) (fun _ _ _ _ _ => (pg_name (i := 1) sc__law_is_ints.nd rfl (Or.inl rfl))) (fun _ _ _ _ _ => pts_nil) (fun _ _ _ _ _ => (pe_d D__law_is_int (hr.mono (by decide)) (by rfl) (pa_cons (pv 1) pa_nil)))) pa_nil)))))), ?_⟩
    refine ⟨_, rfl, _, .ty "tuple", .type "tuple", .type "tuple", true, rfl, .ty _, .base (.tup hp), kit_ty (by decide +kernel), true, rfl, ?_⟩
    refine ⟨_, rfl, p, rfl, ⟨_, SqT.of hp⟩, fun L hL => lc_tup (K := K) (a := p) (xs := ns.map V.int) (fun i H' => H' = upd H L (.lst ((ns.take i).map fun _ => .bl true))) rfl (fun i H' _ e => ?_) ?_ ?_⟩
    · subst e
      exact same_t (same_new hL) (SqT.of hp)
    · rintro i x H1 hi rfl
      obtain ⟨z, rfl, hz⟩ := getV hi
      refine ⟨rfl, _, rfl, z, rfl, _, upd_same, ?_, ?_⟩
      · rw [List.length_map, List.length_take]
        exact Nat.lt_of_le_of_lt (Nat.min_le_right _ _) (small1000 (by omega))
      · rw [upd_upd, take_map_succ (f := fun _ => V.bl true) hz]
    · rintro H' rfl
      rw [List.take_of_length_le (by rw [List.length_map]; exact Nat.le_refl _)]
      refine ⟨L, ns.map fun _ => true, rfl, SqL.of (by rw [upd_same, List.map_map]; rfl), ?_⟩
      rw [all_true]
      exact q _ (same_new hL)
theorem ok__law_is_frac (T : Txt K mg) (D__law_is_ints : Kept P w K mg base 2 "_law_is_ints" ["row"] (spIsInts K)) (D__law_frac : Kept P w K mg base 1 "_law_frac" ["n", "d"] spFrac) {f : Addr} {fd : FuncData} (F : FnP K "_law_is_frac" s__law_is_frac f fd) : FnOk P w K mg base CX0 3 f fd ["thing"] (spIsFrac K) := by
  refine F.ok sc__law_is_frac (fun vs H Q E h => ?_) (fun cdv A outer s H vs Q E hr h => ?_)
  · obtain ⟨p, x, rfl, _⟩ := h
    rfl
  · obtain ⟨p, x, rfl, hp, hx, hz, q⟩ := h
    refine ⟨_, PSs.nox (pss_cons (ps_if (PW.pt (pw_or (pt_not (pt_val (pe_callB call_isi (by rfl) T.b_isinstance (by decide +kernel) (pa_cons (pv 0) (pa_cons (pe_bltn (v := .ty "tuple") (u := .type "tuple") (by rfl) T.b_tuple (by decide +kernel) rfl) pa_nil))))) (pw_or (pt_cmpR op_ne (pe_callB call_len (by rfl) T.b_len (by decide +kernel) (pa_cons (pv 0) pa_nil)) pe_int (nomark _)) (pw_or1 (pt_not (pt_val (pe_d D__law_is_ints (hr.mono (by decide)) (by rfl) (pa_cons (pv 0) pa_nil)))))))) (pss_one (ps_ret pe_bl)) pss_nil)
      (pss_one (ps_ret (pe_and (pe_cmpR op_ge (pe_ix ix_tup (pv 0) pe_int (fun _ _ => rfl)) pe_int (nomark _)) (pe_one (pe_cmpR (op_eqD (hr.units)) (pe_d D__law_frac (hr.mono (by decide)) (by rfl) (pa_cons (pe_ix ix_tup (pv 0) pe_int (fun _ _ => rfl)) (pa_cons (pe_ix ix_tup (pv 0) pe_int (fun _ _ => rfl)) pa_nil))) (pv 0) (nomark _))))))), ?_⟩
    refine ⟨_, rfl, _, .ty "tuple", .type "tuple", .type "tuple", true, rfl, .ty _, .base (.tup hp), kit_ty (by decide +kernel), true, rfl, ?_⟩
    refine ⟨_, rfl, _, _, rfl, .inr ⟨_, SqT.of hp, rfl⟩, rfl, _, rfl, ?_⟩
    refine iteNS rfl ?_
    refine ⟨_, rfl, p, [x.1, x.2], rfl, hp, (by show 2 ≤ 100; decide), fun H1 s1 => ⟨true, rfl, ?_⟩⟩
    have hp1 := s1 _ _ hp
    refine ⟨_, rfl, p, _, _, _, rfl, rfl, SqT.of hp1, atI_nat (j := 1) rfl, _, _, rfl, rfl, _, rfl, ?_⟩
    refine ite2 (fun _ => ?_) (fun n => absurd (decide_eq_true hx.pos) n)
    refine ⟨_, rfl, p, _, _, _, rfl, rfl, SqT.of hp1, atI_nat (j := 0) rfl, _, rfl, p, _, _, _, rfl, rfl, SqT.of hp1, atI_nat (j := 1) rfl, x.1, x.2, rfl, ?_, hz, fun r hr => ?_⟩
    · have := hx.pos
      omega
    · rw [low_fr hx]
      refine ⟨_, rfl, dF x, dF x, dp_F upd_same, dp_F (same_new hr _ _ hp1), dF_sh x, dF_sh x, ?_⟩
      rw [dF_eqv]
      exact q _ (s1.trans (same_new hr))
end
/-! ### the table of a def's code objects may grow -/
def TS (P : Addr) (H H' : Hp) : Prop := GxR.TabG H' P ∧ ∀ b o, b ≠ P → H b = some o → H' b = some o
section
variable {P p : Addr} {H H1 H2 H' : Hp} {o : HO} {K : PySem.W.Frag}
theorem TS.refl (t : GxR.TabG H P) : TS P H H := ⟨t, fun _ _ _ h => h⟩
theorem TS.trans (a : TS P H H1) (b : TS P H1 H2) : TS P H H2 := ⟨b.1, fun x o n h => b.2 x o n (a.2 x o n h)⟩
theorem TS.of_same (t : GxR.TabG H P) (s : Same H H') : TS P H H' := ⟨let ⟨ps, h, r⟩ := t; ⟨ps, s _ _ h, r⟩, fun b o _ h => s b o h⟩
theorem tab_ne (t : GxR.TabG H P) (h : H p = none) : p ≠ P := fun e => by
  obtain ⟨ps, h1, _⟩ := t
  rw [e, h1] at h
  cases h
theorem TS.new (t : GxR.TabG H P) (h : H p = none) : TS P H (upd H p o) := TS.of_same t (same_new h)
theorem TS.of_tab (t : GxR.Tabbed P H H') : TS P H H' := ⟨t.1, fun b o n h => (t.2 b n).trans h⟩
/-- a change at a place that H does not know -/
theorem TS.mut (t : TS P H H') (h : H p = none) (n : p ≠ P) : TS P H (upd H' p o) := ⟨let ⟨ps, h1, r⟩ := t.1; ⟨ps, by rw [upd_ne n.symm]; exact h1, r⟩, fun b u m e => by
  rw [upd_ne (ne_of_none e h)]
  exact t.2 b u m e⟩
/-- a place that is free behind was free ahead -/
theorem TS.back (t : GxR.TabG H P) (a : TS P H H') (h : H' p = none) : H p = none := by
  cases q : H p with
  | none => rfl
  | some u =>
    rw [a.2 p u (tab_ne a.1 h) q] at h
    cases h
end
section
variable {P : Program} {w : World} {K : PySem.W.Frag} {mg : Str → Option Value} {base : Heap}
theorem okC {x qual : Str} {params : Arguments} {body : List Stmt} {scope : Scope} {dvs : List V} {kws : List (Str × V)} {fd : FuncData} {CX : CXT} {N ps : List Str} {k : Nat} {sp : Sp} {p : He.Defn} (F : FunD K x qual params body scope dvs kws (He.fAd K p) fd) (S : FnScope N ps scope) (len : ∀ vs H Q E, sp vs H Q E → vs.length = ps.length)
    (hbody : ∀ (cdv : Value) (A : Around) (outer : List Env) (s : Shared) (H : Hp) (vs : List V) (Q : VK) (E : XK), cdv = .ref (He.codeOf K p) → Room k (A.deeper (envOfC qual scope s.heap.objs.size (He.fAd K p) cdv)) → sp vs H Q E →
      ∃ t, PSs (cxOf CX P w K mg base N qual scope (He.fAd K p) cdv A outer s H E) body t ∧ t { nx := fun _ H' => Q .non H', rt := Q } (start N vs) H) : FnOk P w K mg base CX (k + 1) (He.fAd K p) fd ps sp := by
  obtain ⟨oc, od, dV, kV, doc, pm, an, cdv, ct, osl, rfl, lk, hcd, _, _⟩ := F.ex
  obtain ⟨c, hc⟩ := He.codeIn_ref hcd
  have e := He.codeOf_eq lk (show _ = Value.ref c from hc)
  exact fn_of lk hcd S len fun A outer s H vs Q E hr hsp => hbody cdv A outer s H vs Q E (by rw [hc, e]) hr hsp
theorem kept_ofC {h : Heap} (X : K.In h) (G : h.Ns mainGlobals mg) {x : Str} {ps : List Str} {st : Stmt} {k : Nat} {sp : Sp}
    (hd : ∃ fd, FnP K x st (He.ga K x) fd) (hg : (He.Fa.glo x).ok K = true)
    (hb : ∀ (kV doc pm : Value) (an : Option Addr) (cdv ct : Value) (us : List Value), us.length = ps.length → bindArgs (PySem.W.fnOf x x (defArgs st) (defBody st) (defScope st) .none kV doc pm an cdv ct) ⟨us, []⟩ = pure (ps.zip us))
    (ok : ∀ fd, FnP K x st (He.fAd K (x, none)) fd → FnOk P w K mg base CX0 k (He.fAd K (x, none)) fd ps sp) : Kept P w K mg base k x ps sp := by
  obtain ⟨fd, F⟩ := hd
  exact ⟨_, fd, ok fd F, He.glo_ok X G hg, F.kp, F.bindsN hb⟩
end
/-! ### fractions over one denominator -/
structure Fr (f : F2) (N : Int) (M : Nat) : Prop where
  low : Low f
  eq : f.1 * (M : Int) = N * f.2
  pos : 0 < M
theorem Fr.of {x : Int × Int} {N : Int} {M : Nat} (h : x.2 ≠ 0) (e : x.1 * (M : Int) = N * x.2) (hM : 0 < M) : Fr (frp x) N M := by
  have h1 := frv (n := x.1) h
  have l := low_frp h
  refine ⟨l, ?_, hM⟩
  have h2 : ((frp x).1 * (M : Int)) * x.2 = (N * (frp x).2) * x.2 := by
    have h3 : (frp x).1 * x.2 = x.1 * (frp x).2 := h1
    grind
  exact Int.eq_of_mul_eq_mul_right h h2
theorem Fr.add {a b : F2} {N1 N2 : Int} {M : Nat} (ha : Fr a N1 M) (hb : Fr b N2 M) : Fr (frp (add2 a b)) (N1 + N2) M := by
  refine Fr.of (add2_ne ha.low hb.low) ?_ ha.pos
  have h1 := ha.eq
  have h2 := hb.eq
  show (a.1 * b.2 + b.1 * a.2) * (M : Int) = (N1 + N2) * (a.2 * b.2)
  grind
theorem mul2_ne {a b : F2} (ha : Low a) (hb : Low b) : (mul2 a b).2 ≠ 0 := add2_ne ha hb
theorem Fr.mul {a b : F2} {N1 N2 : Int} {M1 M2 : Nat} (ha : Fr a N1 M1) (hb : Fr b N2 M2) : Fr (frp (mul2 a b)) (N1 * N2) (M1 * M2) := by
  refine Fr.of (mul2_ne ha.low hb.low) ?_ (Nat.mul_pos ha.pos hb.pos)
  have h1 := ha.eq
  have h2 := hb.eq
  show (a.1 * b.1) * ((M1 * M2 : Nat) : Int) = (N1 * N2) * (a.2 * b.2)
  rw [Int.natCast_mul]
  grind
theorem Fr.zero {M : Nat} (h : 0 < M) : Fr (0, 1) 0 M := ⟨low0, by simp, h⟩
theorem low1 : Low (1, 1) := ⟨by decide, by decide⟩
theorem Fr.one : Fr (1, 1) 1 1 := ⟨low1, rfl, Nat.one_pos⟩
theorem Fr.uniq {a b : F2} {N : Int} {M : Nat} (ha : Fr a N M) (hb : Fr b N M) : a = b := by
  refine low_uniq ha.low hb.low ?_
  have h1 := ha.eq
  have h2 := hb.eq
  have hM : (M : Int) ≠ 0 := by
    have := ha.pos
    omega
  refine Int.eq_of_mul_eq_mul_right hM ?_
  grind
theorem Fr.sz {a : F2} {N : Int} {M k : Nat} (h : Fr a N M) (hN : N.natAbs < 2 ^ k) (hM : M < 2 ^ k) : Sz k a := by
  have e : a.1.natAbs * M = N.natAbs * a.2.natAbs := by
    have := congrArg Int.natAbs h.eq
    rw [Int.natAbs_mul, Int.natAbs_mul, Int.natAbs_natCast] at this
    exact this
  have p := h.low.pos
  have h0 := h.pos
  have h1 : a.2.natAbs ∣ M := Nat.Coprime.dvd_of_dvd_mul_left (Nat.Coprime.symm h.low.co) ⟨N.natAbs, by rw [e, Nat.mul_comm]⟩
  have h2 := Nat.le_of_dvd h0 h1
  refine ⟨?_, by omega⟩
  have h3 : a.1.natAbs * M ≤ N.natAbs * M := by
    rw [e]
    exact Nat.mul_le_mul_left _ h2
  have h4 := Nat.le_of_mul_le_mul_right h3 h0
  omega
end Mt
namespace Mt
open PySem PySem.Spec PyProof.Rows L2
theorem lo_cons (n : Int) (r : List Int) : loO (n :: r) = some (r.foldl min n) := loO_fold r n
theorem hi_cons (n : Int) (r : List Int) : hiO (n :: r) = some (r.foldl max n) := hiO_fold r n
section
variable {P : Program} {w : World} {K : PySem.W.Frag} {mg : Str → Option Value} {base : Heap}
theorem ok__law_rare (T : Txt K mg) (D__law_draw : Kept P w K mg base 1 "_law_draw" ["d", "many"] spDraw) {f : Addr} {fd : FuncData} (F : FnP K "_law_rare" s__law_rare f fd) : FnOk P w K mg base CX0 2 f fd ["d", "many"] spRare := by
  refine F.ok sc__law_rare (fun vs H Q E h => ?_) (fun cdv A outer s H vs Q E hr h => ?_)
  · obtain ⟨S, D, m, rfl, _⟩ := h
    rfl
  · obtain ⟨S, D, m, rfl, m0, m1, d, q⟩ := h
    refine ⟨_, PSs.nox (pss_one (ps_ret (pe_cmpR op_eq (pe_d D__law_draw (hr.mono (by decide)) (by rfl) (pa_cons (pv 0) (pa_cons (pv 1) pa_nil))) (pe_op op_fdivW (pv 1) pe_int) (nomark _)))), ?_⟩
    exact ⟨_, rfl, _, rfl, S, D, m, rfl, divW_of m0 (by omega), d, fun H1 v _ _ g => ⟨_, rfl, _, _, rfl, rfl, ⟨by decide, by decide⟩, rfl, q H1 _ g⟩⟩
theorem ok_tally_of (T : Txt K mg) {f : Addr} {fd : FuncData} (F : FnP K "tally_of" s_tally_of f fd) : FnOk P w K mg base CX0 1 f fd ["values"] (spTally K) := by
  refine F.ok sc_tally_of (fun vs H Q E h => ?_) (fun cdv A outer s H vs Q E hr h => ?_)
  · obtain ⟨a, ns, rfl, _⟩ := h
    rfl
  · obtain ⟨a, ns, rfl, hS, hl, hf, q⟩ := h
    refine ⟨_, PSs.nox (pss_cons (ps_set (i := 1) sc_tally_of.nd rfl (Or.inl rfl) (pe_callB (cr_sum rfl) (by rfl) T.b_sum (by decide +kernel) (pa_cons (pe_lc (own := [("worth", 2)]) (g := (gName 2)) (tt := tYes) rfl sc_tally_of.nd (pi_tup (pv 0)) (blkOk_by (N := N_tally_of) (sc := defScope s_tally_of) (by decide +kernel)) (fun _ _ _ _ _ => (pg_name (i := 2) sc_tally_of.nd rfl (Or.inl rfl))) (fun _ _ _ _ _ => pts_nil) (fun _ _ _ _ _ => (pe_op op_mul (pv 2) (pv 2)))) pa_nil)))
      (pss_cons (ps_set (i := 3) sc_tally_of.nd rfl (Or.inl rfl) (pe_callBK (cr_minT rfl hr.units) (by rfl) T.b_min (by decide +kernel) (pa_cons (pv 0) pa_nil) (pk_cons pe_non pk_nil)))
      (pss_cons (ps_set (i := 4) sc_tally_of.nd rfl (Or.inl rfl) (pe_callBK (cr_maxT rfl hr.units) (by rfl) T.b_max (by decide +kernel) (pa_cons (pv 0) pa_nil) (pk_cons pe_non pk_nil)))
      (pss_one (ps_ret (pe_tup (pa_cons (pe_callB call_len (by rfl) T.b_len (by decide +kernel) (pa_cons (pv 0) pa_nil)) (pa_cons (pe_callB (cr_sumT rfl) (by rfl) T.b_sum (by decide +kernel) (pa_cons (pv 0) pa_nil)) (pa_cons (pv 1) (pa_cons (pv 3) (pa_cons (pv 4) pa_nil))))))))))), ?_⟩
    refine ⟨_, rfl, a, rfl, ⟨_, hS⟩, fun L hL => lc_tup (xs := ns.map V.int) (fun i H' => H' = upd H L (.lst ((ns.take i).map fun z => V.int (z * z)))) rfl (fun i H' _ e => ?_) ?_ ?_⟩
    · subst e
      exact same_t (same_new hL) hS
    · rintro i x H1 hi rfl
      obtain ⟨z, rfl, hz⟩ := getV hi
      have hzf := hf z (List.mem_of_getElem? hz)
      refine ⟨rfl, _, rfl, _, rfl, _, _, rfl, rfl, .inl ⟨by omega, by omega⟩, _, upd_same, ?_, ?_⟩
      · rw [List.length_map, List.length_take]
        exact line6 (by omega)
      · rw [upd_upd, take_map_succ (f := fun z => V.int (z * z)) hz]
    · rintro H' rfl
      rw [List.length_map, List.take_length]
      have s1 := same_new (o := .lst (ns.map fun z => V.int (z * z))) hL
      have hS1 := same_t s1 hS
      refine ⟨L, ns.map fun z => z * z, rfl, SqL.of (by rw [List.map_map]; exact upd_same), ?_⟩
      refine ⟨_, rfl, a, ns, .non, rfl, rfl, hS1, fun e => ?_, fun n r e => ?_⟩
      · refine ⟨_, rfl, a, ns, .non, rfl, rfl, hS1, fun _ => ?_, fun n r e2 => (by rw [e] at e2; cases e2)⟩
        exact ⟨_, rfl, _, _, rfl, .inr ⟨_, hS1, rfl⟩, _, rfl, a, ns, rfl, hS1, _, rfl, _, rfl, _, rfl, by show 5 ≤ sizeLine; decide, fun p hp => q _ p (s1.trans (same_new hp)) (by rw [upd_same, List.length_map, e]; rfl)⟩
      · refine ⟨_, rfl, a, ns, .non, rfl, rfl, hS1, fun e2 => (by rw [e] at e2; cases e2), fun n2 r2 e2 => ?_⟩
        obtain ⟨rfl, rfl⟩ := List.cons.inj (e.symm.trans e2)
        exact ⟨_, rfl, _, _, rfl, .inr ⟨_, hS1, rfl⟩, _, rfl, a, ns, rfl, hS1, _, rfl, _, rfl, _, rfl, by show 5 ≤ sizeLine; decide, fun p hp => q _ p (s1.trans (same_new hp)) (by rw [upd_same, List.length_map]; unfold tal; rw [e, lo_cons, hi_cons]; rfl)⟩
theorem ok__law_tally (T : Txt K mg) {f : Addr} {fd : FuncData} (F : FnP K "_law_tally" s__law_tally f fd) : FnOk P w K mg base CX0 1 f fd ["row"] (spLTally K) := by
  refine F.ok sc__law_tally (fun vs H Q E h => ?_) (fun cdv A outer s H vs Q E hr h => ?_)
  · obtain ⟨a, ns, rfl, _⟩ := h
    rfl
  · obtain ⟨a, ns, rfl, hS, hl, hf, q⟩ := h
    refine ⟨_, PSs.nox (pss_cons (ps_if (pt_cmpR op_eq (pe_callB call_len (by rfl) T.b_len (by decide +kernel) (pa_cons (pv 0) pa_nil)) pe_int (nomark _)) (pss_one (ps_ret (pe_tup (pa_cons pe_int (pa_cons pe_int (pa_cons pe_int (pa_cons pe_non (pa_cons pe_non pa_nil)))))))) pss_nil)
      (pss_cons (ps_set (i := 1) sc__law_tally.nd rfl (Or.inl rfl) pe_int)
      (pss_cons (ps_set (i := 2) sc__law_tally.nd rfl (Or.inl rfl) pe_int)
      (pss_cons (ps_set (i := 3) sc__law_tally.nd rfl (Or.inl rfl) (pe_ix ix_list (pv 0) pe_int (fun _ _ => rfl)))
      (pss_cons (ps_set (i := 4) sc__law_tally.nd rfl (Or.inl rfl) (pe_ix ix_list (pv 0) pe_int (fun _ _ => rfl)))
      (pss_cons (ps_for PassesOwn.never rfl (pi_list (pv 0)) (pg_name (i := 5) sc__law_tally.nd rfl (Or.inl rfl)) (pss_cons (ps_set (i := 1) sc__law_tally.nd rfl (Or.inl rfl) (pe_op op_add (pv 1) (pv 5)))
      (pss_cons (ps_set (i := 2) sc__law_tally.nd rfl (Or.inl rfl) (pe_op op_add (pv 2) (pe_op op_mul (pv 5) (pv 5))))
      (Evl.pss_cut (ps_if (pt_cmpR op_lt (pv 5) (pv 3) (nomark _)) (pss_one (ps_set (i := 3) sc__law_tally.nd rfl (Or.inl rfl) (pv 5))) pss_nil)
      (pss_one (ps_if (pt_cmpR op_gt (pv 5) (pv 4) (nomark _)) (pss_one (ps_set (i := 4) sc__law_tally.nd rfl (Or.inl rfl) (pv 5))) pss_nil))))))
      (pss_one (ps_ret (pe_tup (pa_cons (pe_callB call_len (by rfl) T.b_len (by decide +kernel) (pa_cons (pv 0) pa_nil)) (pa_cons (pv 1) (pa_cons (pv 2) (pa_cons (pv 3) (pa_cons (pv 4) pa_nil)))))))))))))), ?_⟩
    refine ⟨_, rfl, _, _, rfl, .inl ⟨_, hS, rfl⟩, rfl, _, rfl, ?_⟩
    rw [List.length_map]
    refine ite2 (fun e => ?_) (fun e => ?_)
    · have e0 : ns = [] := by
        have := of_decide_eq_true e
        injection this with h
        exact List.eq_nil_of_length_eq_zero (by omega)
      subst e0
      exact ⟨by show 5 ≤ sizeLine; decide, fun p hp => q _ p (same_new hp) upd_same⟩
    · cases ns with
      | nil => exact absurd rfl e
      | cons n r =>
        refine ⟨_, rfl, a, _, _, _, rfl, rfl, hS, atI_nat (j := 0) rfl, _, rfl, a, _, _, _, rfl, rfl, hS, atI_nat (j := 0) rfl, ?_⟩
        refine ⟨_, rfl, a, rfl, ⟨_, hS⟩, for_list (K := K) (a := a) (xs := (n :: r).map V.int) (fun i σ H' => ∃ (y : Option V), σ = [some (.ref a), some (.int ((n :: r).take i).sum), some (.int (sq ((n :: r).take i))), some (.int (((n :: r).take i).foldl min n)), some (.int (((n :: r).take i).foldl max n)), y] ∧ H' = H) ⟨none, rfl, rfl⟩ (fun i σ H' _ ⟨_, _, e⟩ => e ▸ hS) ?_ ?_⟩
        · rintro i x σ H' hi ⟨y, rfl, rfl⟩
          obtain ⟨z, rfl, hz⟩ := getV hi
          have hzf := hf z (List.mem_of_getElem? hz)
          have et : (n :: r).take (i + 1) = (n :: r).take i ++ [z] := by
            rw [List.take_add_one, hz]
            rfl
          rw [et, List.sum_append, sq_app, List.foldl_append, List.foldl_append]
          generalize (n :: r).take i = t
          refine ⟨_, rfl, _, rfl, _, _, rfl, rfl, _, rfl, _, rfl, _, rfl, _, _, rfl, rfl, .inl ⟨by omega, by omega⟩, _, _, rfl, rfl, ?_⟩
          have e1 : t.sum + [z].sum = t.sum + z := by simp
          have e2 : sq t + sq [z] = sq t + z * z := by simp [sq]
          rw [e1, e2]
          refine ⟨fun σ' H2 => σ' = [some (.ref a), some (.int (t.sum + z)), some (.int (sq t + z * z)), some (.int (min (t.foldl min n) z)), some (.int (t.foldl max n)), some (.int z)] ∧ H2 = H', ?_, ?_⟩
          · refine ⟨_, rfl, _, rfl, _, _, rfl, rfl, _, rfl, ?_⟩
            refine ite2 (fun e => ?_) (fun e => ?_)
            · have e3 : z < t.foldl min n := of_decide_eq_true e
              have e4 : min (t.foldl min n) z = z := by omega
              rw [e4]
              exact ⟨_, rfl, rfl, rfl⟩
            · have e3 : ¬ z < t.foldl min n := fun h => e (decide_eq_true h)
              have e4 : min (t.foldl min n) z = t.foldl min n := by omega
              rw [e4]
              exact ⟨rfl, rfl⟩
          · rintro σ' H2 ⟨rfl, rfl⟩
            refine ⟨_, rfl, _, rfl, _, _, rfl, rfl, _, rfl, ?_⟩
            refine ite2 (fun e => ?_) (fun e => ?_)
            · have e3 : t.foldl max n < z := of_decide_eq_true e
              have e4 : max (t.foldl max n) z = z := by omega
              refine ⟨_, rfl, some (.int z), ?_, rfl⟩
              show _ = [_, _, _, _, some (V.int (max (t.foldl max n) z)), _]
              rw [e4]
              rfl
            · have e3 : ¬ t.foldl max n < z := fun h => e (decide_eq_true h)
              have e4 : max (t.foldl max n) z = t.foldl max n := by omega
              refine ⟨some (.int z), ?_, rfl⟩
              show _ = [_, _, _, _, some (V.int (max (t.foldl max n) z)), _]
              rw [e4]
              rfl
        · rintro σ H' ⟨y, rfl, rfl⟩
          rw [List.length_map, List.take_length]
          refine ⟨_, rfl, _, _, rfl, .inl ⟨_, hS, rfl⟩, _, rfl, _, rfl, _, rfl, _, rfl, by show 5 ≤ sizeLine; decide, fun p hp => q _ p (same_new hp) ?_⟩
          rw [upd_same, List.length_map]
          unfold tal
          rw [lo_cons, hi_cons, List.foldl_cons, List.foldl_cons, Int.min_self, Int.max_self]
          rfl
theorem ok_mean_of (T : Txt K mg) (D_make_fraction : Kept P w K mg base 1 "make_fraction" ["n", "d"] spFrac) {f : Addr} {fd : FuncData} (F : FnP K "mean_of" s_mean_of f fd) : FnOk P w K mg base CX0 2 f fd ["tally"] (spMean K) := by
  refine F.ok sc_mean_of (fun vs H Q E h => ?_) (fun cdv A outer s H vs Q E hr h => ?_)
  · obtain ⟨p, xs, rfl, _⟩ := h
    rfl
  · obtain ⟨p, xs, rfl, hp, hl, hf, q⟩ := h
    refine ⟨_, PSs.nox (pss_cons (ps_asg (pe_slice sl_tup (pv 0) po_none (po_some pe_int)) (pg_tup rfl (pgs_cons (pg_name (i := 1) sc_mean_of.nd rfl (Or.inl rfl)) (pgs_cons (pg_name (i := 2) sc_mean_of.nd rfl (Or.inl rfl)) pgs_nil))))
      (pss_one (ps_ret (pe_ifExp (pt_cmpR op_gt (pv 1) pe_int (nomark _)) (pe_d D_make_fraction (hr.mono (by decide)) (by rfl) (pa_cons (pv 2) (pa_cons (pv 1) pa_nil))) pe_non)))), ?_⟩
    refine ⟨_, rfl, 2, rfl, p, _, rfl, SqT.of hp, (fun e => absurd (show HT.sIx 5 5 (some 2) = 5 from e.2) (by decide)), fun p2 hp2 => ?_⟩
    have s2 := same_new (o := .tup (cutV (tal xs) none (some 2))) hp2
    have hT2 := SqT.of (K := K) (upd_same (H := H) (a := p2) (o := .tup (cutV (tal xs) none (some 2))))
    generalize upd H p2 _ = H2 at s2 hT2
    refine ⟨p2, [.int (len xs), .int xs.sum], rfl, hT2, rfl, _, _, rfl, _, _, rfl, rfl, ?_⟩
    refine ⟨_, rfl, _, _, rfl, rfl, _, rfl, ?_⟩
    refine ite2 (fun e => ?_) (fun e => ?_)
    · have hx : xs ≠ [] := fun h => by
        subst h
        exact absurd (of_decide_eq_true e) (by decide)
      have h0 := len_pos hx
      refine ⟨_, rfl, _, rfl, xs.sum, len xs, rfl, by omega, sz_up (sz_s hl hf) (by decide), fun r hr => ?_⟩
      exact (q _ (s2.trans (same_new hr))).2 r hx upd_same
    · have hx : xs = [] := Decidable.byContradiction fun n => e (decide_eq_true (len_pos n))
      exact (q _ s2).1 hx
theorem ok_spread_of (T : Txt K mg) (D_make_fraction : Kept P w K mg base 1 "make_fraction" ["n", "d"] spFrac) (D_difference_of : Kept P w K mg base 2 "difference_of" ["a", "b"] (spBin K sub2)) (D_product_of : Kept P w K mg base 2 "product_of" ["a", "b"] (spBin K mul2)) (D_mean_of : Kept P w K mg base 2 "mean_of" ["tally"] (spMean K)) {f : Addr} {fd : FuncData} (F : FnP K "spread_of" s_spread_of f fd) : FnOk P w K mg base CX0 3 f fd ["tally"] (spSpread K) := by
  refine F.ok sc_spread_of (fun vs H Q E h => ?_) (fun cdv A outer s H vs Q E hr h => ?_)
  · obtain ⟨p, xs, rfl, _⟩ := h
    rfl
  · obtain ⟨p, xs, rfl, hp, hl, hf, q⟩ := h
    refine ⟨_, PSs.nox (pss_cons (ps_set (i := 1) sc_spread_of.nd rfl (Or.inl rfl) (pe_d D_mean_of (hr.mono (by decide)) (by rfl) (pa_cons (pv 0) pa_nil)))
      (pss_cons (ps_if (pt_cmpR op_isN (pv 1) pe_non (nomark _)) (pss_one (ps_ret pe_non)) pss_nil)
      (pss_one (ps_ret (pe_d D_difference_of (hr.mono (by decide)) (by rfl) (pa_cons (pe_d D_make_fraction (hr.mono (by decide)) (by rfl) (pa_cons (pe_ix ix_tup (pv 0) pe_int (fun _ _ => rfl)) (pa_cons (pe_ix ix_tup (pv 0) pe_int (fun _ _ => rfl)) pa_nil))) (pa_cons (pe_d D_product_of (hr.mono (by decide)) (by rfl) (pa_cons (pv 1) (pa_cons (pv 1) pa_nil))) pa_nil))))))), ?_⟩
    refine ⟨_, rfl, p, xs, rfl, hp, hl, hf, fun H1 s1 => ⟨fun hx => ?_, fun m hx hm => ?_⟩⟩
    · refine ⟨_, rfl, rfl, _, rfl, ?_⟩
      refine ite2 (fun _ => ?_) (fun n => absurd (by rfl) n)
      exact (q _ s1).1 hx
    · refine ⟨_, rfl, rfl, _, rfl, ?_⟩
      refine ite2 (fun n => by cases of_decide_eq_true n) (fun _ => ?_)
      have hp1 := s1 _ _ hp
      have h0 := len_pos hx
      refine ⟨_, rfl, p, _, _, _, rfl, rfl, SqT.of hp1, atI_nat (j := 2) rfl, _, rfl, p, _, _, _, rfl, rfl, SqT.of hp1, atI_nat (j := 0) rfl, sq xs, len xs, rfl, by omega, sz_up (sz_q hl hf) (by decide), fun u hu => ?_⟩
      have s2 := same_new (o := tupF (fr (sq xs) (len xs))) hu
      have hm2 := s2 _ _ hm
      have ml := mn_low hx
      have ml1 := ml.pos
      have m2 : (mul2 (mn xs) (mn xs)).2 ≠ 0 := Int.mul_ne_zero (by omega) (by omega)
      refine ⟨_, rfl, _, rfl, m, m, mn xs, mn xs, rfl, hm2, hm2, sz_up (mn_sz hl hf) (by decide), sz_up (mn_sz hl hf) (by decide), m2, fun v hv => ?_⟩
      have s3 := same_new (o := tupF (frp (mul2 (mn xs) (mn xs)))) hv
      have c1 := (low_frp m2).pos
      have a1 := (fr_low (n := sq xs) (d := len xs) (by omega)).pos
      refine ⟨u, v, fr (sq xs) (len xs), frp (mul2 (mn xs) (mn xs)), rfl, s3 _ _ upd_same, upd_same, sz_up (fr_sz (sz_q hl hf)) (by decide), sz_up (fr_sz (mul2_sz (mn_sz hl hf) (mn_sz hl hf))) (by decide), Int.mul_ne_zero (by omega) (by omega), fun r hr => ?_⟩
      exact (q _ (((s1.trans s2).trans s3).trans (same_new hr))).2 r hx upd_same
end
end Mt
namespace Mt
open PySem PySem.Spec PyProof.Rows L2
theorem Fr.sub {a b : F2} {N1 N2 : Int} {M : Nat} (ha : Fr a N1 M) (hb : Fr b N2 M) : Fr (frp (sub2 a b)) (N1 - N2) M := by
  refine Fr.of (add2_ne ha.low hb.low) ?_ ha.pos
  have h1 := ha.eq
  have h2 := hb.eq
  show (a.1 * b.2 - b.1 * a.2) * (M : Int) = (N1 - N2) * (a.2 * b.2)
  grind
theorem sub2_ne {a b : F2} (ha : Low a) (hb : Low b) : (sub2 a b).2 ≠ 0 := add2_ne ha hb
theorem Fr.up {a : F2} {N : Int} {M : Nat} (ha : Fr a N M) {k : Nat} (hk : 0 < k) : Fr a (N * k) (M * k) := by
  refine ⟨ha.low, ?_, Nat.mul_pos ha.pos hk⟩
  have h1 := ha.eq
  rw [Int.natCast_mul]
  grind
theorem Fr.to {a : F2} {N N' : Int} {M M' : Nat} (ha : Fr a N M) (h : 0 < M') (e : N * M' = N' * M) : Fr a N' M' := by
  refine ⟨ha.low, ?_, h⟩
  have h1 := ha.eq
  have hM : (M : Int) ≠ 0 := by
    have := ha.pos
    omega
  refine Int.eq_of_mul_eq_mul_right hM ?_
  grind
theorem Fr.frac {n d : Int} {m : Nat} (hd : d = (m : Int)) (h : 0 < m) : Fr (fr n d) n m := by
  subst hd
  exact Fr.of (x := (n, (m : Int))) (by show (m : Int) ≠ 0; omega) rfl h
theorem Fr.int (v : Int) : Fr (v, 1) v 1 := ⟨⟨by show (1 : Int) ≤ 1; decide, by simp⟩, by show v * 1 = v * 1; rfl, by decide⟩
theorem Fr.unit {n : Nat} (h : 0 < n) : Fr (1, (n : Int)) 1 n := ⟨⟨by show (1 : Int) ≤ (n : Int); omega, by simp⟩, rfl, h⟩
/-! ### sums of bounded things -/
theorem sum_bd {α : Type} (f : α → Int) {B : Nat} : ∀ {l : List α}, (∀ x ∈ l, (f x).natAbs ≤ B) → ((l.map f).sum).natAbs ≤ l.length * B
  | [], _ => by simp
  | x :: r, h => by
    have h1 := h x List.mem_cons_self
    have h2 := sum_bd f (l := r) fun y hy => h y (List.mem_cons_of_mem _ hy)
    rw [List.map_cons, List.sum_cons, List.length_cons, Nat.add_mul, Nat.one_mul]
    have := Int.natAbs_add_le (f x) (r.map f).sum
    omega
theorem sum_take_bd {α : Type} (f : α → Int) {B : Nat} {l : List α} (h : ∀ x ∈ l, (f x).natAbs ≤ B) (i : Nat) : (((l.take i).map f).sum).natAbs ≤ l.length * B := by
  have := sum_bd f (l := l.take i) fun x hx => h x (List.mem_of_mem_take hx)
  refine Nat.le_trans this (Nat.mul_le_mul_right _ ?_)
  rw [List.length_take]
  omega
theorem sum_take_succ {α : Type} {f : α → Int} {l : List α} {i : Nat} {x : α} (h : l[i]? = some x) : ((l.take (i + 1)).map f).sum = ((l.take i).map f).sum + f x := by
  rw [List.take_add_one, h, List.map_append, List.sum_append]
  simp
theorem sum_mul_left {α : Type} (c : Int) (f : α → Int) : ∀ l : List α, (l.map fun x => c * f x).sum = c * (l.map f).sum
  | [] => by simp
  | x :: r => by
    rw [List.map_cons, List.sum_cons, List.map_cons, List.sum_cons, sum_mul_left c f r]
    grind
theorem sum_add {α : Type} (f g : α → Int) : ∀ l : List α, (l.map fun x => f x + g x).sum = (l.map f).sum + (l.map g).sum
  | [] => by simp
  | x :: r => by
    rw [List.map_cons, List.sum_cons, List.map_cons, List.sum_cons, List.map_cons, List.sum_cons, sum_add f g r]
    grind
theorem sum_const {α : Type} (c : Int) : ∀ l : List α, (l.map fun _ => c).sum = l.length * c
  | [] => by simp
  | x :: r => by
    rw [List.map_cons, List.sum_cons, sum_const c r, List.length_cons]
    grind
/-- the squares around x, over m -/
def sqx (m x : Int) (l : List Int) : Int := (l.map fun v => (v * m - x) * (v * m - x)).sum
theorem sqx_eq (m x : Int) : ∀ l : List Int, sqx m x l = m * m * sq l - 2 * m * x * l.sum + len l * (x * x)
  | [] => by simp [sqx, sq, len]
  | v :: r => by
    have ih := sqx_eq m x r
    have e1 : sqx m x (v :: r) = (v * m - x) * (v * m - x) + sqx m x r := by simp [sqx]
    have e2 : sq (v :: r) = v * v + sq r := by simp [sq]
    have e3 : len (v :: r) = len r + 1 := by simp [len]
    rw [e1, ih, e2, e3, List.sum_cons]
    grind
theorem sqx_app (m x : Int) (a b : List Int) : sqx m x (a ++ b) = sqx m x a + sqx m x b := by
  unfold sqx
  rw [List.map_append, List.sum_append]
abbrev LC : Nat := 232792560
/-- LC over the length -/
def al (l : List Int) : Int := (LC : Int) / len l
theorem al_mul {l : List Int} (h : l ≠ []) (h2 : l.length ≤ 22) : al l * len l = LC := by
  have h0 : 0 < l.length := List.length_pos_iff.mpr h
  unfold al len
  generalize l.length = n at *
  have : n = 1 ∨ n = 2 ∨ n = 3 ∨ n = 4 ∨ n = 5 ∨ n = 6 ∨ n = 7 ∨ n = 8 ∨ n = 9 ∨ n = 10 ∨ n = 11 ∨ n = 12 ∨ n = 13 ∨ n = 14 ∨ n = 15 ∨ n = 16 ∨ n = 17 ∨ n = 18 ∨ n = 19 ∨ n = 20 ∨ n = 21 ∨ n = 22 := by omega
  rcases this with rfl | rfl | rfl | rfl | rfl | rfl | rfl | rfl | rfl | rfl | rfl | rfl | rfl | rfl | rfl | rfl | rfl | rfl | rfl | rfl | rfl | rfl <;> decide
/-- the means of a group and of the whole row, over LC * n -/
def gm (n : Nat) (l : List Int) : Int := l.sum * al l * n
def wm (row : List Int) : Int := row.sum * LC
def MM (n : Nat) : Nat := LC * n
theorem MM_pos {n : Nat} (h : 0 < n) : 0 < MM n := Nat.mul_pos (by decide) h
theorem fr_mn {l : List Int} {n : Nat} (h : l ≠ []) (h2 : l.length ≤ 22) (hn : 0 < n) : Fr (mn l) (gm n l) (MM n) := by
  have h0 := len_pos h
  have h1 : Fr (mn l) l.sum l.length := Fr.frac rfl (List.length_pos_iff.mpr h)
  refine h1.to (MM_pos hn) ?_
  have := al_mul h h2
  unfold gm MM
  rw [Int.natCast_mul]
  have e : ((l.length : Nat) : Int) = len l := rfl
  rw [e]
  grind
theorem fr_row {row : List Int} {n : Nat} (e : row.length = n) (hn : 0 < n) : Fr (fr row.sum (len row)) (wm row) (MM n) := by
  have h1 : Fr (fr row.sum (len row)) row.sum n := Fr.frac (by rw [← e]; rfl) hn
  refine h1.to (MM_pos hn) ?_
  unfold wm MM
  rw [Int.natCast_mul]
  grind
/-- the spread of a group over MM² -/
def gs2 (n : Nat) (l : List Int) : Int := sq l * al l * LC * (n * n) - gm n l * gm n l
theorem fr_spr {l : List Int} {n : Nat} (h : l ≠ []) (h2 : l.length ≤ 22) (hn : 0 < n) : Fr (spr l) (gs2 n l) (MM n * MM n) := by
  have h0 := len_pos h
  have p2 := Nat.mul_pos (MM_pos hn) (MM_pos hn)
  have h1 : Fr (fr (sq l) (len l)) (sq l * al l * LC * (n * n)) (MM n * MM n) := by
    have h1 : Fr (fr (sq l) (len l)) (sq l) l.length := Fr.frac rfl (List.length_pos_iff.mpr h)
    refine h1.to p2 ?_
    have := al_mul h h2
    unfold MM
    rw [Int.natCast_mul, Int.natCast_mul]
    have e : ((l.length : Nat) : Int) = len l := rfl
    rw [e]
    grind
  exact h1.sub ((fr_mn h h2 hn).mul (fr_mn h h2 hn))
theorem gs2_eq {l : List Int} {n : Nat} (h : l ≠ []) (h2 : l.length ≤ 22) : len l * gs2 n l = sqx (MM n) (gm n l) l := by
  have := al_mul h h2
  rw [sqx_eq]
  unfold gs2 gm MM
  rw [Int.natCast_mul]
  grind
/-! ### the two ways to split the squares -/
def flat (gs : List (List Int)) : List Int := gs.flatten
theorem flat_sum : ∀ gs : List (List Int), gs.flatten.sum = (gs.map List.sum).sum
  | [] => rfl
  | g :: r => by
    rw [List.flatten_cons, List.sum_append, flat_sum r, List.map_cons, List.sum_cons]
theorem flat_len : ∀ gs : List (List Int), len gs.flatten = (gs.map len).sum
  | [] => rfl
  | g :: r => by
    rw [List.flatten_cons, len_app, flat_len r, List.map_cons, List.sum_cons]
theorem flat_sqx (m x : Int) : ∀ gs : List (List Int), sqx m x gs.flatten = (gs.map (sqx m x)).sum
  | [] => rfl
  | g :: r => by
    rw [List.flatten_cons, sqx_app, flat_sqx m x r, List.map_cons, List.sum_cons]
theorem sum_congr {α : Type} {f g : α → Int} {l : List α} (h : ∀ x ∈ l, f x = g x) : (l.map f).sum = (l.map g).sum := by
  rw [List.map_congr_left h]
theorem split_eq {gs : List (List Int)} {n : Nat} (h : ∀ g ∈ gs, g ≠ [] ∧ g.length ≤ 22) :
    (gs.map fun g => sqx (MM n) (gm n g) g).sum + (gs.map fun g => len g * ((gm n g - wm gs.flatten) * (gm n g - wm gs.flatten))).sum = sqx (MM n) (wm gs.flatten) gs.flatten := by
  rw [flat_sqx, ← sum_add]
  refine sum_congr fun g hg => ?_
  obtain ⟨h1, h2⟩ := h g hg
  have := al_mul h1 h2
  rw [sqx_eq, sqx_eq]
  generalize wm gs.flatten = x
  unfold gm MM
  rw [Int.natCast_mul]
  grind
end Mt
namespace Mt
open PySem PySem.Spec PyProof.Rows L2
/-- refs that stand for things -/
structure Rls {α : Type} (R : Addr → α → Prop) (vs : List V) (xs : List α) : Prop where
  len : vs.length = xs.length
  at_ : ∀ {i : Nat} {x : α}, xs[i]? = some x → ∃ t, vs[i]? = some (.ref t) ∧ R t x
theorem Rls.nil {α : Type} {R : Addr → α → Prop} : Rls R [] [] := ⟨rfl, fun h => (nomatch h)⟩
theorem Rls.mono {α : Type} {R R' : Addr → α → Prop} {vs : List V} {xs : List α} (h : Rls R vs xs) (m : ∀ t x, R t x → R' t x) : Rls R' vs xs := ⟨h.len, fun e => let ⟨t, h1, h2⟩ := h.at_ e; ⟨t, h1, m _ _ h2⟩⟩
theorem Rls.get {α : Type} {R : Addr → α → Prop} {vs : List V} {xs : List α} {i : Nat} {v : V} (h : Rls R vs xs) (e : vs[i]? = some v) : ∃ t x, v = .ref t ∧ xs[i]? = some x ∧ R t x := by
  have h1 := (List.getElem?_eq_some_iff.mp e).1
  have h2 : i < xs.length := h.len ▸ h1
  obtain ⟨t, e1, r⟩ := h.at_ (List.getElem?_eq_getElem h2)
  rw [e] at e1
  exact ⟨t, _, Option.some.inj e1, List.getElem?_eq_getElem h2, r⟩
theorem Rls.snoc {α : Type} {R : Addr → α → Prop} {vs : List V} {xs : List α} {t : Addr} {x : α} (h : Rls R vs xs) (r : R t x) : Rls R (vs ++ [.ref t]) (xs ++ [x]) := by
  refine ⟨by simp [h.len], fun {i y} e => ?_⟩
  by_cases hi : i < xs.length
  · rw [List.getElem?_append_left hi] at e
    obtain ⟨t', h1, h2⟩ := h.at_ e
    exact ⟨t', by rw [List.getElem?_append_left (h.len ▸ hi)]; exact h1, h2⟩
  · rw [List.getElem?_append_right (by omega)] at e
    rw [List.getElem?_append_right (by rw [h.len]; omega), h.len]
    cases hd : i - xs.length with
    | zero =>
      rw [hd] at e
      cases e
      exact ⟨t, rfl, r⟩
    | succ n =>
      rw [hd] at e
      cases e
abbrev TlR (H : Hp) (t : Addr) (g : List Int) : Prop := H t = some (.tup (tal g))
abbrev GrR (H : Hp) (t : Addr) (g : List Int) : Prop := H t = some (.lst (g.map V.int))
abbrev FrR (H : Hp) (M : Nat) (t : Addr) (e : F2 × Int) : Prop := H t = some (tupF e.1) ∧ Fr e.1 e.2 M
structure GsOk (gs : List (List Int)) : Prop where
  ne : gs ≠ []
  few : gs.length ≤ 30
  g : ∀ g ∈ gs, g ≠ [] ∧ g.length ≤ 22 ∧ Few g
  all : gs.flatten.length ≤ 60
theorem GsOk.pos {gs : List (List Int)} (h : GsOk gs) : 0 < gs.flatten.length := by
  cases gs with
  | nil => exact absurd rfl h.ne
  | cons x r =>
    have := (h.g x List.mem_cons_self).1
    have := List.length_pos_iff.mpr this
    rw [List.flatten_cons, List.length_append]
    omega
theorem GsOk.fewA {gs : List (List Int)} (h : GsOk gs) : Few gs.flatten := fun z hz => by
  obtain ⟨l, h1, h2⟩ := List.mem_flatten.mp hz
  exact (h.g l h1).2.2 z h2
/-- a fraction that is told -/
abbrev GiveF (H : Hp) (Q : VK) (N : Int) (M : Nat) : Prop := ∀ (H' : Hp) (r : Addr) (f : F2), Same H H' → H' r = some (tupF f) → Fr f N M → Q (.ref r) H'
def nn' (gs : List (List Int)) : Nat := gs.flatten.length
def N1 (gs : List (List Int)) : Int := (gs.map fun g => len g * gs2 (nn' gs) g).sum
def dif (gs : List (List Int)) (g : List Int) : Int := gm (nn' gs) g - wm gs.flatten
def N2 (gs : List (List Int)) : Int := (gs.map fun g => len g * (dif gs g * dif gs g)).sum
abbrev M3 (gs : List (List Int)) : Nat := nn' gs * (MM (nn' gs) * MM (nn' gs))
def spTotal (K : PySem.W.Frag) : Sp := fun vs H Q _ => ∃ (a : Addr) (xs : List V) (fs : List (F2 × Int)) (M : Nat), vs = [.ref a] ∧ SqL K H a xs ∧ Rls (FrR H M) xs fs ∧ fs.length ≤ 100 ∧ (∀ e ∈ fs, e.2.natAbs ≤ 2 ^ 200) ∧ 0 < M ∧ M < 2 ^ 200 ∧ GiveF H Q (fs.map fun e : F2 × Int => e.2).sum M
def spWithin (K : PySem.W.Frag) : Sp := fun vs H Q _ => ∃ (p : Addr) (xs : List V) (gs : List (List Int)), vs = [.ref p] ∧ SqT K H p xs ∧ Rls (TlR H) xs gs ∧ GsOk gs ∧ GiveF H Q (N1 gs) (M3 gs)
def spBetween (K : PySem.W.Frag) : Sp := fun vs H Q _ => ∃ (p : Addr) (xs : List V) (gs : List (List Int)), vs = [.ref p] ∧ SqT K H p xs ∧ Rls (TlR H) xs gs ∧ GsOk gs ∧ GiveF H Q (N2 gs) (M3 gs)
def spApart (K : PySem.W.Frag) : Sp := fun vs H Q _ => ∃ (a pm : Addr) (ns : List Int) (fm : F2) (X : Int) (M : Nat), vs = [.ref a, .ref pm] ∧ SqL K H a (ns.map V.int) ∧ ns.length ≤ 60 ∧ Few ns ∧ H pm = some (tupF fm) ∧ Fr fm X M ∧ X.natAbs < 2 ^ 80 ∧ M < 2 ^ 34 ∧ GiveF H Q (sqx M X ns) (M * M)
/-! ### bounds -/
section
variable {gs : List (List Int)} {g : List Int} {n : Nat}
theorem sz_nat {a k : Nat} (h : a < 2 ^ k) : ((a : Int)).natAbs < 2 ^ k := by
  rw [Int.natAbs_natCast]
  exact h
theorem al_sz (l : List Int) : (al l).natAbs < 2 ^ 28 := by
  unfold al
  refine Nat.lt_of_le_of_lt (Int.natAbs_ediv_le_natAbs _ _) (by decide)
theorem gm_sz (h : g.length ≤ 22) (hf : Few g) (hn : n ≤ 60) : (gm n g).natAbs < 2 ^ 80 := by
  have h1 : g.sum.natAbs < 2 ^ 45 := by
    have := sum_few hf
    omega
  exact n_up (sz_mul (sz_mul h1 (al_sz g)) (sz_nat (show n < 2 ^ 6 by omega))) (by decide)
theorem len_sz (h : g.length ≤ 60) : (len g).natAbs < 2 ^ 6 := sz_nat (show g.length < 2 ^ 6 by omega)
theorem gs2_sz (h : g.length ≤ 22) (hf : Few g) (hn : n ≤ 60) : (gs2 n g).natAbs < 2 ^ 161 := by
  have h1 : (sq g).natAbs < 2 ^ 85 := by
    have := sq_few hf
    omega
  have hn6 := sz_nat (show n < 2 ^ 6 by omega)
  have hL : ((LC : Nat) : Int).natAbs < 2 ^ 28 := by decide
  have a := n_up (sz_mul (sz_mul (sz_mul h1 (al_sz g)) hL) (sz_mul hn6 hn6)) (by decide : 85 + 28 + 28 + (6 + 6) ≤ 160)
  have b := sz_mul (gm_sz h hf hn) (gm_sz h hf hn)
  exact sz_sub a b
theorem wm_sz (h : g.length ≤ 60) (hf : Few g) : (wm g).natAbs < 2 ^ 80 := by
  have h1 : g.sum.natAbs < 2 ^ 46 := by
    have := sum_few hf
    omega
  have hL : ((LC : Nat) : Int).natAbs < 2 ^ 28 := by decide
  exact n_up (sz_mul h1 hL) (by decide)
theorem MM_sz (hn : n ≤ 60) : MM n < 2 ^ 34 := by
  unfold MM
  have : LC * n ≤ LC * 60 := Nat.mul_le_mul_left _ hn
  exact Nat.lt_of_le_of_lt this (by decide)
theorem mm_sz {a b j k : Nat} (ha : a < 2 ^ j) (hb : b < 2 ^ k) : a * b < 2 ^ (j + k) := by
  have := sz_mul (sz_nat ha) (sz_nat hb)
  rw [← Int.natCast_mul, Int.natAbs_natCast] at this
  exact this
theorem M3_sz (h : GsOk gs) : M3 gs < 2 ^ 74 := mm_sz (show nn' gs < 2 ^ 6 by have := h.all; unfold nn'; omega) (mm_sz (MM_sz h.all) (MM_sz h.all))
theorem nn'_pos (h : GsOk gs) : 0 < nn' gs := h.pos
theorem M3_pos (h : GsOk gs) : 0 < M3 gs := Nat.mul_pos h.pos (Nat.mul_pos (MM_pos h.pos) (MM_pos h.pos))
theorem t1_sz (h : GsOk gs) (hg : g ∈ gs) : (len g * gs2 (nn' gs) g).natAbs < 2 ^ 170 := by
  obtain ⟨_, h2, h3⟩ := h.g g hg
  exact n_up (sz_mul (len_sz (by omega)) (gs2_sz h2 h3 h.all)) (by decide)
theorem dif_sz (h : GsOk gs) (hg : g ∈ gs) : (dif gs g).natAbs < 2 ^ 81 := by
  obtain ⟨_, h2, h3⟩ := h.g g hg
  exact sz_sub (gm_sz h2 h3 h.all) (wm_sz h.all h.fewA)
theorem t2_sz (h : GsOk gs) (hg : g ∈ gs) : (len g * (dif gs g * dif gs g)).natAbs < 2 ^ 170 := by
  obtain ⟨_, h2, h3⟩ := h.g g hg
  exact n_up (sz_mul (len_sz (by omega)) (sz_mul (dif_sz h hg) (dif_sz h hg))) (by decide)
theorem sqx_bd {M : Nat} {X : Int} {l : List Int} (hM : M < 2 ^ 34) (hX : X.natAbs < 2 ^ 80) (hf : Few l) : ∀ v ∈ l, ((v * M - X) * (v * M - X)).natAbs ≤ 2 ^ 170 := fun v hv => by
  have h1 : v.natAbs < 2 ^ 41 := by
    have := hf v hv
    omega
  have h2 : (v * M - X).natAbs < 2 ^ 81 := sz_sub (n_up (sz_mul h1 (sz_nat hM)) (by decide)) (n_up hX (by decide))
  exact Nat.le_of_lt (n_up (sz_mul h2 h2) (by decide))
theorem sqx_take_sz {M : Nat} {X : Int} {l : List Int} (hM : M < 2 ^ 34) (hX : X.natAbs < 2 ^ 80) (hf : Few l) (hl : l.length ≤ 60) (i : Nat) : (sqx M X (l.take i)).natAbs < 2 ^ 180 := by
  have h := sum_take_bd _ (sqx_bd hM hX hf) i
  refine Nat.lt_of_le_of_lt (Nat.le_trans h (Nat.mul_le_mul_right _ hl)) (by decide)
end
section
variable {P : Program} {w : World} {K : PySem.W.Frag} {mg : Str → Option Value} {base : Heap}
theorem ok_total_of (T : Txt K mg) (D_sum_of : Kept P w K mg base 2 "sum_of" ["a", "b"] (spBin K add2)) {f : Addr} {fd : FuncData} (F : FnP K "total_of" s_total_of f fd) : FnOk P w K mg base CX0 3 f fd ["fractions"] (spTotal K) := by
  refine F.ok sc_total_of (fun vs H Q E h => ?_) (fun cdv A outer s H vs Q E hr h => ?_)
  · obtain ⟨a, xs, fs, M, rfl, _⟩ := h
    rfl
  · obtain ⟨a, xs, fs, M, rfl, hS, hR, hl, hb, m0, hM, q⟩ := h
    refine ⟨_, PSs.nox (pss_cons (ps_set (i := 1) sc_total_of.nd rfl (Or.inl rfl) (pe_tup (pa_cons pe_int (pa_cons pe_int pa_nil))))
      (pss_cons (ps_for PassesOwn.never rfl (pi_list (pv 0)) (pg_name (i := 2) sc_total_of.nd rfl (Or.inl rfl)) (pss_one (ps_set (i := 1) sc_total_of.nd rfl (Or.inl rfl) (pe_d D_sum_of (hr.mono (by decide)) (by rfl) (pa_cons (pv 1) (pa_cons (pv 2) pa_nil))))))
      (pss_one (ps_ret (pv 1))))), ?_⟩
    refine ⟨by show 2 ≤ sizeLine; decide, fun p hp => ?_⟩
    have s0 := same_new (o := tupF (0, 1)) hp
    refine ⟨_, rfl, a, rfl, ⟨_, same_l s0 hS⟩, for_list (K := K) (a := a) (xs := xs) (fun i σ H' => ∃ (r : Addr) (f : F2) (y : Option V), σ = [some (.ref a), some (.ref r), y] ∧ Same H H' ∧ H' r = some (tupF f) ∧ Fr f ((fs.take i).map fun e : F2 × Int => e.2).sum M) ⟨p, (0, 1), none, rfl, s0, upd_same, Fr.zero m0⟩ (fun i σ H' _ ⟨_, _, _, _, s1, _⟩ => same_l s1 hS) ?_ ?_⟩
    · rintro i x σ H1 hi ⟨r, f, y, rfl, s1, hr1, ff⟩
      obtain ⟨t, e, rfl, he, ht, fe⟩ := hR.get hi
      have hm := List.mem_of_getElem? he
      have b1 : ((fs.take i).map fun e : F2 × Int => e.2).sum.natAbs < 2 ^ 210 := Nat.lt_of_le_of_lt (Nat.le_trans (sum_take_bd (fun e : F2 × Int => e.2) hb i) (Nat.mul_le_mul_right _ hl)) (by decide)
      have b2 : e.2.natAbs < 2 ^ 210 := Nat.lt_of_le_of_lt (hb e hm) (by decide)
      have b3 : M < 2 ^ 210 := Nat.lt_trans hM (by decide)
      refine ⟨_, rfl, _, rfl, r, t, f, e.1, rfl, hr1, s1 _ _ ht, sz_up (ff.sz b1 b3) (by decide), sz_up (fe.sz b2 b3) (by decide), add2_ne ff.low fe.low, fun r2 hr2 => ⟨r2, _, _, rfl, s1.trans (same_new hr2), upd_same, ?_⟩⟩
      rw [sum_take_succ (f := fun e : F2 × Int => e.2) he]
      exact ff.add fe
    · rintro σ H1 ⟨r, f, y, rfl, s1, hr1, ff⟩
      rw [hR.len, List.take_length] at ff
      exact ⟨_, rfl, q _ r f s1 hr1 ff⟩
theorem ok__law_apart (T : Txt K mg) (D__law_plus : Kept P w K mg base 2 "_law_plus" ["a", "b"] (spBin K add2)) (D__law_minus : Kept P w K mg base 2 "_law_minus" ["a", "b"] (spBin K sub2)) (D__law_times : Kept P w K mg base 2 "_law_times" ["a", "b"] (spBin K mul2)) {f : Addr} {fd : FuncData} (F : FnP K "_law_apart" s__law_apart f fd) : FnOk P w K mg base CX0 3 f fd ["row", "middle"] (spApart K) := by
  refine F.ok sc__law_apart (fun vs H Q E h => ?_) (fun cdv A outer s H vs Q E hr h => ?_)
  · obtain ⟨a, pm, ns, fm, X, M, rfl, _⟩ := h
    rfl
  · obtain ⟨a, pm, ns, fm, X, M, rfl, hS, hl, hf, hm, fM, hX, hM, q⟩ := h
    refine ⟨_, PSs.nox (pss_cons (ps_set (i := 2) sc__law_apart.nd rfl (Or.inl rfl) (pe_tup (pa_cons pe_int (pa_cons pe_int pa_nil))))
      (pss_cons (ps_for PassesOwn.never rfl (pi_list (pv 0)) (pg_name (i := 3) sc__law_apart.nd rfl (Or.inl rfl)) (pss_cons (ps_set (i := 4) sc__law_apart.nd rfl (Or.inl rfl) (pe_d D__law_minus (hr.mono (by decide)) (by rfl) (pa_cons (pe_tup (pa_cons (pv 3) (pa_cons pe_int pa_nil))) (pa_cons (pv 1) pa_nil))))
      (pss_one (ps_set (i := 2) sc__law_apart.nd rfl (Or.inl rfl) (pe_d D__law_plus (hr.mono (by decide)) (by rfl) (pa_cons (pv 2) (pa_cons (pe_d D__law_times (hr.mono (by decide)) (by rfl) (pa_cons (pv 4) (pa_cons (pv 4) pa_nil))) pa_nil)))))))
      (pss_one (ps_ret (pv 2))))), ?_⟩
    refine ⟨by show 2 ≤ sizeLine; decide, fun p hp => ?_⟩
    have s0 := same_new (o := tupF (0, 1)) hp
    have mp := fM.pos
    have szM : Sz 1900 fm := sz_up (fM.sz hX (Nat.lt_trans hM (by decide))) (by decide)
    have hMM : M * M < 2 ^ 180 := Nat.lt_trans (mm_sz hM hM) (by decide)
    refine ⟨_, rfl, a, rfl, ⟨_, same_l s0 hS⟩, for_list (K := K) (a := a) (xs := ns.map V.int) (fun i σ H' => ∃ (r : Addr) (f : F2) (y z : Option V), σ = [some (.ref a), some (.ref pm), some (.ref r), y, z] ∧ Same H H' ∧ H' r = some (tupF f) ∧ Fr f (sqx M X (ns.take i)) (M * M)) ⟨p, (0, 1), none, none, rfl, s0, upd_same, Fr.zero (Nat.mul_pos mp mp)⟩ (fun i σ H' _ ⟨_, _, _, _, _, s1, _⟩ => same_l s1 hS) ?_ ?_⟩
    · rintro i x σ H1 hi ⟨r, f, y, z, rfl, s1, hr1, ff⟩
      obtain ⟨v, rfl, hv⟩ := getV hi
      have hvf := hf v (List.mem_of_getElem? hv)
      have v1 : v.natAbs < 2 ^ 41 := by omega
      refine ⟨_, rfl, by show 2 ≤ sizeLine; decide, fun p1 hp1 => ?_⟩
      have s2 := s1.trans (same_new (o := .tup [.int v, .int 1]) hp1)
      have hv1 := upd_same (H := H1) (a := p1) (o := .tup [.int v, .int 1])
      have hr2 := same_new (o := .tup [.int v, .int 1]) hp1 _ _ hr1
      generalize upd H1 p1 (.tup [.int v, .int 1]) = H2 at s2 hv1 hr2
      have fv : Fr (v, 1) (v * M) M := by
        have := (Fr.int v).up mp
        rw [Nat.one_mul] at this
        exact this
      have szv : Sz 1900 (v, 1) := ⟨n_up v1 (by decide), by show 1 < 2 ^ 1900; decide +kernel⟩
      have ff1 := fv.sub fM
      have z1 : (v * M - X).natAbs < 2 ^ 81 := sz_sub (n_up (sz_mul v1 (sz_nat hM)) (by decide)) (n_up hX (by decide))
      refine ⟨_, rfl, p1, pm, (v, 1), fm, rfl, hv1, s2 _ _ hm, szv, szM, sub2_ne fv.low fM.low, fun p2 hp2 => ?_⟩
      have s3 := same_new (o := tupF (frp (sub2 (v, 1) fm))) hp2
      have h3 := upd_same (H := H2) (a := p2) (o := tupF (frp (sub2 (v, 1) fm)))
      have hr3 := s3 _ _ hr2
      generalize upd H2 p2 (tupF (frp (sub2 (v, 1) fm))) = H3 at s3 h3 hr3
      generalize frp (sub2 (v, 1) fm) = u at ff1 h3
      have szu : Sz 1900 u := sz_up (ff1.sz (n_up z1 (by decide : 81 ≤ 81)) (Nat.lt_trans hM (by decide))) (by decide)
      have f2 := ff1.mul ff1
      have z2 := sz_mul z1 z1
      refine ⟨_, rfl, _, rfl, _, rfl, p2, p2, u, u, rfl, h3, h3, szu, szu, mul2_ne ff1.low ff1.low, fun p3 hp3 => ?_⟩
      have s4 := s3.trans (same_new (o := tupF (frp (mul2 u u))) hp3)
      have h4 := upd_same (H := H3) (a := p3) (o := tupF (frp (mul2 u u)))
      have hr4 := same_new (o := tupF (frp (mul2 u u))) hp3 _ _ hr3
      generalize upd H3 p3 (tupF (frp (mul2 u u))) = H4 at s4 h4 hr4
      generalize frp (mul2 u u) = u2 at f2 h4
      have zf := sqx_take_sz hM hX hf hl i
      refine ⟨r, p3, f, u2, rfl, hr4, h4, sz_up (ff.sz zf hMM) (by decide), sz_up (f2.sz (n_up z2 (by decide : 81 + 81 ≤ 180)) hMM) (by decide), add2_ne ff.low f2.low, fun r2 hr2 => ⟨r2, _, _, _, rfl, (s2.trans s4).trans (same_new hr2), upd_same, ?_⟩⟩
      have e : sqx M X (ns.take (i + 1)) = sqx M X (ns.take i) + (v * M - X) * (v * M - X) := sum_take_succ hv
      rw [e]
      exact ff.add f2
    · rintro σ H1 ⟨r, f, y, z, rfl, s1, hr1, ff⟩
      rw [List.length_map, List.take_length] at ff
      exact ⟨_, rfl, q _ r f s1 hr1 ff⟩
end
end Mt
namespace Mt
open PySem PySem.Spec PyProof.Rows L2
theorem ixT {X : Cx} {K : PySem.W.Frag} (h : X.K = K) : IxR X (rIxT K) := h ▸ ix_tup
theorem ixL {X : Cx} {K : PySem.W.Frag} (h : X.K = K) : IxR X (rIxL K) := h ▸ ix_list
theorem tupOfT {X : Cx} {K : PySem.W.Frag} (h : X.K = K) : CallR X (.type "tuple") (fun xs H Q => ∃ p ys, xs = [.ref p] ∧ ((SqL K H p ys ∧ ∀ l, H l = none → Q (.ref l) (upd H l (.tup ys))) ∨ (SqT K H p ys ∧ Q (.ref p) H))) := h ▸ call_tuple_of
theorem tl_same {H H' : Hp} {vs : List V} {gs : List (List Int)} (s : Same H H') (h : Rls (TlR H) vs gs) : Rls (TlR H') vs gs := h.mono fun _ _ r => s _ _ r
theorem fr_same {H H' : Hp} {vs : List V} {fs : List (F2 × Int)} {M : Nat} (s : Same H H') (h : Rls (FrR H M) vs fs) : Rls (FrR H' M) vs fs := h.mono fun _ _ r => ⟨s _ _ r.1, r.2⟩
theorem fr_mut {H : Hp} {L : Addr} {zs : List V} {o : HO} {vs : List V} {fs : List (F2 × Int)} {M : Nat} (hL : H L = some (.lst zs)) (h : Rls (FrR H M) vs fs) : Rls (FrR (upd H L o) M) vs fs := h.mono fun t e r => ⟨by
  have n : t ≠ L := fun z => by
    have := r.1
    rw [z, hL] at this
    cases this
  rw [upd_ne n]
  exact r.1, r.2⟩
def F1 (gs : List (List Int)) (g : List Int) : F2 × Int := (frp (mul2 (fr (len g) (nn' gs)) (spr g)), len g * gs2 (nn' gs) g)
def Fd (gs : List (List Int)) (g : List Int) : F2 := frp (sub2 (mn g) (fr gs.flatten.sum (nn' gs)))
def F3 (gs : List (List Int)) (g : List Int) : F2 × Int := (frp (mul2 (fr (len g) (nn' gs)) (frp (mul2 (Fd gs g) (Fd gs g)))), len g * (dif gs g * dif gs g))
theorem ns_sum (gs : List (List Int)) : (gs.map len).sum = (nn' gs : Int) := (flat_len gs).symm
section
variable {gs : List (List Int)} {g : List Int}
theorem fr_sh (h : GsOk gs) (l : List Int) : Fr (fr (len l) (nn' gs)) (len l) (nn' gs) := Fr.frac rfl h.pos
theorem F1_ok (h : GsOk gs) (hg : g ∈ gs) : Fr (F1 gs g).1 (F1 gs g).2 (M3 gs) := by
  obtain ⟨h1, h2, h3⟩ := h.g g hg
  exact (fr_sh h g).mul (fr_spr h1 h2 h.pos)
theorem Fd_ok (h : GsOk gs) (hg : g ∈ gs) : Fr (Fd gs g) (dif gs g) (MM (nn' gs)) := by
  obtain ⟨h1, h2, h3⟩ := h.g g hg
  exact (fr_mn h1 h2 h.pos).sub (fr_row rfl h.pos)
theorem F3_ok (h : GsOk gs) (hg : g ∈ gs) : Fr (F3 gs g).1 (F3 gs g).2 (M3 gs) := (fr_sh h g).mul ((Fd_ok h hg).mul (Fd_ok h hg))
theorem sh_sz (h : GsOk gs) (hg : g ∈ gs) : Sz 1900 (fr (len g) (nn' gs)) := by
  obtain ⟨h1, h2, h3⟩ := h.g g hg
  have ha := h.all
  exact sz_up ((fr_sh h g).sz (len_sz (by omega)) (show nn' gs < 2 ^ 6 by unfold nn'; omega)) (by decide)
theorem num_sz (h : GsOk gs) (hg : g ∈ gs) : Sz 4000 (len g, (nn' gs : Int)) := by
  obtain ⟨h1, h2, h3⟩ := h.g g hg
  have ha := h.all
  exact sz_up (k := 4000) ⟨len_sz (by omega), sz_nat (show nn' gs < 2 ^ 6 by unfold nn'; omega)⟩ (by decide)
theorem spr_sz' (h : GsOk gs) (hg : g ∈ gs) : Sz 1900 (spr g) := by
  obtain ⟨h1, h2, h3⟩ := h.g g hg
  exact sz_up (spr_sz (by omega) h3) (by decide)
theorem Fd_sz (h : GsOk gs) (hg : g ∈ gs) : Sz 900 (Fd gs g) := sz_up ((Fd_ok h hg).sz (dif_sz h hg) (Nat.lt_trans (MM_sz h.all) (by decide))) (by decide)
end
section
variable {P : Program} {w : World} {K : PySem.W.Frag} {mg : Str → Option Value} {base : Heap}
theorem ok_spread_within (T : Txt K mg) (D_make_fraction : Kept P w K mg base 1 "make_fraction" ["n", "d"] spFrac) (D_product_of : Kept P w K mg base 2 "product_of" ["a", "b"] (spBin K mul2)) (D_total_of : Kept P w K mg base 3 "total_of" ["fractions"] (spTotal K)) (D_spread_of : Kept P w K mg base 3 "spread_of" ["tally"] (spSpread K)) {f : Addr} {fd : FuncData} (F : FnP K "spread_within" s_spread_within f fd) : FnOk P w K mg base CX0 4 f fd ["tallies"] (spWithin K) := by
  refine F.ok sc_spread_within (fun vs H Q E h => ?_) (fun cdv A outer s H vs Q E hr h => ?_)
  · obtain ⟨p, xs, gs, rfl, _⟩ := h
    rfl
  · obtain ⟨p, xs, gs, rfl, hS, hR, hg, q⟩ := h
    have few := hg.few
    have npos : ((nn' gs : Nat) : Int) ≠ 0 := by
      have := nn'_pos hg
      omega
    refine ⟨_, PSs.nox (pss_cons (ps_set (i := 1) sc_spread_within.nd rfl (Or.inr rfl) (pe_callB (cr_sum rfl) (by rfl) T.b_sum (by decide +kernel) (pa_cons (pe_lc (own := [("tally", 2)]) (g := (gName 2)) (tt := tYes) rfl sc_spread_within.nd (pi_tup (pv 0)) (blkOk_by (N := N_spread_within) (sc := defScope s_spread_within) (by decide +kernel)) (fun _ _ _ _ _ => (pg_name (i := 2) sc_spread_within.nd rfl (Or.inl rfl))) (fun _ _ _ _ _ => pts_nil) (fun _ _ _ _ _ => (pe_ix (ixT (K := K) rfl) (pv 2) pe_int (fun _ _ => rfl)))) pa_nil)))
      (pss_one (ps_ret (pe_d D_total_of (hr.mono (by decide)) (by rfl) (pa_cons (pe_lc (own := [("tally", 2)]) (g := (gName 2)) (tt := tYes) rfl sc_spread_within.nd (pi_tup (pv 0)) (blkOk_by (N := N_spread_within) (sc := defScope s_spread_within) (by decide +kernel)) (fun _ _ _ _ _ => (pg_name (i := 2) sc_spread_within.nd rfl (Or.inl rfl))) (fun _ _ _ _ _ => pts_nil) (fun _ _ _ _ _ => (pe_d D_product_of (hr.mono (by decide)) (by rfl) (pa_cons (pe_d D_make_fraction (hr.mono (by decide)) (by rfl) (pa_cons (pe_ix (ixT (K := K) rfl) (pv 2) pe_int (fun _ _ => rfl)) (pa_cons (pv 1) pa_nil))) (pa_cons (pe_d D_spread_of (hr.mono (by decide)) (by rfl) (pa_cons (pv 2) pa_nil)) pa_nil))))) pa_nil))))), ?_⟩
    refine ⟨_, rfl, p, rfl, ⟨_, hS⟩, fun L hL => lc_tup (xs := xs) (fun i H' => H' = upd H L (.lst ((gs.take i).map fun g => V.int (len g)))) rfl (fun i H' _ e => ?_) ?_ ?_⟩
    · subst e
      exact same_t (same_new hL) hS
    · rintro i x H1 hi rfl
      obtain ⟨t, g, rfl, he, ht⟩ := hR.get hi
      refine ⟨rfl, _, rfl, t, _, _, _, rfl, rfl, SqT.of (same_new hL _ _ ht), atI_nat (j := 0) rfl, _, upd_same, ?_, ?_⟩
      · rw [List.length_map, List.length_take]
        exact line6 (by omega)
      · rw [upd_upd, take_map_succ (f := fun g => V.int (len g)) he]
    · rintro H1 rfl
      rw [hR.len, List.take_length]
      have s1 := same_new (o := .lst (gs.map fun g => V.int (len g))) hL
      refine ⟨L, gs.map len, rfl, SqL.of (by rw [List.map_map]; exact upd_same), ?_⟩
      rw [ns_sum]
      generalize upd H L (.lst (gs.map fun g => V.int (len g))) = H1 at s1
      have hS1 := same_t s1 hS
      refine ⟨_, rfl, p, rfl, ⟨_, hS1⟩, fun L2 hL2 => lc_tup (xs := xs) (fun i H' => Same H1 H' ∧ ∃ ws, H' L2 = some (.lst ws) ∧ Rls (FrR H' (M3 gs)) ws ((gs.take i).map (F1 gs))) ⟨same_new hL2, [], upd_same, Rls.nil⟩ (fun i H' _ e => same_t e.1 hS1) ?_ ?_⟩
      · rintro i x H2 hi ⟨s2, ws, hL3, hW⟩
        obtain ⟨t, g, rfl, he, ht⟩ := hR.get hi
        have hm := List.mem_of_getElem? he
        obtain ⟨g1, g2, g3⟩ := hg.g g hm
        have ht2 := s2 _ _ (s1 _ _ ht)
        refine ⟨rfl, _, rfl, t, _, _, _, rfl, rfl, SqT.of ht2, atI_nat (j := 0) rfl, _, rfl, len g, (nn' gs : Int), rfl, npos, num_sz hg hm, fun p1 hp1 => ?_⟩
        have s3 := same_new (o := tupF (fr (len g) (nn' gs))) hp1
        have h3 := upd_same (H := H2) (a := p1) (o := tupF (fr (len g) (nn' gs)))
        have hL4 := s3 _ _ hL3
        generalize upd H2 p1 (tupF (fr (len g) (nn' gs))) = H3 at s3 h3 hL4
        refine ⟨_, rfl, t, g, rfl, s3 _ _ ht2, by omega, g3, fun H4 s4 => ⟨fun e => absurd e g1, fun r _ hr => ?_⟩⟩
        refine ⟨p1, r, _, spr g, rfl, s4 _ _ h3, hr, sh_sz hg hm, spr_sz' hg hm, mul2_ne (fr_sh hg g).low (spr_low g1), fun r2 hr2 => ?_⟩
        have s5 := (s3.trans s4).trans (same_new (o := tupF (F1 gs g).1) hr2)
        have hL5 := same_new (o := tupF (F1 gs g).1) hr2 _ _ (s4 _ _ hL4)
        have h5 := upd_same (H := H4) (a := r2) (o := tupF (F1 gs g).1)
        refine ⟨_, hL5, ?_, same_mut (s2.trans s5) hL2, _, upd_same, ?_⟩
        · rw [hW.len, List.length_map, List.length_take]
          exact line6 (by omega)
        · rw [List.take_add_one, he, List.map_append]
          exact fr_mut hL5 ((fr_same s5 hW).snoc ⟨h5, F1_ok hg hm⟩)
      · rintro H2 ⟨s2, ws, hL3, hW⟩
        rw [hR.len, List.take_length] at hW
        refine ⟨L2, ws, gs.map (F1 gs), M3 gs, rfl, SqL.of hL3, hW, by rw [List.length_map]; omega, fun e he => ?_, M3_pos hg, Nat.lt_trans (M3_sz hg) (by decide), fun H3 r f s3 hr ff => q _ r f ((s1.trans s2).trans s3) hr ?_⟩
        · obtain ⟨g, hm, rfl⟩ := List.mem_map.mp he
          exact Nat.le_of_lt (n_up (t1_sz hg hm) (by decide))
        · rw [List.map_map] at ff
          exact ff
theorem ok_spread_between (T : Txt K mg) (D_make_fraction : Kept P w K mg base 1 "make_fraction" ["n", "d"] spFrac) (D_difference_of : Kept P w K mg base 2 "difference_of" ["a", "b"] (spBin K sub2)) (D_product_of : Kept P w K mg base 2 "product_of" ["a", "b"] (spBin K mul2)) (D_total_of : Kept P w K mg base 3 "total_of" ["fractions"] (spTotal K)) (D_mean_of : Kept P w K mg base 2 "mean_of" ["tally"] (spMean K)) {f : Addr} {fd : FuncData} (F : FnP K "spread_between" s_spread_between f fd) : FnOk P w K mg base CX0 4 f fd ["tallies"] (spBetween K) := by
  refine F.ok sc_spread_between (fun vs H Q E h => ?_) (fun cdv A outer s H vs Q E hr h => ?_)
  · obtain ⟨p, xs, gs, rfl, _⟩ := h
    rfl
  · obtain ⟨p, xs, gs, rfl, hS, hR, hg, q⟩ := h
    have few := hg.few
    have npos : ((nn' gs : Nat) : Int) ≠ 0 := by
      have := nn'_pos hg
      omega
    refine ⟨_, PSs.nox (pss_cons (ps_set (i := 1) sc_spread_between.nd rfl (Or.inl rfl) (pe_callB (cr_sum rfl) (by rfl) T.b_sum (by decide +kernel) (pa_cons (pe_lc (own := [("tally", 2)]) (g := (gName 2)) (tt := tYes) rfl sc_spread_between.nd (pi_tup (pv 0)) (blkOk_by (N := N_spread_between) (sc := defScope s_spread_between) (by decide +kernel)) (fun _ _ _ _ _ => (pg_name (i := 2) sc_spread_between.nd rfl (Or.inl rfl))) (fun _ _ _ _ _ => pts_nil) (fun _ _ _ _ _ => (pe_ix (ixT (K := K) rfl) (pv 2) pe_int (fun _ _ => rfl)))) pa_nil)))
      (pss_cons (ps_set (i := 3) sc_spread_between.nd rfl (Or.inl rfl) (pe_d D_make_fraction (hr.mono (by decide)) (by rfl) (pa_cons (pe_callB (cr_sum rfl) (by rfl) T.b_sum (by decide +kernel) (pa_cons (pe_lc (own := [("tally", 2)]) (g := (gName 2)) (tt := tYes) rfl sc_spread_between.nd (pi_tup (pv 0)) (blkOk_by (N := N_spread_between) (sc := defScope s_spread_between) (by decide +kernel)) (fun _ _ _ _ _ => (pg_name (i := 2) sc_spread_between.nd rfl (Or.inl rfl))) (fun _ _ _ _ _ => pts_nil) (fun _ _ _ _ _ => (pe_ix (ixT (K := K) rfl) (pv 2) pe_int (fun _ _ => rfl)))) pa_nil)) (pa_cons (pv 1) pa_nil))))
      (pss_cons (ps_set (i := 4) sc_spread_between.nd rfl (Or.inl rfl) (pe_lst pa_nil))
      (pss_cons (ps_for PassesOwn.never rfl (pi_tup (pv 0)) (pg_name (i := 2) sc_spread_between.nd rfl (Or.inl rfl)) (pss_cons (ps_set (i := 5) sc_spread_between.nd rfl (Or.inl rfl) (pe_d D_difference_of (hr.mono (by decide)) (by rfl) (pa_cons (pe_d D_mean_of (hr.mono (by decide)) (by rfl) (pa_cons (pv 2) pa_nil)) (pa_cons (pv 3) pa_nil))))
      (pss_one (ps_expr (pe_bm PySem.F.plainAttrs_list PySem.F.slot_list_append PySem.F.type_list_append mt_append (pv 4) (pa_cons (pe_d D_product_of (hr.mono (by decide)) (by rfl) (pa_cons (pe_d D_make_fraction (hr.mono (by decide)) (by rfl) (pa_cons (pe_ix (ixT (K := K) rfl) (pv 2) pe_int (fun _ _ => rfl)) (pa_cons (pv 1) pa_nil))) (pa_cons (pe_d D_product_of (hr.mono (by decide)) (by rfl) (pa_cons (pv 5) (pa_cons (pv 5) pa_nil))) pa_nil))) pa_nil))))))
      (pss_one (ps_ret (pe_d D_total_of (hr.mono (by decide)) (by rfl) (pa_cons (pv 4) pa_nil)))))))), ?_⟩
    refine ⟨_, rfl, p, rfl, ⟨_, hS⟩, fun L hL => lc_tup (xs := xs) (fun i H' => H' = upd H L (.lst ((gs.take i).map fun g => V.int (len g)))) rfl (fun i H' _ e => ?_) ?_ ?_⟩
    · subst e
      exact same_t (same_new hL) hS
    · rintro i x H1 hi rfl
      obtain ⟨t, g, rfl, he, ht⟩ := hR.get hi
      refine ⟨rfl, _, rfl, t, _, _, _, rfl, rfl, SqT.of (same_new hL _ _ ht), atI_nat (j := 0) rfl, _, upd_same, ?_, ?_⟩
      · rw [List.length_map, List.length_take]
        exact line6 (by omega)
      · rw [upd_upd, take_map_succ (f := fun g => V.int (len g)) he]
    · rintro H1 rfl
      rw [hR.len, List.take_length]
      have s1 := same_new (o := .lst (gs.map fun g => V.int (len g))) hL
      refine ⟨L, gs.map len, rfl, SqL.of (by rw [List.map_map]; exact upd_same), ?_⟩
      rw [ns_sum]
      generalize upd H L (.lst (gs.map fun g => V.int (len g))) = H1 at s1
      have hS1 := same_t s1 hS
      have hR1 := tl_same s1 hR
      refine ⟨_, rfl, p, rfl, ⟨_, hS1⟩, fun L2 hL2 => lc_tup (xs := xs) (fun i H' => H' = upd H1 L2 (.lst ((gs.take i).map fun g => V.int g.sum))) rfl (fun i H' _ e => ?_) ?_ ?_⟩
      · subst e
        exact same_t (same_new hL2) hS1
      · rintro i x H2 hi rfl
        obtain ⟨t, g, rfl, he, ht⟩ := hR1.get hi
        refine ⟨rfl, _, rfl, t, _, _, _, rfl, rfl, SqT.of (same_new hL2 _ _ ht), atI_nat (j := 1) rfl, _, upd_same, ?_, ?_⟩
        · rw [List.length_map, List.length_take]
          exact line6 (by omega)
        · rw [upd_upd, take_map_succ (f := fun g => V.int g.sum) he]
      · rintro H2 rfl
        rw [hR.len, List.take_length]
        have s2 := s1.trans (same_new (o := .lst (gs.map fun g => V.int g.sum)) hL2)
        refine ⟨L2, gs.map List.sum, rfl, SqL.of (by rw [List.map_map]; exact upd_same), ?_⟩
        rw [← flat_sum]
        generalize upd H1 L2 (.lst (gs.map fun g => V.int g.sum)) = H2 at s2
        have rsz : Sz 80 (gs.flatten.sum, (nn' gs : Int)) := by
          have h1 := sum_few hg.fewA
          have h2 := hg.all
          refine ⟨?_, sz_nat (show nn' gs < 2 ^ 80 by unfold nn'; omega)⟩
          show gs.flatten.sum.natAbs < 2 ^ 80
          omega
        refine ⟨_, rfl, gs.flatten.sum, (nn' gs : Int), rfl, npos, sz_up rsz (by decide), fun pm hpm => ?_⟩
        have s3 := s2.trans (same_new (o := tupF (fr gs.flatten.sum (nn' gs))) hpm)
        have hm3 := upd_same (H := H2) (a := pm) (o := tupF (fr gs.flatten.sum (nn' gs)))
        generalize upd H2 pm (tupF (fr gs.flatten.sum (nn' gs))) = H3 at s3 hm3
        refine ⟨Nat.zero_le _, fun L3 hL3 => ?_⟩
        have s4 := same_new (o := .lst []) hL3
        have h4 := upd_same (H := H3) (a := L3) (o := .lst [])
        generalize eH : upd H3 L3 (.lst []) = H4 at s4 h4
        have hS3 := same_t s3 hS
        have hR3 := tl_same s3 hR
        refine ⟨_, rfl, p, rfl, ⟨_, same_t s4 hS3⟩, for_tup (K := K) (a := p) (xs := xs) (fun i σ H' => ∃ (y2 y5 : Option V) (ws : List V), σ = [some (.ref p), some (.int (nn' gs : Int)), y2, some (.ref pm), some (.ref L3), y5] ∧ Same H3 H' ∧ H' L3 = some (.lst ws) ∧ Rls (FrR H' (M3 gs)) ws ((gs.take i).map (F3 gs))) ⟨none, none, [], rfl, s4, h4, Rls.nil⟩ (fun i σ H' _ ⟨_, _, _, _, s, _⟩ => same_t s hS3) ?_ ?_⟩
        · rintro i x σ H5 hi ⟨y2, y5, ws, rfl, s5, hL5, hW⟩
          obtain ⟨t, g, rfl, he, ht⟩ := hR3.get hi
          have hm := List.mem_of_getElem? he
          obtain ⟨g1, g2, g3⟩ := hg.g g hm
          refine ⟨_, rfl, t, g, rfl, s5 _ _ ht, by omega, g3, fun H6 s6 => ⟨fun e => absurd e g1, fun r _ hr => ?_⟩⟩
          have s56 := s5.trans s6
          have z1 : Sz 1900 (mn g) := sz_up (mn_sz (by omega) g3) (by decide)
          have z2 : Sz 1900 (fr gs.flatten.sum (nn' gs)) := sz_up (fr_sz rsz) (by decide)
          have l1 := (fr_mn g1 g2 hg.pos).low
          have l2 := (fr_row (row := gs.flatten) rfl hg.pos).low
          refine ⟨_, rfl, r, pm, mn g, _, rfl, hr, s56 _ _ hm3, z1, z2, sub2_ne l1 l2, fun pd hpd => ?_⟩
          have s7 := s6.trans (same_new (o := tupF (Fd gs g)) hpd)
          have hd7 := upd_same (H := H6) (a := pd) (o := tupF (Fd gs g))
          have hL7 := same_new (o := tupF (Fd gs g)) hpd _ _ (s6 _ _ hL5)
          have fd := Fd_ok hg hm
          have zd : Sz 1900 (Fd gs g) := sz_up (Fd_sz hg hm) (by decide)
          show tSeq _ _ _ _ (upd H6 pd (tupF (Fd gs g)))
          generalize upd H6 pd (tupF (Fd gs g)) = H7 at s7 hd7 hL7
          have ht7 := s7 _ _ (s5 _ _ ht)
          refine ⟨_, rfl, .inl ⟨rfl, _, SqL.of hL7⟩, _, rfl, t, _, _, _, rfl, rfl, SqT.of ht7, atI_nat (j := 0) rfl, _, rfl, len g, (nn' gs : Int), rfl, npos, num_sz hg hm, fun p1 hp1 => ?_⟩
          have s8 := s7.trans (same_new (o := tupF (fr (len g) (nn' gs))) hp1)
          have h8 := upd_same (H := H7) (a := p1) (o := tupF (fr (len g) (nn' gs)))
          have hd8 := same_new (o := tupF (fr (len g) (nn' gs))) hp1 _ _ hd7
          have hL8 := same_new (o := tupF (fr (len g) (nn' gs))) hp1 _ _ hL7
          generalize upd H7 p1 (tupF (fr (len g) (nn' gs))) = H8 at s8 h8 hd8 hL8
          have fdd := fd.mul fd
          have zdd : Sz 1900 (frp (mul2 (Fd gs g) (Fd gs g))) := sz_up (fr_sz (mul2_sz (Fd_sz hg hm) (Fd_sz hg hm))) (by decide)
          refine ⟨_, rfl, _, rfl, pd, pd, _, _, rfl, hd8, hd8, zd, zd, mul2_ne fd.low fd.low, fun p2 hp2 => ?_⟩
          have s9 := s8.trans (same_new (o := tupF (frp (mul2 (Fd gs g) (Fd gs g)))) hp2)
          have h9 := same_new (o := tupF (frp (mul2 (Fd gs g) (Fd gs g)))) hp2 _ _ h8
          have hL9 := same_new (o := tupF (frp (mul2 (Fd gs g) (Fd gs g)))) hp2 _ _ hL8
          have h92 := upd_same (H := H8) (a := p2) (o := tupF (frp (mul2 (Fd gs g) (Fd gs g))))
          generalize upd H8 p2 (tupF (frp (mul2 (Fd gs g) (Fd gs g)))) = H9 at s9 h9 hL9 h92
          refine ⟨p1, p2, _, _, rfl, h9, h92, sh_sz hg hm, zdd, mul2_ne (fr_sh hg g).low fdd.low, fun r2 hr2 => ?_⟩
          have s10 := s9.trans (same_new (o := tupF (F3 gs g).1) hr2)
          have hL10 := same_new (o := tupF (F3 gs g).1) hr2 _ _ hL9
          have h10 := upd_same (H := H9) (a := r2) (o := tupF (F3 gs g).1)
          refine ⟨L3, ws, _, rfl, rfl, hL10, ?_, _, _, _, rfl, same_mut (s5.trans s10) hL3, upd_same, ?_⟩
          · rw [hW.len, List.length_map, List.length_take]
            exact line6 (by omega)
          · rw [List.take_add_one, he, List.map_append]
            exact fr_mut hL10 ((fr_same s10 hW).snoc ⟨h10, F3_ok hg hm⟩)
        · rintro σ H5 ⟨y2, y5, ws, rfl, s5, hL5, hW⟩
          rw [hR.len, List.take_length] at hW
          refine ⟨_, rfl, L3, ws, gs.map (F3 gs), M3 gs, rfl, SqL.of hL5, hW, by rw [List.length_map]; omega, fun e he => ?_, M3_pos hg, Nat.lt_trans (M3_sz hg) (by decide), fun H6 r f s6 hr ff => q _ r f ((s3.trans s5).trans s6) hr ?_⟩
          · obtain ⟨g, hm, rfl⟩ := List.mem_map.mp he
            exact Nat.le_of_lt (n_up (t2_sz hg hm) (by decide))
          · rw [List.map_map] at ff
            exact ff
end
end Mt
namespace Mt
open PySem PySem.Spec PyProof.Rows L2
def seg (ns : List Int) (l j : Nat) : List Int := (ns.drop (j * l)).take l
def cuts (ns : List Int) (l : Nat) : List (List Int) := (List.range (ns.length / l)).map (seg ns l)
theorem seg_len {ns : List Int} {l j q : Nat} (h : q * l ≤ ns.length) (hj : j < q) : (seg ns l j).length = l := by
  unfold seg
  rw [List.length_take, List.length_drop]
  have : (j + 1) * l ≤ q * l := Nat.mul_le_mul_right _ hj
  rw [Nat.add_mul, Nat.one_mul] at this
  omega
theorem range_snoc {α : Type} (f : Nat → α) (q : Nat) : (List.range q).map f ++ [f q] = (List.range (q + 1)).map f := by
  rw [List.range_succ, List.map_append]
  rfl
theorem addL {S D L : Addr} {H0 H : Hp} {ns : List Int} (z : Int) (L0 : H0 L = none) (d0 : DrawAt S D H0) (g : Go S D H0 H) : Go S D H0 (upd H L (.lst (ns.map V.int ++ [.int z]))) ∧ (upd H L (.lst (ns.map V.int ++ [.int z]))) L = some (.lst ((ns ++ [z]).map V.int)) := by
  obtain ⟨LD, LS⟩ := d0.free L0
  obtain ⟨cs, hc⟩ := g.1.cells
  obtain ⟨j, r, c, j0, hD⟩ := g.1.at_
  refine ⟨⟨⟨g.1.ne, ⟨cs, ?_⟩, ⟨j, r, c, j0, ?_⟩⟩, fun b o h n => ?_⟩, by rw [upd_same, List.map_append]; rfl⟩
  · rw [upd_ne LS.symm]
    exact hc
  · rw [upd_ne LD.symm]
    exact hD
  · rw [upd_ne (ne_of_none h L0)]
    exact g.2 b o h n
abbrev GrR2 (H : Hp) (L : Addr) (t : Addr) (g : List Int) : Prop := GrR H t g ∧ t ≠ L
theorem gr_same {H H' : Hp} {L : Addr} {vs : List V} {gs : List (List Int)} (s : Same H H') (h : Rls (GrR2 H L) vs gs) : Rls (GrR2 H' L) vs gs := h.mono fun _ _ r => ⟨s _ _ r.1, r.2⟩
theorem gr_mut {H : Hp} {L : Addr} {o : HO} {vs : List V} {gs : List (List Int)} (h : Rls (GrR2 H L) vs gs) : Rls (GrR2 (upd H L o) L) vs gs := h.mono fun _ _ r => ⟨by show upd H L o _ = _; rw [upd_ne r.2]; exact r.1, r.2⟩
def spSame (K : PySem.W.Frag) : Sp := fun vs H Q _ => ∃ (p q : Addr) (l : List Int), vs = [.ref p, .ref q] ∧ H p = some (.tup (tal l)) ∧ H q = some (.tup (tal l)) ∧ ∀ H', Same H H' → Q (.bl true) H'
def spLine : Sp := fun vs H Q _ => ∃ (S D : Addr) (m : Int), vs = [.ref D, .int m] ∧ 0 ≤ m ∧ m ≤ 60 ∧ DrawAt S D H ∧ ∀ (H' : Hp) (L : Addr) (ns : List Int), Go S D H H' → H L = none → H' L = some (.lst (ns.map V.int)) → ns.length = m.toNat → Few ns → Q (.ref L) H'
def spCut (K : PySem.W.Frag) : Sp := fun vs H Q _ => ∃ (a : Addr) (ns : List Int) (l : Nat), vs = [.ref a, .int (l : Int)] ∧ SqL K H a (ns.map V.int) ∧ 1 ≤ l ∧ ns.length ≤ 60 ∧ ∀ (H' : Hp) (L : Addr) (ws : List V), Same H H' → H' L = some (.lst ws) → Rls (GrR2 H' L) ws (cuts ns l) → Q (.ref L) H'
section
variable {P : Program} {w : World} {K : PySem.W.Frag} {mg : Str → Option Value} {base : Heap}
theorem ok__law_same (T : Txt K mg) (D__law_is_int : Kept P w K mg base 1 "_law_is_int" ["thing"] spIsInt) {f : Addr} {fd : FuncData} (F : FnP K "_law_same" s__law_same f fd) : FnOk P w K mg base CX0 2 f fd ["told", "due"] (spSame K) := by
  refine F.ok sc__law_same (fun vs H Q E h => ?_) (fun cdv A outer s H vs Q E hr h => ?_)
  · obtain ⟨p, q, l, rfl, _⟩ := h
    rfl
  · obtain ⟨p, q, l, rfl, hp, hq, fin⟩ := h
    refine ⟨_, PSs.nox (pss_cons (ps_if (PW.pt (pw_or (pt_not (pt_val (pe_callB call_isi (by rfl) T.b_isinstance (by decide +kernel) (pa_cons (pv 0) (pa_cons (pe_bltn (v := .ty "tuple") (u := .type "tuple") (by rfl) T.b_tuple (by decide +kernel) rfl) pa_nil))))) (pw_or1 (pt_cmpR op_ne (pe_callB call_len (by rfl) T.b_len (by decide +kernel) (pa_cons (pv 0) pa_nil)) pe_int (nomark _))))) (pss_one (ps_ret pe_bl)) pss_nil)
      (pss_one (ps_ret (pe_and (pe_cmpR (op_eqD (hr.units)) (pv 0) (pv 1) (nomark _)) (pe_one (pe_callB (cr_all rfl) (by rfl) T.b_all (by decide +kernel) (pa_cons (pe_lc (own := [("part", 2)]) (g := (gName 2)) (tt := tYes) rfl sc__law_same.nd (pi_tup (pv 0)) (blkOk_by (N := N__law_same) (sc := defScope s__law_same) (by decide +kernel)) (fun _ _ _ _ _ => (pg_name (i := 2) sc__law_same.nd rfl (Or.inl rfl))) (fun _ _ _ _ _ => pts_nil) (fun _ _ _ _ _ => (pe_or (pe_cmpR op_isN (pv 2) pe_non (nomark _)) (pe_one (pe_d D__law_is_int (hr.mono (by decide)) (by rfl) (pa_cons (pv 2) pa_nil)))))) pa_nil))))))), ?_⟩
    refine ⟨_, rfl, _, .ty "tuple", .type "tuple", .type "tuple", true, rfl, .ty _, .base (.tup hp), kit_ty (by decide +kernel), true, rfl, ?_⟩
    refine ⟨_, rfl, _, _, rfl, .inr ⟨_, SqT.of hp, rfl⟩, rfl, _, rfl, ?_⟩
    refine iteNS rfl ?_
    refine ⟨_, rfl, _, rfl, dT l, dT l, dp_T hp, dp_T hq, dT_sh l, dT_sh l, _, rfl, ?_⟩
    rw [dT_eqv]
    refine ite2 (fun _ => ?_) (fun n => absurd rfl n)
    refine ⟨_, rfl, p, rfl, ⟨_, SqT.of hp⟩, fun L hL => lc_tup (xs := tal l) (fun i H' => H' = upd H L (.lst (((tal l).take i).map fun _ => V.bl true))) rfl (fun i H' _ e => ?_) ?_ ?_⟩
    · subst e
      exact SqT.of (same_new hL _ _ hp)
    · rintro i x H1 hi rfl
      have ex : x = .non ∨ ∃ z : Int, x = .int z := by
        have o : ∀ o : Option Int, vO o = .non ∨ ∃ z : Int, vO o = .int z := fun o => by
          cases o with
          | none => exact .inl rfl
          | some z => exact .inr ⟨z, rfl⟩
        have := List.mem_of_getElem? hi
        unfold tal at this
        simp only [List.mem_cons, List.not_mem_nil, or_false] at this
        rcases this with h | h | h | h | h
        · exact .inr ⟨_, h⟩
        · exact .inr ⟨_, h⟩
        · exact .inr ⟨_, h⟩
        · rw [h]
          exact o _
        · rw [h]
          exact o _
      have sz : (List.map (fun _ => V.bl true) ((tal l).take i)).length < sizeLine := by
        rw [List.length_map, List.length_take]
        exact line6 (by show min i 5 < _; omega)
      have st : upd (upd H L (.lst (((tal l).take i).map fun _ => V.bl true))) L (.lst (((tal l).take i).map (fun _ => V.bl true) ++ [V.bl true])) = upd H L (.lst (((tal l).take (i + 1)).map fun _ => V.bl true)) := by
        rw [upd_upd, take_map_succ (f := fun _ => V.bl true) hi]
      rcases ex with rfl | ⟨z, rfl⟩
      · refine ⟨rfl, _, rfl, rfl, _, rfl, ?_⟩
        refine ite2 (fun _ => ⟨_, upd_same, sz, st⟩) (fun n => absurd (by rfl) n)
      · refine ⟨rfl, _, rfl, rfl, _, rfl, ?_⟩
        refine ite2 (fun n => by cases of_decide_eq_true n) (fun _ => ⟨_, rfl, z, rfl, _, upd_same, sz, st⟩)
    · rintro H' rfl
      rw [List.take_length]
      refine ⟨L, (tal l).map fun _ => true, rfl, SqL.of (by rw [upd_same, List.map_map]; rfl), ?_⟩
      rw [all_true]
      exact fin _ (same_new hL)
theorem ok__law_cut (T : Txt K mg) {f : Addr} {fd : FuncData} (F : FnP K "_law_cut" s__law_cut f fd) : FnOk P w K mg base CX0 1 f fd ["row", "length"] (spCut K) := by
  refine F.ok sc__law_cut (fun vs H Q E h => ?_) (fun cdv A outer s H vs Q E hr h => ?_)
  · obtain ⟨a, ns, l, rfl, _⟩ := h
    rfl
  · obtain ⟨a, ns, l, rfl, hS, hl, hn, fin⟩ := h
    refine ⟨_, PSs.nox (pss_cons (ps_set (i := 2) sc__law_cut.nd rfl (Or.inl rfl) (pe_lst pa_nil))
      (pss_cons (ps_set (i := 3) sc__law_cut.nd rfl (Or.inl rfl) (pe_lst pa_nil))
      (pss_cons (ps_for PassesOwn.never rfl (pi_list (pv 0)) (pg_name (i := 4) sc__law_cut.nd rfl (Or.inl rfl)) (pss_cons (ps_set (i := 3) sc__law_cut.nd rfl (Or.inl rfl) (pe_op op_cat (pv 3) (pe_lst (pa_cons (pv 4) pa_nil))))
      (pss_one (ps_if (pt_cmpR op_eq (pe_callB call_len (by rfl) T.b_len (by decide +kernel) (pa_cons (pv 3) pa_nil)) (pv 1) (nomark _)) (pss_cons (ps_expr (pe_bm PySem.F.plainAttrs_list PySem.F.slot_list_append PySem.F.type_list_append mt_append (pv 2) (pa_cons (pv 3) pa_nil)))
      (pss_one (ps_set (i := 3) sc__law_cut.nd rfl (Or.inl rfl) (pe_lst pa_nil)))) pss_nil))))
      (pss_one (ps_ret (pv 2)))))), ?_⟩
    refine ⟨Nat.zero_le _, fun L hL => ⟨Nat.zero_le _, fun G hG => ?_⟩⟩
    have s0 := same_new (o := .lst []) hL
    have GL : G ≠ L := fun e => by
      rw [e, upd_same] at hG
      cases hG
    have s1 := same_new (o := .lst []) hG
    refine ⟨_, rfl, a, rfl, ⟨_, same_l (s0.trans s1) hS⟩, for_list (K := K) (a := a) (xs := ns.map V.int) (fun i σ H' => ∃ (q r : Nat) (G : Addr) (ws : List V) (y : Option V), i = q * l + r ∧ r < l ∧ σ = [some (.ref a), some (.int (l : Int)), some (.ref L), some (.ref G), y] ∧ Same H H' ∧ H' L = some (.lst ws) ∧ Rls (GrR2 H' L) ws ((List.range q).map (seg ns l)) ∧ H' G = some (.lst (((ns.drop (q * l)).take r).map V.int)) ∧ G ≠ L)
      ⟨0, 0, G, [], none, by simp, by omega, rfl, s0.trans s1, s1 _ _ upd_same, Rls.nil, upd_same, GL⟩ (fun i σ H' _ ⟨_, _, _, _, _, _, _, _, s, _⟩ => same_l s hS) ?_ ?_⟩
    · rintro i x σ H2 hi ⟨q, r, G, ws, y, hqr, hr1, rfl, s2, hL2, hW, hG2, nG⟩
      obtain ⟨z, rfl, hz⟩ := getV hi
      have hiN := (List.getElem?_eq_some_iff.mp hz).1
      have wl : ws.length = q := by rw [hW.len, List.length_map, List.length_range]
      have ql : q ≤ q * l := Nat.le_mul_of_pos_right _ hl
      have et : (ns.drop (q * l)).take (r + 1) = (ns.drop (q * l)).take r ++ [z] := by
        rw [List.take_add_one, List.getElem?_drop, ← hqr, hz]
        rfl
      have tl : ((ns.drop (q * l)).take r).length ≤ 60 := by
        rw [List.length_take, List.length_drop]
        omega
      refine ⟨_, rfl, _, rfl, by show 1 ≤ sizeLine; decide, fun p1 hp1 => ?_⟩
      have s3 := same_new (o := .lst [.int z]) hp1
      have h3 := upd_same (H := H2) (a := p1) (o := .lst [.int z])
      generalize upd H2 p1 (.lst [.int z]) = H3 at s3 h3
      refine ⟨G, p1, _, _, rfl, rfl, s3 _ _ hG2, h3, ?_, fun G2 hG3 => ?_⟩
      · rw [List.length_map]
        exact line5 (by show _ + 1 ≤ _; omega)
      have e3 : ((ns.drop (q * l)).take r).map V.int ++ [V.int z] = ((ns.drop (q * l)).take (r + 1)).map V.int := by
        rw [et, List.map_append]
        rfl
      rw [e3]
      have s4 := s3.trans (same_new (o := .lst (((ns.drop (q * l)).take (r + 1)).map V.int)) hG3)
      have hG4 := upd_same (H := H3) (a := G2) (o := .lst (((ns.drop (q * l)).take (r + 1)).map V.int))
      have hL3 := s3 _ _ hL2
      have nG2 : G2 ≠ L := (ne_of_none hL3 hG3).symm
      generalize upd H3 G2 (.lst (((ns.drop (q * l)).take (r + 1)).map V.int)) = H4 at s4 hG4
      have hL4 := s4 _ _ hL2
      have hW4 := gr_same s4 hW
      have el : (((ns.drop (q * l)).take (r + 1)).map V.int).length = r + 1 := by
        rw [et, List.map_append, List.length_append, List.length_map, List.length_take, List.length_drop]
        show min r _ + 1 = r + 1
        omega
      refine ⟨_, rfl, _, _, rfl, .inl ⟨_, SqL.of hG4, rfl⟩, _, rfl, rfl, _, rfl, ?_⟩
      rw [el]
      refine ite2 (fun e => ?_) (fun e => ?_)
      · have e : ((r + 1 : Nat) : Int) = (l : Int) := by
          have := of_decide_eq_true e
          injection this
        have e : r + 1 = l := by omega
        refine ⟨_, rfl, .inl ⟨rfl, _, SqL.of hL4⟩, _, rfl, L, ws, _, rfl, rfl, hL4, line6 (by omega), Nat.zero_le _, fun G5 hG5 => ?_⟩
        have s5 := s2.trans s4
        have s6 := same_mut (o := .lst (ws ++ [.ref G2])) s5 hL
        have s7 := s6.trans (same_new (o := .lst []) hG5)
        have hLm := upd_same (H := H4) (a := L) (o := .lst (ws ++ [.ref G2]))
        have n5 : G5 ≠ L := fun z => by
          rw [z, hLm] at hG5
          cases hG5
        refine ⟨q + 1, 0, G5, ws ++ [.ref G2], _, ?_, hl, rfl, s7, same_new hG5 _ _ hLm, ?_, ?_, n5⟩
        · rw [hqr, Nat.add_mul]
          omega
        · rw [← range_snoc]
          refine gr_same (same_new hG5) ((gr_mut hW4).snoc ⟨?_, nG2⟩)
          show upd H4 L _ G2 = some (.lst ((seg ns l q).map V.int))
          rw [upd_ne nG2, hG4, e]
          rfl
        · rw [upd_same, List.take_zero]
          rfl
      · have e : r + 1 < l := by
          rcases Nat.lt_or_ge (r + 1) l with h | h
          · exact h
          · have : r + 1 = l := by omega
            exact absurd (decide_eq_true (by rw [this])) e
        exact ⟨q, r + 1, G2, ws, _, by omega, e, rfl, s2.trans s4, hL4, hW4, hG4, nG2⟩
    · rintro σ H2 ⟨q, r, G, ws, y, hqr, hr1, rfl, s2, hL2, hW, hG2, nG⟩
      rw [List.length_map] at hqr
      have eq : ns.length / l = q := by
        rw [hqr, Nat.mul_comm, Nat.mul_add_div hl, Nat.div_eq_of_lt hr1, Nat.add_zero]
      refine ⟨_, rfl, fin _ L ws s2 hL2 ?_⟩
      unfold cuts
      rw [eq]
      exact hW
end
end Mt
namespace Mt
open PySem PySem.Spec PyProof.Rows L2
theorem sl_tupAK {X : Cx} {K : PySem.W.Frag} (h : X.K = K) : SlR X (rSlA K) := h ▸ sl_tupA
abbrev BC (K : PySem.W.Frag) : Addr := (He.cT K ("batches", none)).1
abbrev BP (K : PySem.W.Frag) : Addr := (He.cT K ("batches", none)).2
def spBatch (K : PySem.W.Frag) : Sp := fun vs H Q _ => ∃ (a : Addr) (ns : List Int) (l : Nat), vs = [.ref a, .int (l : Int)] ∧ SqT K H a (ns.map V.int) ∧ 1 ≤ l ∧ l ≤ 100 ∧ ns.length ≤ 60 ∧ Few ns ∧ GxR.TabG H (BP K) ∧ ∀ (H' : Hp) (p : Addr) (ws : List V), TS (BP K) H H' → H' p = some (.tup ws) → Rls (TlR H') ws (cuts ns l) → Q (.ref p) H'
theorem sqt_ts {P p : Addr} {H H' : Hp} {K : PySem.W.Frag} {xs : List V} (t : GxR.TabG H P) (a : TS P H H') (h : SqT K H p xs) : SqT K H' p xs := by
  obtain ⟨ps, h0, _⟩ := t
  rcases h with (h | ⟨o, h⟩) | h
  · exact .inl (.inl (a.2 _ _ (fun e => by rw [e, h0] at h; cases h) h))
  · exact .inl (.inr ⟨o, a.2 _ _ (fun e => by rw [e, h0] at h; cases h) h⟩)
  · exact .inr h
section
variable {P : Program} {w : World} {K : PySem.W.Frag} {mg : Str → Option Value} {base : Heap}
theorem ok__law_line (T : Txt K mg) (D__law_draw : Kept P w K mg base 1 "_law_draw" ["d", "many"] spDraw) {f : Addr} {fd : FuncData} (F : FnP K "_law_line" s__law_line f fd) : FnOk P w K mg base CX0 2 f fd ["d", "many"] spLine := by
  refine F.ok sc__law_line (fun vs H Q E h => ?_) (fun cdv A outer s H vs Q E hr h => ?_)
  · obtain ⟨S, D, m, rfl, _⟩ := h
    rfl
  · obtain ⟨S, D, mm, rfl, mm0, mm1, d, q⟩ := h
    refine ⟨_, PSs.nox (pss_cons (ps_set (i := 2) sc__law_line.nd rfl (Or.inl rfl) (pe_d D__law_draw (hr.mono (by decide)) (by rfl) (pa_cons (pv 0) (pa_cons pe_int pa_nil))))
      (pss_cons (ps_set (i := 3) sc__law_line.nd rfl (Or.inl rfl) (pe_lst pa_nil))
      (pss_cons (ps_for PassesOwn.never rfl (pi_range1 (by rfl) T.b_range (pa_cons (pv 1) pa_nil)) (pg_name (i := 4) sc__law_line.nd rfl (Or.inl rfl)) (pss_one (ps_if (pt_cmpR op_eq (pv 2) pe_int (nomark _)) (pss_one (ps_expr (pe_bm PySem.F.plainAttrs_list PySem.F.slot_list_append PySem.F.type_list_append mt_append (pv 3) (pa_cons (pe_d D__law_draw (hr.mono (by decide)) (by rfl) (pa_cons (pv 0) (pa_cons pe_int pa_nil))) pa_nil)))) (pss_one (ps_if (PW.pt (pw_and (pt_cmpR op_eq (pv 2) pe_int (nomark _)) (pw_and1 (pt_cmpR op_gt (pv 4) pe_int (nomark _))))) (pss_one (ps_expr (pe_bm PySem.F.plainAttrs_list PySem.F.slot_list_append PySem.F.type_list_append mt_append (pv 3) (pa_cons (pe_ix ix_list (pv 3) pe_int (fun _ _ => rfl)) pa_nil)))) (pss_one (ps_if (pt_cmpR op_eq (pv 2) pe_int (nomark _)) (pss_one (ps_expr (pe_bm PySem.F.plainAttrs_list PySem.F.slot_list_append PySem.F.type_list_append mt_append (pv 3) (pa_cons (pe_op op_mul (pe_op op_add (pe_op op_mul (pe_d D__law_draw (hr.mono (by decide)) (by rfl) (pa_cons (pv 0) (pa_cons (pe_op op_pow pe_int pe_int) pa_nil))) (pe_op op_pow pe_int pe_int)) (pe_d D__law_draw (hr.mono (by decide)) (by rfl) (pa_cons (pv 0) (pa_cons (pe_op op_pow pe_int pe_int) pa_nil)))) (pe_op op_sub pe_int (pe_op op_mul pe_int (pe_d D__law_draw (hr.mono (by decide)) (by rfl) (pa_cons (pv 0) (pa_cons pe_int pa_nil)))))) pa_nil)))) (pss_one (ps_expr (pe_bm PySem.F.plainAttrs_list PySem.F.slot_list_append PySem.F.type_list_append mt_append (pv 3) (pa_cons (pe_op op_sub (pe_d D__law_draw (hr.mono (by decide)) (by rfl) (pa_cons (pv 0) (pa_cons pe_int pa_nil))) pe_int) pa_nil)))))))))))
      (pss_one (ps_ret (pv 3)))))), ?_⟩
    refine ⟨_, rfl, S, D, 5, rfl, divW_of (by decide) (by decide), d, fun H4 kd _ _ g => ?_⟩
    refine ⟨Nat.zero_le _, fun L hL => ?_⟩
    have LD := (g.1.free hL).1
    have e5 : (10 : Int) ^ (5 : Int).toNat = 100000 := by decide
    have e4 : (10 : Int) ^ (4 : Int).toNat = 10000 := by decide
    refine ⟨_, rfl, _, rfl, by omega, by omega, for_range (lo := 0) (n := mm.toNat) (fun i σ H' => ∃ (ns : List Int) (y : Option V), σ = [some (.ref D), some (.int mm), some (.int kd), some (.ref L), y] ∧ Go S D H4 H' ∧ H' L = some (.lst (ns.map V.int)) ∧ ns.length = i ∧ Few ns) ⟨[], none, rfl, Go.new g.1 hL, upd_same, rfl, few_nil⟩ ?_ ?_⟩
    · rintro i σ H5 hi ⟨ns, y, rfl, g5, hL5, hl, hf⟩
      have fin : ∀ (H6 : Hp) (z : Int), Go S D H5 H6 → z.natAbs ≤ 2 ^ 40 → ∃ (ns' : List Int) (y : Option V), [some (V.ref D), some (.int mm), some (.int kd), some (.ref L), some (.int (0 + (i : Int)))] = [some (.ref D), some (.int mm), some (.int kd), some (.ref L), y] ∧ Go S D H4 (upd H6 L (.lst (ns.map V.int ++ [.int z]))) ∧ (upd H6 L (.lst (ns.map V.int ++ [.int z]))) L = some (.lst (ns'.map V.int)) ∧ ns'.length = i + 1 ∧ Few ns' := fun H6 z g6 hz =>
        ⟨ns ++ [z], _, rfl, (addL (ns := ns) z hL g.1 (g5.trans g6)).1, (addL (ns := ns) z hL g.1 (g5.trans g6)).2, by rw [List.length_append, List.length_singleton, hl], few_add hf hz⟩
      have app : ∀ (H6 : Hp), Go S D H5 H6 → H6 L = some (.lst (ns.map V.int)) := fun H6 g6 => g6.2 _ _ hL5 LD
      have lz : (ns.map V.int).length < sizeLine := by
        rw [List.length_map]
        exact line6 (by omega)
      refine ⟨_, rfl, rfl, _, rfl, ?_⟩
      refine ite2 (fun _ => ?_) (fun _ => ?_)
      · exact ⟨_, rfl, .inl ⟨rfl, _, SqL.of hL5⟩, _, rfl, S, D, 2, rfl, divW_of (by decide) (by decide), g5.1, fun H6 z z0 z1 g6 => ⟨L, _, _, rfl, rfl, app H6 g6, lz, fin H6 z g6 (by omega)⟩⟩
      · refine (fun els => ⟨_, rfl, rfl, _, rfl, ite2 (fun _ => ⟨_, rfl, _, _, rfl, rfl, _, rfl, ite2 (fun e => ?A) (fun _ => els)⟩) (fun _ => ite2 (fun n => (nomatch n)) (fun _ => els))⟩) ?B
        case A =>
          have h0 : (0 : Int) < 0 + (i : Int) := of_decide_eq_true e
          cases ns with
          | nil =>
            have : (0 : Nat) = i := hl
            omega
          | cons z r =>
            exact ⟨_, rfl, .inl ⟨rfl, _, SqL.of hL5⟩, _, rfl, L, _, _, _, rfl, rfl, SqL.of hL5, atI_nat (j := 0) rfl, L, _, _, rfl, rfl, hL5, lz, fin H5 z (Go.refl g5.1) (hf z List.mem_cons_self)⟩
        case B =>
          refine ⟨_, rfl, rfl, _, rfl, ?_⟩
          refine ite2 (fun _ => ?_) (fun _ => ?_)
          · refine ⟨_, rfl, .inl ⟨rfl, _, SqL.of hL5⟩, _, rfl, _, _, rfl, rfl, ⟨by decide, by decide, by decide⟩, ?_⟩
            refine ⟨S, D, 100000, congrArg (fun i => [V.ref D, V.int i]) e5, divW_of (by decide) (by decide), g5.1, fun H6 v v0 v1 g6 => ⟨_, _, rfl, rfl, ⟨by decide, by decide, by decide⟩, ?_⟩⟩
            refine ⟨v, 10000, rfl, congrArg V.int e4, .inr ⟨by decide, by decide⟩, _, rfl, _, _, rfl, rfl, ⟨by decide, by decide, by decide⟩, ?_⟩
            refine ⟨S, D, 10000, congrArg (fun i => [V.ref D, V.int i]) e4, divW_of (by decide) (by decide), g6.1, fun H7 u u0 u1 g7 => ⟨_, _, rfl, rfl, ?_⟩⟩
            refine ⟨_, rfl, S, D, 2, rfl, divW_of (by decide) (by decide), g7.1, fun H8 b b0 b1 g8 => ⟨_, _, rfl, rfl, .inl ⟨by decide, by decide⟩, _, _, rfl, rfl, _, _, rfl, rfl, ?_, ?_⟩⟩
            · rcases (show b = 0 ∨ b = 1 by omega) with rfl | rfl
              · exact .inr ⟨by decide, by decide⟩
              · exact .inr ⟨by decide, by decide⟩
            · refine ⟨L, _, _, rfl, rfl, app H8 ((g6.trans g7).trans g8), lz, fin H8 _ ((g6.trans g7).trans g8) ?_⟩
              rcases (show b = 0 ∨ b = 1 by omega) with rfl | rfl <;> omega
          · exact ⟨_, rfl, .inl ⟨rfl, _, SqL.of hL5⟩, _, rfl, S, D, 19, rfl, divW_of (by decide) (by decide), g5.1, fun H6 z z0 z1 g6 => ⟨_, _, rfl, rfl, L, _, _, rfl, rfl, app H6 g6, lz, fin H6 _ g6 (by omega)⟩⟩
    · rintro σ H5 ⟨ns, y, rfl, g5, hL5, hl, hf⟩
      exact ⟨_, rfl, q H5 L ns (g.trans g5) (g.free d hL) hL5 hl hf⟩
theorem cut_mid (ns : List Int) (j l : Nat) : cutV (ns.map V.int) (some ((j * l : Nat) : Int)) (some (((j + 1) * l : Nat) : Int)) = (seg ns l j).map V.int := by
  unfold cutV seg
  rw [HT.sIx_nat, HT.sIx_nat, List.length_map, List.map_take, List.map_drop, Nat.add_mul, Nat.one_mul]
  by_cases h : j * l ≤ ns.length
  · rw [Nat.min_eq_left h]
    by_cases h2 : j * l + l ≤ ns.length
    · rw [Nat.min_eq_left h2, Nat.add_sub_cancel_left]
    · rw [Nat.min_eq_right (by omega), List.take_of_length_le (by rw [List.length_drop, List.length_map]; omega), List.take_of_length_le (by rw [List.length_drop, List.length_map]; omega)]
  · rw [Nat.min_eq_right (by omega), List.drop_of_length_le (by rw [List.length_map]; omega), List.drop_of_length_le (by rw [List.length_map]; omega), List.take_nil, List.take_nil]
theorem ok_batches (T : Txt K mg) (D_tally_of : Kept P w K mg base 1 "tally_of" ["values"] (spTally K)) (TB : GxR.TabB base mg (BC K) (BP K)) {fd : FuncData} (F : FnP K "batches" s_batches (He.fAd K ("batches", none)) fd) : FnOk P w K mg base CX0 6 (He.fAd K ("batches", none)) fd ["values", "length"] (spBatch K) := by
  refine okC F sc_batches (fun vs H Q E h => ?_) (fun cdv A outer s H vs Q E hc hr h => ?_)
  · obtain ⟨a, ns, l, rfl, _⟩ := h
    rfl
  · obtain ⟨a, ns, l, rfl, hS, hl, hl2, hn, hf, ht, q⟩ := h
    refine ⟨_, PSs.nox (pss_cons (ps_set (i := 2) sc_batches.nd rfl (Or.inl rfl) (pe_op op_fdivW (pe_callB call_len (by rfl) T.b_len (by decide +kernel) (pa_cons (pv 0) pa_nil)) (pv 1)))
      (pss_one (ps_ret (GXW.pe_tupX (GXW.pgen_gx (k := 1) (N := [".0", "values", "length", "at"]) (fr := ["values", "length"]) (js := [0, 1]) (g := (gName 3)) hr rfl TB hc (GXW.gsc_by (by decide +kernel)) (GXW.free_by (outer := defScope s_batches) (by decide +kernel)) (by decide +kernel) rfl (pi_range1 (by rfl) T.b_range (pa_cons (pv 2) pa_nil)) (fun _ _ _ _ _ _ _ => (pg_name (i := 3) (show ([".0", "values", "length", "at"] : List Str).Nodup by decide +kernel) rfl (Or.inl rfl))) (fun _ _ _ _ _ _ _ => pts_nil) (fun _ _ _ _ _ _ hr => (pe_d D_tally_of (hr.mono (by decide)) (by rfl) (pa_cons (pe_slice (sl_tupAK (K := K) rfl) (pv 1) (po_some (pe_op op_mul (pv 3) (pv 2))) (po_some (pe_op op_mul (pe_op op_add (pv 3) pe_int) (pv 2)))) pa_nil)))) (hr.mono (by decide)) (by rfl) T.b_tuple (by decide +kernel))))), ?_⟩
    have em : ((ns.length : Nat) : Int) / (l : Int) = ((ns.length / l : Nat) : Int) := by simp
    have ql : ns.length / l * l ≤ ns.length := Nat.div_mul_le_self _ _
    have ql2 : ns.length / l ≤ 60 := Nat.le_trans (Nat.div_le_self _ _) hn
    refine ⟨_, rfl, _, _, rfl, .inr ⟨_, hS, rfl⟩, _, rfl, _, _, rfl, rfl, divW_of (by omega) (by omega), ?_⟩
    have em' : (fun i j : Int => V.int (i / j)) ((ns.length : Nat) : Int) (l : Int) = V.int ((ns.length / l : Nat) : Int) := congrArg V.int em
    rw [List.length_map, em']
    unfold cuts at q
    clear em em'
    generalize ns.length / l = q0 at *
    refine ⟨_, rfl, _, rfl, by omega, by omega, ht, fun it H2 tb => ?_⟩
    have t1 := TS.of_tab (H := H) tb
    have hS2 : SqT K H2 a (ns.map V.int) := sqt_ts ht t1 hS
    refine GXW.gx_it (walk_range (lo := 0) (n := ((q0 : Nat) : Int).toNat)) (fun j ys σ H' => ∃ y3 : Option V, σ = [some (.ref it), some (.ref a), some (.int (l : Int)), y3] ∧ Same H2 H' ∧ Rls (TlR H') ys ((List.range j).map (seg ns l))) ⟨_, rfl, Same.refl _, Rls.nil⟩ (fun j ys σ H' _ _ => trivial) ?_ ?_
    · rintro j x ys σ H3' H3 hj ⟨y3, rfl, s3, hW⟩ hy
      obtain ⟨rfl, rfl⟩ := hy
      rw [Int.toNat_natCast] at hj
      have hl0 : (seg ns l j).length = l := seg_len ql hj
      have hfs : Few (seg ns l j) := (hf.drop _).take _
      have hS3 := same_t s3 hS2
      have jl : j * l ≤ 60 := by
        have : j * l ≤ q0 * l := Nat.mul_le_mul_right _ (Nat.le_of_lt hj)
        omega
      have e1 : (0 + (j : Int)) * (l : Int) = ((j * l : Nat) : Int) := by rw [Int.zero_add, Int.natCast_mul]
      have e2 : (0 + (j : Int) + 1) * (l : Int) = (((j + 1) * l : Nat) : Int) := by rw [Int.zero_add, Int.natCast_mul]; rfl
      have fin : ∀ (H6 : Hp) (p : Addr), Same H3 H6 → H6 p = some (.tup (tal (seg ns l j))) → ys.length < sizeLine ∧ ∃ y : Option V, [some (V.ref it), some (.ref a), some (.int (l : Int)), some (.int (0 + (j : Int)))] = [some (V.ref it), some (.ref a), some (.int (l : Int)), y] ∧ Same H2 H6 ∧ Rls (TlR H6) (ys ++ [.ref p]) ((List.range (j + 1)).map (seg ns l)) := fun H6 p s6 hp => by
        refine ⟨by rw [hW.len, List.length_map, List.length_range]; exact line6 (by omega), _, rfl, s3.trans s6, ?_⟩
        rw [← range_snoc]
        exact (tl_same s6 hW).snoc hp
      have lz : (seg ns l j).length ≤ 200 := by omega
      refine ⟨_, rfl, _, rfl, _, rfl, _, _, rfl, rfl, .inl ⟨by omega, by omega⟩, ((j * l : Nat) : Int), congrArg V.int e1, _, rfl, _, _, rfl, rfl, _, rfl, _, _, rfl, rfl, .inr ⟨by omega, by omega⟩, (((j + 1) * l : Nat) : Int), congrArg V.int e2, a, _, rfl, hS3, fun e => ?_, fun _ p hp => ?_⟩
      · have ec : cutV (ns.map V.int) (some ((j * l : Nat) : Int)) (some (((j + 1) * l : Nat) : Int)) = ns.map V.int := by
          unfold cutV
          rw [e.1, e.2, List.drop_zero, Nat.sub_zero, List.take_length]
        rw [cut_mid] at ec
        exact ⟨a, seg ns l j, rfl, by rw [ec]; exact hS3, lz, hfs, fun H6 p s6 hp => fin H6 p s6 hp⟩
      · rw [cut_mid]
        exact ⟨p, seg ns l j, rfl, SqT.of upd_same, lz, hfs, fun H6 p2 s6 hp2 => fin H6 p2 ((same_new hp).trans s6) hp2⟩
    · rintro ys σ H3 ⟨y3, rfl, s3, hW⟩ p hp
      have t2 := t1.trans ((TS.of_same t1.1 s3).trans (TS.new (o := .tup ys) (TS.of_same t1.1 s3).1 hp))
      refine q _ p ys t2 upd_same ?_
      rw [Int.toNat_natCast] at hW
      exact tl_same (same_new hp) hW
end
end Mt
namespace Mt
open PySem PySem.Spec PyProof.Rows L2
def spHolds (K : PySem.W.Frag) : Sp := fun vs H Q _ => ∃ (a : Addr) (ws : List V) (gs : List (List Int)), vs = [.ref a] ∧ SqL K H a ws ∧ Rls (GrR H) ws gs ∧ GsOk gs ∧ ∀ H', Same H H' → Q (.bl true) H'
theorem grr_same {H H' : Hp} {vs : List V} {gs : List (List Int)} (s : Same H H') (h : Rls (GrR H) vs gs) : Rls (GrR H') vs gs := h.mono fun _ _ r => s _ _ r
theorem Fr.share {f : F2} {I : Int} {m n : Nat} (h : Fr f I m) (hn : 0 < n) : Fr (frp (mul2 f (1, (n : Int)))) I (n * m) := by
  have := h.mul (Fr.unit hn)
  rw [Int.mul_one, Nat.mul_comm] at this
  exact this
def Iq (gs : List (List Int)) (g : List Int) : Int := sqx (MM (nn' gs)) (gm (nn' gs) g) g
def Oq (gs : List (List Int)) (g : List Int) : Int := len g * (dif gs g * dif gs g)
theorem N1_eq {gs : List (List Int)} (h : GsOk gs) : (gs.map (Iq gs)).sum = N1 gs := by
  refine sum_congr fun g hg => ?_
  obtain ⟨h1, h2, _⟩ := h.g g hg
  exact (gs2_eq h1 h2).symm
theorem N12_eq {gs : List (List Int)} (h : GsOk gs) : N1 gs + N2 gs = sqx (MM (nn' gs)) (wm gs.flatten) gs.flatten := by
  rw [← N1_eq h]
  exact split_eq fun g hg => ⟨(h.g g hg).1, (h.g g hg).2.1⟩
theorem Iq_bd {gs : List (List Int)} (h : GsOk gs) : ∀ g ∈ gs, (Iq gs g).natAbs ≤ 2 ^ 180 := fun g hg => by
  obtain ⟨h1, h2, h3⟩ := h.g g hg
  have := sqx_take_sz (i := g.length) (Nat.lt_of_lt_of_le (MM_sz h.all) (by decide)) (gm_sz h2 h3 h.all) h3 (by omega)
  rw [List.take_length] at this
  exact Nat.le_of_lt this
theorem Oq_bd {gs : List (List Int)} (h : GsOk gs) : ∀ g ∈ gs, (Oq gs g).natAbs ≤ 2 ^ 180 := fun g hg => Nat.le_of_lt (n_up (t2_sz h hg) (by decide))
theorem I_sz {gs : List (List Int)} (h : GsOk gs) (i : Nat) : (((gs.take i).map (Iq gs)).sum).natAbs < 2 ^ 200 := Nat.lt_of_le_of_lt (Nat.le_trans (sum_take_bd _ (Iq_bd h) i) (Nat.mul_le_mul_right _ h.few)) (by decide)
theorem O_sz {gs : List (List Int)} (h : GsOk gs) (i : Nat) : (((gs.take i).map (Oq gs)).sum).natAbs < 2 ^ 200 := Nat.lt_of_le_of_lt (Nat.le_trans (sum_take_bd _ (Oq_bd h) i) (Nat.mul_le_mul_right _ h.few)) (by decide)
theorem Fr.sz2 {a : F2} {N : Int} {M : Nat} (h : Fr a N M) (hN : N.natAbs < 2 ^ 210) (hM : M < 2 ^ 210) : Sz 1900 a := sz_up (h.sz hN hM) (by decide)
theorem mm2 {gs : List (List Int)} (h : GsOk gs) : MM (nn' gs) * MM (nn' gs) < 2 ^ 210 := Nat.lt_trans (mm_sz (MM_sz h.all) (MM_sz h.all)) (by decide)
section
variable {P : Program} {w : World} {K : PySem.W.Frag} {mg : Str → Option Value} {base : Heap}
set_option maxHeartbeats 1000000 in
theorem ok__law_groups_hold (T : Txt K mg) (D_spread_within : Kept P w K mg base 4 "spread_within" ["tallies"] (spWithin K)) (D_spread_between : Kept P w K mg base 4 "spread_between" ["tallies"] (spBetween K)) (D__law_frac : Kept P w K mg base 1 "_law_frac" ["n", "d"] spFrac) (D__law_plus : Kept P w K mg base 2 "_law_plus" ["a", "b"] (spBin K add2)) (D__law_minus : Kept P w K mg base 2 "_law_minus" ["a", "b"] (spBin K sub2)) (D__law_times : Kept P w K mg base 2 "_law_times" ["a", "b"] (spBin K mul2)) (D__law_is_frac : Kept P w K mg base 3 "_law_is_frac" ["thing"] (spIsFrac K)) (D__law_tally : Kept P w K mg base 1 "_law_tally" ["row"] (spLTally K)) (D__law_apart : Kept P w K mg base 3 "_law_apart" ["row", "middle"] (spApart K)) {f : Addr} {fd : FuncData} (F : FnP K "_law_groups_hold" s__law_groups_hold f fd) : FnOk P w K mg base CX0 5 f fd ["groups"] (spHolds K) := by
  refine F.ok sc__law_groups_hold (fun vs H Q E h => ?_) (fun cdv A outer s H vs Q E hr h => ?_)
  · obtain ⟨a, ws, gs, rfl, _⟩ := h
    rfl
  · obtain ⟨a, ws, gs, rfl, hS, hR, hg, q⟩ := h
    refine ⟨_, PSs.nox (pss_cons (ps_set (i := 1) sc__law_groups_hold.nd rfl (Or.inl rfl) (pe_lst pa_nil))
      (pss_cons (ps_for PassesOwn.never rfl (pi_list (pv 0)) (pg_name (i := 2) sc__law_groups_hold.nd rfl (Or.inl rfl)) (pss_one (ps_set (i := 1) sc__law_groups_hold.nd rfl (Or.inl rfl) (pe_op op_cat (pv 1) (pv 2)))))
      (pss_cons (ps_set (i := 3) sc__law_groups_hold.nd rfl (Or.inl rfl) (pe_d D__law_frac (hr.mono (by decide)) (by rfl) (pa_cons (pe_callB (cr_sum rfl) (by rfl) T.b_sum (by decide +kernel) (pa_cons (pv 1) pa_nil)) (pa_cons (pe_callB call_len (by rfl) T.b_len (by decide +kernel) (pa_cons (pv 1) pa_nil)) pa_nil))))
      (pss_cons (ps_set (i := 4) sc__law_groups_hold.nd rfl (Or.inl rfl) (pe_tup (pa_cons pe_int (pa_cons pe_int pa_nil))))
      (pss_cons (ps_set (i := 5) sc__law_groups_hold.nd rfl (Or.inl rfl) (pe_tup (pa_cons pe_int (pa_cons pe_int pa_nil))))
      (pss_cons (ps_for PassesOwn.never rfl (pi_list (pv 0)) (pg_name (i := 2) sc__law_groups_hold.nd rfl (Or.inl rfl)) (pss_cons (ps_set (i := 6) sc__law_groups_hold.nd rfl (Or.inl rfl) (pe_d D__law_frac (hr.mono (by decide)) (by rfl) (pa_cons (pe_callB (cr_sum rfl) (by rfl) T.b_sum (by decide +kernel) (pa_cons (pv 2) pa_nil)) (pa_cons (pe_callB call_len (by rfl) T.b_len (by decide +kernel) (pa_cons (pv 2) pa_nil)) pa_nil))))
      (pss_cons (ps_set (i := 4) sc__law_groups_hold.nd rfl (Or.inl rfl) (pe_d D__law_plus (hr.mono (by decide)) (by rfl) (pa_cons (pv 4) (pa_cons (pe_d D__law_apart (hr.mono (by decide)) (by rfl) (pa_cons (pv 2) (pa_cons (pv 6) pa_nil))) pa_nil))))
      (pss_cons (ps_set (i := 7) sc__law_groups_hold.nd rfl (Or.inl rfl) (pe_d D__law_minus (hr.mono (by decide)) (by rfl) (pa_cons (pv 6) (pa_cons (pv 3) pa_nil))))
      (pss_one (ps_for PassesOwn.never rfl (pi_list (pv 2)) (pg_name (i := 8) sc__law_groups_hold.nd rfl (Or.inl rfl)) (pss_one (ps_set (i := 5) sc__law_groups_hold.nd rfl (Or.inl rfl) (pe_d D__law_plus (hr.mono (by decide)) (by rfl) (pa_cons (pv 5) (pa_cons (pe_d D__law_times (hr.mono (by decide)) (by rfl) (pa_cons (pv 7) (pa_cons (pv 7) pa_nil))) pa_nil)))))))))))
      (pss_cons (ps_set (i := 9) sc__law_groups_hold.nd rfl (Or.inl rfl) (pe_callTy (tupOfT (K := K) rfl) (by rfl) T.b_tuple (by decide +kernel) (pa_cons (pe_lc (own := [("group", 2)]) (g := (gName 2)) (tt := tYes) rfl sc__law_groups_hold.nd (pi_list (pv 0)) (blkOk_by (N := N__law_groups_hold) (sc := defScope s__law_groups_hold) (by decide +kernel)) (fun _ _ _ _ _ => (pg_name (i := 2) sc__law_groups_hold.nd rfl (Or.inl rfl))) (fun _ _ _ _ _ => pts_nil) (fun _ _ _ _ _ => (pe_d D__law_tally (hr.mono (by decide)) (by rfl) (pa_cons (pv 2) pa_nil)))) pa_nil)))
      (pss_cons (ps_set (i := 10) sc__law_groups_hold.nd rfl (Or.inl rfl) (pe_tup (pa_cons pe_int (pa_cons (pe_callB call_len (by rfl) T.b_len (by decide +kernel) (pa_cons (pv 1) pa_nil)) pa_nil))))
      (pss_cons (ps_set (i := 11) sc__law_groups_hold.nd rfl (Or.inl rfl) (pe_d D_spread_within (hr.mono (by decide)) (by rfl) (pa_cons (pv 9) pa_nil)))
      (pss_cons (ps_set (i := 12) sc__law_groups_hold.nd rfl (Or.inl rfl) (pe_d D_spread_between (hr.mono (by decide)) (by rfl) (pa_cons (pv 9) pa_nil)))
      (pss_cons (ps_if (PW.pt (pw_or (pt_not (pt_val (pe_d D__law_is_frac (hr.mono (by decide)) (by rfl) (pa_cons (pv 11) pa_nil)))) (pw_or1 (pt_not (pt_val (pe_d D__law_is_frac (hr.mono (by decide)) (by rfl) (pa_cons (pv 12) pa_nil))))))) (pss_one (ps_ret pe_bl)) pss_nil)
      (pss_cons (ps_if (PW.pt (pw_or (pt_cmpR (op_neD (hr.units)) (pv 11) (pe_d D__law_times (hr.mono (by decide)) (by rfl) (pa_cons (pv 4) (pa_cons (pv 10) pa_nil))) (nomark _)) (pw_or1 (pt_cmpR (op_neD (hr.units)) (pv 12) (pe_d D__law_times (hr.mono (by decide)) (by rfl) (pa_cons (pv 5) (pa_cons (pv 10) pa_nil))) (nomark _))))) (pss_one (ps_ret pe_bl)) pss_nil)
      (pss_one (ps_ret (pe_cmpR (op_eqD (hr.units)) (pe_d D__law_plus (hr.mono (by decide)) (by rfl) (pa_cons (pv 11) (pa_cons (pv 12) pa_nil))) (pe_d D__law_times (hr.mono (by decide)) (by rfl) (pa_cons (pe_d D__law_apart (hr.mono (by decide)) (by rfl) (pa_cons (pv 1) (pa_cons (pv 3) pa_nil))) (pa_cons (pv 10) pa_nil))) (nomark _)))))))))))))))), ?_⟩
    have few := hg.few
    have all := hg.all
    have npos : ((nn' gs : Nat) : Int) ≠ 0 := by
      have := nn'_pos hg
      omega
    refine ⟨Nat.zero_le _, fun R0 hR0 => ?_⟩
    have s0 := same_new (o := .lst []) hR0
    refine ⟨_, rfl, a, rfl, ⟨_, same_l s0 hS⟩, for_list (K := K) (a := a) (xs := ws) (fun i σ H' => ∃ (R : Addr) (y : Option V), σ = [some (.ref a), some (.ref R), y, none, none, none, none, none, none, none, none, none, none] ∧ Same H H' ∧ H' R = some (.lst ((gs.take i).flatten.map V.int))) ⟨R0, none, rfl, s0, upd_same⟩ (fun i σ H' _ ⟨_, _, _, s, _⟩ => same_l s hS) ?_ ?_⟩
    · rintro i x σ H1 hi ⟨R, y, rfl, s1, hR1⟩
      obtain ⟨t, g, rfl, he, ht⟩ := hR.get hi
      have e : (gs.take (i + 1)).flatten.map V.int = (gs.take i).flatten.map V.int ++ g.map V.int := by
        rw [List.take_add_one, he, ← List.map_append]
        simp
      refine ⟨_, rfl, _, rfl, R, t, _, _, rfl, rfl, hR1, s1 _ _ ht, ?_, fun R2 hR2 => ⟨R2, _, rfl, s1.trans (same_new hR2), ?_⟩⟩
      · rw [← List.length_append, ← e, List.length_map]
        refine line5 ?_
        have h1 : ((gs.take (i + 1)).flatten ++ (gs.drop (i + 1)).flatten) = gs.flatten := by rw [← List.flatten_append, List.take_append_drop]
        have h2 := congrArg List.length h1
        rw [List.length_append] at h2
        omega
      · rw [upd_same, e]
    · rintro σ H1 ⟨R, y, rfl, s1, hR1⟩
      rw [hR.len, List.take_length] at hR1
      have nlen : (((gs.flatten.map V.int).length : Nat) : Int) = (nn' gs : Int) := by
        rw [List.length_map]
        rfl
      have rsz : Sz 80 (gs.flatten.sum, (nn' gs : Int)) := by
        have h1 := sum_few hg.fewA
        refine ⟨?_, sz_nat (show nn' gs < 2 ^ 80 by unfold nn'; omega)⟩
        show gs.flatten.sum.natAbs < 2 ^ 80
        omega
      refine ⟨_, rfl, R, _, rfl, SqL.of hR1, _, rfl, _, _, rfl, .inl ⟨_, SqL.of hR1, rfl⟩, ?_⟩
      rw [nlen]
      refine ⟨gs.flatten.sum, (nn' gs : Int), rfl, npos, sz_up rsz (by decide), fun pm hpm => ?_⟩
      have s2 := s1.trans (same_new (o := tupF (fr gs.flatten.sum (nn' gs))) hpm)
      have hm2 := upd_same (H := H1) (a := pm) (o := tupF (fr gs.flatten.sum (nn' gs)))
      have hR2 := same_new (o := tupF (fr gs.flatten.sum (nn' gs))) hpm _ _ hR1
      show tSeq _ _ _ _ (upd H1 pm (tupF (fr gs.flatten.sum (nn' gs))))
      generalize upd H1 pm (tupF (fr gs.flatten.sum (nn' gs))) = H2 at s2 hm2 hR2
      have fmid : Fr (fr gs.flatten.sum (nn' gs)) (wm gs.flatten) (MM (nn' gs)) := fr_row rfl hg.pos
      have zmid := fmid.sz2 (n_up (wm_sz all hg.fewA) (by decide)) (Nat.lt_trans (MM_sz all) (by decide))
      generalize fr gs.flatten.sum (nn' gs) = mid at hm2 fmid zmid
      refine ⟨by show 2 ≤ sizeLine; decide, fun pi hpi => ⟨by show 2 ≤ sizeLine; decide, fun po hpo => ?_⟩⟩
      have s3 := (same_new (o := .tup [.int 0, .int 1]) hpi).trans (same_new (o := .tup [.int 0, .int 1]) hpo)
      have hpi3 := same_new (o := .tup [.int 0, .int 1]) hpo _ _ (upd_same (H := H2) (a := pi) (o := .tup [.int 0, .int 1]))
      have hpo3 := upd_same (H := upd H2 pi (.tup [.int 0, .int 1])) (a := po) (o := .tup [.int 0, .int 1])
      have hS3 := same_l (s2.trans s3) hS
      have hRR := grr_same (s2.trans s3) hR
      have hm3 := s3 _ _ hm2
      have hR3 := s3 _ _ hR2
      have s03 := s2.trans s3
      generalize upd (upd H2 pi (.tup [.int 0, .int 1])) po (.tup [.int 0, .int 1]) = H3 at s3 hpi3 hpo3 hS3 hRR hm3 hR3 s03
      have mp := Nat.mul_pos (MM_pos hg.pos) (MM_pos hg.pos)
      refine ⟨_, rfl, a, rfl, ⟨_, hS3⟩, for_list (K := K) (a := a) (xs := ws) (fun i σ H' => ∃ (pi po : Addr) (fi fo : F2) (y2 y6 y7 y8 : Option V), σ = [some (.ref a), some (.ref R), y2, some (.ref pm), some (.ref pi), some (.ref po), y6, y7, y8, none, none, none, none] ∧ Same H3 H' ∧ H' pi = some (tupF fi) ∧ H' po = some (tupF fo) ∧ Fr fi ((gs.take i).map (Iq gs)).sum (MM (nn' gs) * MM (nn' gs)) ∧ Fr fo ((gs.take i).map (Oq gs)).sum (MM (nn' gs) * MM (nn' gs)))
        ⟨pi, po, (0, 1), (0, 1), y, none, none, none, rfl, Same.refl _, hpi3, hpo3, Fr.zero mp, Fr.zero mp⟩ (fun i σ H' _ e => ?_) ?_ ?_⟩
      · obtain ⟨_, _, _, _, _, _, _, _, _, s, _⟩ := e
        exact same_l s hS3
      · rintro i x σ H4 hi ⟨pi, po, fi, fo, y2, y6, y7, y8, rfl, s4, hi4, ho4, ffi, ffo⟩
        obtain ⟨t, g, rfl, he, ht⟩ := hRR.get hi
        have hm := List.mem_of_getElem? he
        obtain ⟨g1, g2, g3⟩ := hg.g g hm
        have ht4 := s4 _ _ ht
        have l0 := len_pos g1
        have glen : (((g.map V.int).length : Nat) : Int) = len g := by
          rw [List.length_map]
          rfl
        refine ⟨_, rfl, t, g, rfl, SqL.of ht4, _, rfl, _, _, rfl, .inl ⟨_, SqL.of ht4, rfl⟩, ?_⟩
        rw [glen]
        refine ⟨g.sum, len g, rfl, by omega, sz_up (sz_s (by omega) g3) (by decide), fun pw hpw => ?_⟩
        have s5 := same_new (o := tupF (mn g)) hpw
        have hw5 := upd_same (H := H4) (a := pw) (o := tupF (mn g))
        show tSeq _ _ _ _ (upd H4 pw (tupF (mn g)))
        generalize upd H4 pw (tupF (mn g)) = H5 at s5 hw5
        have fown : Fr (mn g) (gm (nn' gs) g) (MM (nn' gs)) := fr_mn g1 g2 hg.pos
        have zown := fown.sz2 (n_up (gm_sz g2 g3 all) (by decide)) (Nat.lt_trans (MM_sz all) (by decide))
        refine ⟨_, rfl, _, rfl, _, rfl, t, pw, g, mn g, gm (nn' gs) g, MM (nn' gs), rfl, SqL.of (s5 _ _ ht4), by omega, g3, hw5, fown, gm_sz g2 g3 all, MM_sz all, fun H6 r f s6 hr6 ff => ?_⟩
        have s46 := s5.trans s6
        have zf := ff.sz2 (Nat.lt_of_le_of_lt (Iq_bd hg g hm) (by decide)) (mm2 hg)
        have zi := ffi.sz2 (Nat.lt_trans (I_sz hg i) (by decide)) (mm2 hg)
        refine ⟨pi, r, fi, f, rfl, s46 _ _ hi4, hr6, zi, zf, add2_ne ffi.low ff.low, fun pi2 hpi2 => ?_⟩
        have ffi2 := ffi.add ff
        have s7 := s46.trans (same_new (o := tupF (frp (add2 fi f))) hpi2)
        have hi7 := upd_same (H := H6) (a := pi2) (o := tupF (frp (add2 fi f)))
        have hw7 := same_new (o := tupF (frp (add2 fi f))) hpi2 _ _ (s6 _ _ hw5)
        show tSeq _ _ _ _ (upd H6 pi2 (tupF (frp (add2 fi f))))
        generalize upd H6 pi2 (tupF (frp (add2 fi f))) = H7 at s7 hi7 hw7
        generalize frp (add2 fi f) = fi2 at ffi2 hi7
        have ei : ((gs.take i).map (Iq gs)).sum + sqx (MM (nn' gs)) (gm (nn' gs) g) g = ((gs.take (i + 1)).map (Iq gs)).sum := (sum_take_succ he).symm
        rw [ei] at ffi2
        have s37 := s4.trans s7
        refine ⟨_, rfl, _, rfl, pw, pm, mn g, mid, rfl, hw7, s37 _ _ hm3, zown, zmid, sub2_ne fown.low fmid.low, fun pf hpf => ?_⟩
        have ffar : Fr (frp (sub2 (mn g) mid)) (dif gs g) (MM (nn' gs)) := fown.sub fmid
        have s8 := s7.trans (same_new (o := tupF (frp (sub2 (mn g) mid))) hpf)
        have hf8 := upd_same (H := H7) (a := pf) (o := tupF (frp (sub2 (mn g) mid)))
        have hi8 := same_new (o := tupF (frp (sub2 (mn g) mid))) hpf _ _ hi7
        show tSeq _ _ _ _ (upd H7 pf (tupF (frp (sub2 (mn g) mid))))
        generalize upd H7 pf (tupF (frp (sub2 (mn g) mid))) = H8 at s8 hf8 hi8
        generalize frp (sub2 (mn g) mid) = far at ffar hf8
        have zfar := ffar.sz2 (n_up (dif_sz hg hm) (by decide)) (Nat.lt_trans (MM_sz all) (by decide))
        have ht8 := s8 _ _ ht4
        have f2 := ffar.mul ffar
        have z2 := f2.sz2 (n_up (sz_mul (dif_sz hg hm) (dif_sz hg hm)) (by decide)) (mm2 hg)
        refine ⟨_, rfl, t, rfl, ⟨_, SqL.of ht8⟩, for_list (K := K) (a := t) (xs := g.map V.int) (fun j σ H' => ∃ (po : Addr) (fo : F2) (y8 : Option V), σ = [some (.ref a), some (.ref R), some (.ref t), some (.ref pm), some (.ref pi2), some (.ref po), some (.ref pw), some (.ref pf), y8, none, none, none, none] ∧ Same H8 H' ∧ H' po = some (tupF fo) ∧ Fr fo (((gs.take i).map (Oq gs)).sum + (j : Int) * (dif gs g * dif gs g)) (MM (nn' gs) * MM (nn' gs)))
          ⟨po, fo, y8, rfl, Same.refl _, s8 _ _ ho4, by rw [Int.natCast_zero, Int.zero_mul, Int.add_zero]; exact ffo⟩ (fun j σ H' _ ⟨_, _, _, _, s, _⟩ => SqL.of (s _ _ ht8)) ?_ ?_⟩
        · rintro j x σ H9 hj ⟨po, fo, y8, rfl, s9, ho9, ffo⟩
          have hjl : j < g.length := by
            have := (List.getElem?_eq_some_iff.mp hj).1
            rw [List.length_map] at this
            exact this
          refine ⟨_, rfl, _, rfl, _, rfl, pf, pf, far, far, rfl, s9 _ _ hf8, s9 _ _ hf8, zfar, zfar, mul2_ne ffar.low ffar.low, fun p2 hp2 => ?_⟩
          have s10 := s9.trans (same_new (o := tupF (frp (mul2 far far))) hp2)
          have h10 := upd_same (H := H9) (a := p2) (o := tupF (frp (mul2 far far)))
          have ho10 := same_new (o := tupF (frp (mul2 far far))) hp2 _ _ ho9
          generalize upd H9 p2 (tupF (frp (mul2 far far))) = H10 at s10 h10 ho10
          have hOz : ((((gs.take i).map (Oq gs)).sum + (j : Int) * (dif gs g * dif gs g))).natAbs < 2 ^ 210 := by
            have h1 := O_sz hg i
            have h2 : ((j : Int) * (dif gs g * dif gs g)).natAbs < 2 ^ 200 := n_up (sz_mul (sz_nat (show j < 2 ^ 6 by omega)) (sz_mul (dif_sz hg hm) (dif_sz hg hm))) (by decide)
            exact n_up (sz_add h1 h2) (by decide)
          have zo := ffo.sz2 hOz (mm2 hg)
          refine ⟨po, p2, fo, _, rfl, ho10, h10, zo, z2, add2_ne ffo.low f2.low, fun po2 hpo2 => ⟨po2, _, _, rfl, s10.trans (same_new hpo2), upd_same, ?_⟩⟩
          have := ffo.add f2
          have e : ((gs.take i).map (Oq gs)).sum + (j : Int) * (dif gs g * dif gs g) + dif gs g * dif gs g = ((gs.take i).map (Oq gs)).sum + ((j + 1 : Nat) : Int) * (dif gs g * dif gs g) := by
            rw [Int.natCast_add, Int.add_mul]
            omega
          rw [e] at this
          exact this
        · rintro σ H9 ⟨po, fo, y8, rfl, s9, ho9, ffo⟩
          rw [List.length_map] at ffo
          refine ⟨pi2, po, fi2, fo, _, _, _, _, rfl, (s4.trans s8).trans s9, s9 _ _ hi8, ho9, ffi2, ?_⟩
          have eo : ((gs.take i).map (Oq gs)).sum + (g.length : Int) * (dif gs g * dif gs g) = ((gs.take (i + 1)).map (Oq gs)).sum := (sum_take_succ (f := Oq gs) he).symm
          rw [eo] at ffo
          exact ffo
      · rintro σ H4 ⟨pi, po, fi, fo, y2, y6, y7, y8, rfl, s4, hi4, ho4, ffi, ffo⟩
        rw [hR.len, List.take_length] at ffi ffo
        rw [N1_eq hg] at ffi
        have s04 := s03.trans s4
        have hS4 := same_l s04 hS
        refine ⟨_, rfl, a, rfl, ⟨_, hS4⟩, fun L hL => lc_list (xs := ws) (fun i H' => Same H4 H' ∧ ∃ ts, H' L = some (.lst ts) ∧ Rls (TlR H') ts (gs.take i)) ⟨same_new hL, [], upd_same, Rls.nil⟩ (fun i H' _ e => same_l e.1 hS4) ?_ ?_⟩
        · rintro i x H5 hi ⟨s5, ts, hL5, hT5⟩
          obtain ⟨t, g, rfl, he, ht⟩ := hR.get hi
          obtain ⟨g1, g2, g3⟩ := hg.g g (List.mem_of_getElem? he)
          refine ⟨rfl, _, rfl, t, g, rfl, SqL.of (s5 _ _ (s04 _ _ ht)), by omega, g3, fun H6 r s6 hr6 => ⟨_, s6 _ _ hL5, ?_, same_mut (s5.trans s6) hL, _, upd_same, ?_⟩⟩
          · rw [hT5.len, List.length_take]
            exact line6 (by omega)
          · rw [List.take_add_one, he]
            have h6 := (tl_same s6 hT5).snoc hr6
            have hL6 := s6 _ _ hL5
            exact h6.mono fun t g r => by
              have n : t ≠ L := fun z => by
                have r : H6 t = _ := r
                rw [z, hL6] at r
                cases r
              show upd H6 L _ t = _
              rw [upd_ne n]
              exact r
        · rintro H5 ⟨s5, ts, hL5, hT5⟩
          rw [hR.len, List.take_length] at hT5
          refine ⟨L, ts, rfl, .inl ⟨SqL.of hL5, fun pt hpt => ?_⟩⟩
          have s6 := s5.trans (same_new (o := .tup ts) hpt)
          have ht6 := upd_same (H := H5) (a := pt) (o := .tup ts)
          have hT6 := tl_same (same_new (o := .tup ts) hpt) hT5
          show tSeq _ _ _ _ (upd H5 pt (.tup ts))
          generalize upd H5 pt (.tup ts) = H6 at s6 ht6 hT6
          have hR6 := (s4.trans s6) _ _ hR3
          refine ⟨_, rfl, _, _, rfl, .inl ⟨_, SqL.of hR6, rfl⟩, by show 2 ≤ sizeLine; decide, fun ps hps => ?_⟩
          rw [nlen]
          have s7 := s6.trans (same_new (o := .tup [.int 1, .int (nn' gs : Int)]) hps)
          have hs7 := upd_same (H := H6) (a := ps) (o := .tup [.int 1, .int (nn' gs : Int)])
          have ht7 := same_new (o := .tup [.int 1, .int (nn' gs : Int)]) hps _ _ ht6
          have hT7 := tl_same (same_new (o := .tup [.int 1, .int (nn' gs : Int)]) hps) hT6
          show tSeq _ _ _ _ (upd H6 ps (.tup [.int 1, .int (nn' gs : Int)]))
          generalize upd H6 ps (.tup [.int 1, .int (nn' gs : Int)]) = H7 at s7 hs7 ht7 hT7
          have hs7 : H7 ps = some (tupF (1, (nn' gs : Int))) := hs7
          refine ⟨_, rfl, pt, ts, gs, rfl, SqT.of ht7, hT7, hg, fun H8 p1 f1 s8 hp1 ff1 => ?_⟩
          refine ⟨_, rfl, pt, ts, gs, rfl, SqT.of (s8 _ _ ht7), tl_same s8 hT7, hg, fun H9 p2 f2 s9 hp2 ff2 => ?_⟩
          have m3 := Nat.lt_trans (M3_sz hg) (show 2 ^ 74 < 2 ^ 210 by decide)
          have n1z : (N1 gs).natAbs < 2 ^ 210 := by
            rw [← N1_eq hg]
            have := I_sz hg gs.length
            rw [List.take_length] at this
            exact Nat.lt_trans this (by decide)
          have n2z : (N2 gs).natAbs < 2 ^ 210 := by
            have := O_sz hg gs.length
            rw [List.take_length] at this
            exact Nat.lt_trans this (by decide)
          have z1 := ff1.sz2 n1z m3
          have z2 := ff2.sz2 n2z m3
          refine ⟨_, rfl, p1, f1, rfl, s9 _ _ hp1, ff1.low, sz_up z1 (by decide), fun H10 s10 => ⟨true, rfl, ?_⟩⟩
          refine iteNT ?_
          refine ⟨_, rfl, p2, f2, rfl, s10 _ _ hp2, ff2.low, sz_up z2 (by decide), fun H11 s11 => ⟨true, rfl, ?_⟩⟩
          refine iteNT ?_
          have s911 := s10.trans s11
          have s411 := (s7.trans (s8.trans s9)).trans s911
          have s711 := (s8.trans s9).trans s911
          have hi11 := s411 _ _ hi4
          have ho11 := s411 _ _ ho4
          have hs11 := s711 _ _ hs7
          have h111 := s911 _ _ (s9 _ _ hp1)
          have h211 := s911 _ _ hp2
          have zi := ffi.sz2 n1z (mm2 hg)
          have zo := ffo.sz2 n2z (mm2 hg)
          have zs : Sz 1900 (1, (nn' gs : Int)) := (Fr.unit (nn'_pos hg)).sz2 (by decide) (show nn' gs < 2 ^ 210 by unfold nn'; omega)
          have lows := (Fr.unit (nn'_pos hg)).low
          have ffo : Fr fo (N2 gs) (MM (nn' gs) * MM (nn' gs)) := ffo
          have e1 : frp (mul2 fi (1, (nn' gs : Int))) = f1 := (ffi.share (nn'_pos hg)).uniq ff1
          have e2 : frp (mul2 fo (1, (nn' gs : Int))) = f2 := (ffo.share (nn'_pos hg)).uniq ff2
          refine ⟨_, rfl, _, rfl, _, rfl, pi, ps, fi, _, rfl, hi11, hs11, zi, zs, mul2_ne ffi.low lows, fun u hu => ?_⟩
          have s12 := same_new (o := tupF (frp (mul2 fi (1, (nn' gs : Int))))) hu
          have hu12 := upd_same (H := H11) (a := u) (o := tupF (frp (mul2 fi (1, (nn' gs : Int)))))
          rw [e1] at hu12 s12 ⊢
          generalize upd H11 u (tupF f1) = H12 at s12 hu12
          refine ⟨dF f1, dF f1, dp_F (s12 _ _ h111), dp_F hu12, dF_sh _, dF_sh _, _, rfl, ?_⟩
          rw [dF_eqv]
          refine ite2 (fun n => (nomatch n)) (fun _ => ?_)
          refine ⟨_, rfl, _, rfl, _, rfl, po, ps, fo, _, rfl, s12 _ _ ho11, s12 _ _ hs11, zo, zs, mul2_ne ffo.low lows, fun u2 hu2 => ?_⟩
          have s13 := s12.trans (same_new (o := tupF (frp (mul2 fo (1, (nn' gs : Int))))) hu2)
          have hu13 := upd_same (H := H12) (a := u2) (o := tupF (frp (mul2 fo (1, (nn' gs : Int)))))
          rw [e2] at hu13 s13 ⊢
          generalize upd H12 u2 (tupF f2) = H13 at s13 hu13
          refine ⟨dF f2, dF f2, dp_F (s13 _ _ h211), dp_F hu13, dF_sh _, dF_sh _, _, rfl, ?_⟩
          rw [dF_eqv]
          refine ite2 (fun n => (nomatch n)) (fun _ => ?_)
          refine ⟨_, rfl, _, rfl, p1, p2, f1, f2, rfl, s13 _ _ h111, s13 _ _ h211, z1, z2, add2_ne ff1.low ff2.low, fun u3 hu3 => ?_⟩
          have ff3 := ff1.add ff2
          have s14 := s13.trans (same_new (o := tupF (frp (add2 f1 f2))) hu3)
          have hu14 := upd_same (H := H13) (a := u3) (o := tupF (frp (add2 f1 f2)))
          generalize upd H13 u3 (tupF (frp (add2 f1 f2))) = H14 at s14 hu14
          generalize frp (add2 f1 f2) = f3 at ff3 hu14
          have s414 := s411.trans s14
          have s314 := s4.trans s414
          refine ⟨_, rfl, _, rfl, R, pm, gs.flatten, mid, wm gs.flatten, MM (nn' gs), rfl, SqL.of (s314 _ _ hR3), all, hg.fewA, s314 _ _ hm3, fmid, wm_sz all hg.fewA, MM_sz all, fun H15 u4 f4 s15 hu4 ff4 => ?_⟩
          rw [← N12_eq hg] at ff4
          have z4 := ff4.sz2 (by rw [N12_eq hg]; have := sqx_take_sz (i := gs.flatten.length) (Nat.lt_of_lt_of_le (MM_sz all) (by decide)) (wm_sz all hg.fewA) hg.fewA all; rw [List.take_length] at this; exact Nat.lt_trans this (by decide)) (mm2 hg)
          refine ⟨_, rfl, u4, ps, f4, _, rfl, hu4, s15 _ _ (s14 _ _ hs11), z4, zs, mul2_ne ff4.low lows, fun u5 hu5 => ?_⟩
          have e5 : frp (mul2 f4 (1, (nn' gs : Int))) = f3 := (ff4.share (nn'_pos hg)).uniq ff3
          have s16 := same_new (o := tupF (frp (mul2 f4 (1, (nn' gs : Int))))) hu5
          have hu16 := upd_same (H := H15) (a := u5) (o := tupF (frp (mul2 f4 (1, (nn' gs : Int)))))
          rw [e5] at hu16 s16 ⊢
          refine ⟨dF f3, dF f3, dp_F (s16 _ _ (s15 _ _ hu14)), dp_F hu16, dF_sh _, dF_sh _, ?_⟩
          rw [dF_eqv]
          exact q _ ((s04.trans s414).trans (s15.trans s16))
end
end Mt
namespace Mt
open PySem PySem.Spec PyProof.Rows L2
theorem goU {S D L : Addr} {H0 H : Hp} {o : HO} (L0 : H0 L = none) (d0 : DrawAt S D H0) (g : Go S D H0 H) : Go S D H0 (upd H L o) := by
  obtain ⟨LD, LS⟩ := d0.free L0
  obtain ⟨cs, hc⟩ := g.1.cells
  obtain ⟨j, r, c, j0, hD⟩ := g.1.at_
  refine ⟨⟨g.1.ne, ⟨cs, ?_⟩, ⟨j, r, c, j0, ?_⟩⟩, fun b o h n => ?_⟩
  · rw [upd_ne LS.symm]
    exact hc
  · rw [upd_ne LD.symm]
    exact hD
  · rw [upd_ne (ne_of_none h L0)]
    exact g.2 b o h n
theorem DrawAt.ts {S D P : Addr} {H H' : Hp} (d : DrawAt S D H) (t : GxR.TabG H P) (a : TS P H H') : DrawAt S D H' := by
  obtain ⟨ps, h0, _⟩ := t
  obtain ⟨cs, h1⟩ := d.cells
  obtain ⟨i, r, c, hi, h2⟩ := d.at_
  exact ⟨d.ne, ⟨cs, a.2 _ _ (fun e => by rw [e, h0] at h1; cases h1) h1⟩, ⟨i, r, c, hi, a.2 _ _ (fun e => by rw [e, h0] at h2; cases h2) h2⟩⟩
def spLawB (K : PySem.W.Frag) : Sp := fun vs H Q _ => ∃ (a : Addr) (ns : List Int), vs = [.ref a] ∧ SqL K H a (ns.map V.int) ∧ ns.length ≤ 63 ∧ H (BP K) = some (.tbl #[]) ∧ ∀ H', Q (.bl true) H'
theorem flat_le {b : Nat} : ∀ {gs : List (List Int)}, (∀ g ∈ gs, g.length ≤ b) → gs.flatten.length ≤ gs.length * b
  | [], _ => by simp
  | g :: r, h => by
    have h1 := h g List.mem_cons_self
    have h2 := flat_le (gs := r) fun x hx => h x (List.mem_cons_of_mem _ hx)
    rw [List.flatten_cons, List.length_append, List.length_cons, Nat.add_mul, Nat.one_mul]
    omega
theorem cuts_ok {ns : List Int} {l : Nat} (h : cuts ns l ≠ []) (hl : 1 ≤ l) (hn : ns.length ≤ 20) (hf : Few ns) : GsOk (cuts ns l) := by
  have ql : ns.length / l * l ≤ ns.length := Nat.div_mul_le_self _ _
  have q0 : ns.length / l ≤ ns.length := Nat.div_le_self _ _
  have sl : ∀ g ∈ cuts ns l, g.length = l ∧ Few g ∧ l ≤ 20 := fun g hg => by
    obtain ⟨j, hj, rfl⟩ := List.mem_map.mp hg
    have hj := List.mem_range.mp hj
    have e := seg_len ql hj
    refine ⟨e, (hf.drop _).take _, ?_⟩
    have : (seg ns l j).length ≤ ns.length := by
      unfold seg
      rw [List.length_take, List.length_drop]
      omega
    omega
  refine ⟨h, ?_, fun g hg => ?_, ?_⟩
  · unfold cuts
    rw [List.length_map, List.length_range]
    omega
  · obtain ⟨h1, h2, h3⟩ := sl g hg
    refine ⟨fun e => ?_, by omega, h2⟩
    subst e
    have : (0 : Nat) = l := h1
    omega
  · have := flat_le (b := l) fun g hg => Nat.le_of_eq (sl g hg).1
    have e : (cuts ns l).length = ns.length / l := by
      unfold cuts
      rw [List.length_map, List.length_range]
    rw [e] at this
    omega
section
variable {P : Program} {w : World} {K : PySem.W.Frag} {mg : Str → Option Value} {base : Heap}
set_option maxHeartbeats 1000000 in
theorem ok_law (T : Txt K mg) (D_batches : Kept P w K mg base 6 "batches" ["values", "length"] (spBatch K)) (D__law_begin : Kept P w K mg base 1 "_law_begin" ["script"] (spBegin K)) (D__law_draw : Kept P w K mg base 1 "_law_draw" ["d", "many"] spDraw) (D__law_rare : Kept P w K mg base 2 "_law_rare" ["d", "many"] spRare) (D__law_line : Kept P w K mg base 2 "_law_line" ["d", "many"] spLine) (D__law_tally : Kept P w K mg base 1 "_law_tally" ["row"] (spLTally K)) (D__law_same : Kept P w K mg base 2 "_law_same" ["told", "due"] (spSame K)) (D__law_cut : Kept P w K mg base 1 "_law_cut" ["row", "length"] (spCut K)) (D__law_groups_hold : Kept P w K mg base 5 "_law_groups_hold" ["groups"] (spHolds K)) {f : Addr} {fd : FuncData} (F : FnP K "law" s_law f fd) : FnOk P w K mg base CX0 7 f fd ["script"] (spLawB K) := by
  refine F.ok sc_law (fun vs H Q E h => ?_) (fun cdv A outer s H vs Q E hr h => ?_)
  · obtain ⟨a, ns, rfl, _⟩ := h
    rfl
  · obtain ⟨a, cs, rfl, hS, hlen, hT, q⟩ := h
    refine ⟨_, PSs.nox (pss_cons (ps_set (i := 1) sc_law.nd rfl (Or.inr rfl) (pe_d D__law_begin (hr.mono (by decide)) (by rfl) (pa_cons (pv 0) pa_nil)))
      (pss_cons (ps_set (i := 2) sc_law.nd rfl (Or.inl rfl) (pe_d D__law_draw (hr.mono (by decide)) (by rfl) (pa_cons (pv 1) (pa_cons pe_int pa_nil))))
      (Evl.pss_cut (ps_if (pt_cmpR op_eq (pe_d D__law_draw (hr.mono (by decide)) (by rfl) (pa_cons (pv 1) (pa_cons pe_int pa_nil))) pe_int (nomark _)) (pss_one (ps_set (i := 2) sc_law.nd rfl (Or.inl rfl) (pe_d D__law_draw (hr.mono (by decide)) (by rfl) (pa_cons (pv 1) (pa_cons pe_int pa_nil))))) pss_nil)
      (pss_cons (ps_set (i := 3) sc_law.nd rfl (Or.inl rfl) (pe_d D__law_line (hr.mono (by decide)) (by rfl) (pa_cons (pv 1) (pa_cons (pv 2) pa_nil))))
      (pss_cons (ps_for PassesOwn.never rfl (pi_range2 (by rfl) T.b_range (pa_cons pe_int (pa_cons (pe_op op_add (pv 2) pe_int) pa_nil))) (pg_name (i := 4) sc_law.nd rfl (Or.inl rfl)) (pss_cons (ps_set (i := 5) sc_law.nd rfl (Or.inr rfl) (pe_d D__law_cut (hr.mono (by decide)) (by rfl) (pa_cons (pv 3) (pa_cons (pv 4) pa_nil))))
      (pss_cons (ps_set (i := 6) sc_law.nd rfl (Or.inr rfl) (pe_d D_batches (hr.mono (by decide)) (by rfl) (pa_cons (pe_callTy (tupOfT (K := K) rfl) (by rfl) T.b_tuple (by decide +kernel) (pa_cons (pv 3) pa_nil)) (pa_cons (pv 4) pa_nil))))
      (pss_cons (ps_if (PW.pt (pw_or (pt_not (pt_val (pe_callB call_isi (by rfl) T.b_isinstance (by decide +kernel) (pa_cons (pv 6) (pa_cons (pe_bltn (v := .ty "tuple") (u := .type "tuple") (by rfl) T.b_tuple (by decide +kernel) rfl) pa_nil))))) (pw_or1 (pt_cmpR op_ne (pe_callB call_len (by rfl) T.b_len (by decide +kernel) (pa_cons (pv 6) pa_nil)) (pe_callB call_len (by rfl) T.b_len (by decide +kernel) (pa_cons (pv 5) pa_nil)) (nomark _))))) (pss_one (ps_ret pe_bl)) pss_nil)
      (pss_cons (ps_if (pt_not (pt_val (pe_callB (cr_all rfl) (by rfl) T.b_all (by decide +kernel) (pa_cons (pe_lc (own := [("k", 7)]) (g := (gName 7)) (tt := tYes) rfl sc_law.nd (pi_range1 (by rfl) T.b_range (pa_cons (pe_callB call_len (by rfl) T.b_len (by decide +kernel) (pa_cons (pv 5) pa_nil)) pa_nil)) (blkOk_by (N := N_law) (sc := defScope s_law) (by decide +kernel)) (fun _ _ _ _ _ => (pg_name (i := 7) sc_law.nd rfl (Or.inl rfl))) (fun _ _ _ _ _ => pts_nil) (fun _ _ _ _ _ => (pe_d D__law_same (hr.mono (by decide)) (by rfl) (pa_cons (pe_ix (ixT (K := K) rfl) (pv 6) (pv 7) (fun _ _ => rfl)) (pa_cons (pe_d D__law_tally (hr.mono (by decide)) (by rfl) (pa_cons (pe_ix (ixL (K := K) rfl) (pv 5) (pv 7) (fun _ _ => rfl)) pa_nil)) pa_nil))))) pa_nil)))) (pss_one (ps_ret pe_bl)) pss_nil)
      (pss_one (ps_if (PW.pt (pw_and (pt_cmpR op_gt (pe_callB call_len (by rfl) T.b_len (by decide +kernel) (pa_cons (pv 5) pa_nil)) pe_int (nomark _)) (pw_and1 (pt_not (pt_val (pe_d D__law_groups_hold (hr.mono (by decide)) (by rfl) (pa_cons (pv 5) pa_nil))))))) (pss_one (ps_ret pe_bl)) pss_nil)))))))
      (pss_cons (ps_set (i := 8) sc_law.nd rfl (Or.inr rfl) (pe_lst (pa_cons pe_int (pa_cons pe_int pa_nil))))
      (Evl.pss_cut (ps_if (pt_val (pe_d D__law_rare (hr.mono (by decide)) (by rfl) (pa_cons (pv 1) (pa_cons pe_int pa_nil)))) (pss_one (ps_set (i := 8) sc_law.nd rfl (Or.inr rfl) (pe_lst (pa_cons pe_int (pa_cons pe_int pa_nil))))) pss_nil)
      (pss_cons (ps_set (i := 5) sc_law.nd rfl (Or.inr rfl) (pe_lc (own := [("k", 7)]) (g := (gName 7)) (tt := tYes) rfl sc_law.nd (pi_range1 (by rfl) T.b_range (pa_cons (pe_op op_add pe_int (pe_d D__law_draw (hr.mono (by decide)) (by rfl) (pa_cons (pv 1) (pa_cons (pe_ix ix_list (pv 8) pe_int (fun _ _ => rfl)) pa_nil)))) pa_nil)) (blkOk_by (N := N_law) (sc := defScope s_law) (by decide +kernel)) (fun _ _ _ _ _ => (pg_name (i := 7) sc_law.nd rfl (Or.inl rfl))) (fun _ _ _ _ _ => pts_nil) (fun _ _ _ _ _ => (pe_d D__law_line (hr.mono (by decide)) (by rfl) (pa_cons (pv 1) (pa_cons (pe_op op_add pe_int (pe_d D__law_draw (hr.mono (by decide)) (by rfl) (pa_cons (pv 1) (pa_cons (pe_ix (ixL (K := K) rfl) (pv 8) pe_int (fun _ _ => rfl)) pa_nil)))) pa_nil))))))
      (pss_one (ps_ret (pe_d D__law_groups_hold (hr.mono (by decide)) (by rfl) (pa_cons (pv 5) pa_nil)))))))))))), ?_⟩
    refine ⟨_, rfl, a, cs, rfl, hS, hlen, fun S D H1 s1 nD d1 => ?_⟩
    have hT1 := s1 _ _ hT
    have PD : BP K ≠ D := ne_of_none hT nD
    refine ⟨_, rfl, S, D, 5, rfl, divW_of (by decide) (by decide), d1, fun H2 m m0 m1 g2 => ?_⟩
    refine ⟨fun σ' H' => ∃ mm : Int, σ' = [some (.ref a), some (.ref D), some (.int mm), none, none, none, none, none, none] ∧ 0 ≤ mm ∧ mm ≤ 20 ∧ Go S D H1 H', ?_, ?_⟩
    · refine ⟨_, rfl, S, D, 3, rfl, divW_of (by decide) (by decide), g2.1, fun H3 v _ _ g3 => ⟨rfl, _, rfl, ?_⟩⟩
      refine ite2 (fun _ => ?_) (fun _ => ⟨_, rfl, by omega, by omega, g2.trans g3⟩)
      exact ⟨_, rfl, S, D, 21, rfl, divW_of (by decide) (by decide), g3.1, fun H4 v v0 v1 g4 => ⟨_, rfl, by omega, by omega, (g2.trans g3).trans g4⟩⟩
    rintro σ' H3 ⟨mm, rfl, mm0, mm1, g3⟩
    refine ⟨_, rfl, _, rfl, S, D, mm, rfl, mm0, by omega, g3.1, fun H4 R ns g4 nR hR hrl hf => ?_⟩
    have hT4 := (g3.trans g4).2 _ _ hT1 PD
    have tg : GxR.TabG H4 (BP K) := ⟨_, hT4, by trivial⟩
    have PR : R ≠ BP K := fun e => by
      rw [e, hT4] at hR
      cases hR
    have hn20 : ns.length ≤ 20 := by omega
    refine ⟨_, rfl, _, _, rfl, rfl, 1, mm + 3, rfl, ⟨by decide, by decide, by omega, by omega⟩, for_range (lo := 1) (n := (mm + 3 - 1).toNat) (fun i σ H' => ∃ y4 y5 y6 : Option V, σ = [some (.ref a), some (.ref D), some (.int mm), some (.ref R), y4, y5, y6, none, none] ∧ TS (BP K) H4 H') ⟨_, _, _, rfl, TS.refl tg⟩ ?_ ?_⟩
    · rintro i σ H5 hi ⟨y4, y5, y6, rfl, t5⟩
      have el : (1 : Int) + (i : Int) = ((1 + i : Nat) : Int) := by omega
      have hR5 := t5.2 _ _ PR hR
      refine ⟨_, rfl, _, rfl, R, ns, 1 + i, congrArg (fun z => [V.ref R, V.int z]) el, SqL.of hR5, by omega, by omega, fun H6 G ws s6 hG hW => ?_⟩
      have t6 := t5.trans (TS.of_same t5.1 s6)
      have hR6 := s6 _ _ hR5
      refine ⟨_, rfl, R, _, rfl, .inl ⟨SqL.of hR6, fun T hTt => ?_⟩⟩
      have s7 := same_new (o := .tup (ns.map V.int)) hTt
      have t7 := t6.trans (TS.of_same t6.1 s7)
      refine ⟨_, rfl, T, ns, 1 + i, congrArg (fun z => [V.ref T, V.int z]) el, SqT.of upd_same, by omega, by omega, by omega, hf, t7.1, fun H8 p us t78 hp hU => ?_⟩
      have t8 := t7.trans t78
      have GP : G ≠ BP K := fun e => by
        obtain ⟨ps, h0, _⟩ := t6.1
        rw [e, h0] at hG
        cases hG
      have hG8 := t78.2 _ _ GP (s7 _ _ hG)
      have hW8 : Rls (GrR2 H8 G) ws (cuts ns (1 + i)) := hW.mono fun t g r => by
        have n : t ≠ BP K := fun e => by
          obtain ⟨ps, h0, _⟩ := t6.1
          have r := r.1
          rw [e] at r
          have r : H6 (BP K) = _ := r
          rw [h0] at r
          cases r
        exact ⟨t78.2 _ _ n (s7 _ _ r.1), r.2⟩
      have ul : us.length = ws.length := by rw [hU.len, hW.len]
      have cl : ws.length ≤ 20 := by
        rw [hW.len]
        unfold cuts
        rw [List.length_map, List.length_range]
        exact Nat.le_trans (Nat.div_le_self _ _) hn20
      refine ⟨_, rfl, _, .ty "tuple", .type "tuple", .type "tuple", true, rfl, .ty _, .base (.tup hp), kit_ty (by decide +kernel), true, rfl, ?_⟩
      refine ⟨_, rfl, _, _, rfl, .inr ⟨_, SqT.of hp, rfl⟩, _, rfl, _, _, rfl, .inl ⟨_, SqL.of hG8, rfl⟩, rfl, _, rfl, ?_⟩
      rw [ul]
      refine ite2 (fun n => absurd n (by simp)) (fun _ => ?_)
      have s8 : ∀ (L : Addr) (o : HO), H8 L = none → Same H8 (upd H8 L o) := fun L o h => same_new h
      refine ⟨_, rfl, _, _, rfl, .inl ⟨_, SqL.of hG8, rfl⟩, _, rfl, by omega, by omega, fun L hL => lc_range (lo := 0) (n := ws.length) (fun j H' => Same H8 H' ∧ H' L = some (.lst ((List.replicate j true).map V.bl))) ⟨same_new hL, upd_same⟩ ?_ ?_⟩
      · rintro j H9 hj ⟨s9, hL9⟩
        have hjc : j < (cuts ns (1 + i)).length := hW.len ▸ hj
        obtain ⟨t, ht, htt⟩ := hU.at_ (List.getElem?_eq_getElem hjc)
        obtain ⟨g, hg, hgg⟩ := hW8.at_ (List.getElem?_eq_getElem hjc)
        have hm := List.getElem_mem hjc
        have sg : (cuts ns (1 + i))[j].length ≤ 20 ∧ Few (cuts ns (1 + i))[j] := by
          obtain ⟨j', _, e⟩ := List.mem_map.mp hm
          rw [← e]
          refine ⟨?_, (hf.drop _).take _⟩
          unfold seg
          rw [List.length_take, List.length_drop]
          omega
        generalize (cuts ns (1 + i))[j] = gl at htt hgg sg
        refine ⟨rfl, _, rfl, _, rfl, p, _, _, _, rfl, rfl, SqT.of (s9 _ _ hp), (by rw [Int.zero_add]; exact atI_nat ht), _, rfl, _, rfl, G, _, _, _, rfl, rfl, SqL.of (s9 _ _ hG8), (by rw [Int.zero_add]; exact atI_nat hg), g, gl, rfl, SqL.of (s9 _ _ hgg.1), by omega, sg.2, fun H10 r s10 hr => ⟨t, r, gl, rfl, s10 _ _ (s9 _ _ htt), hr, fun H11 s11 => ⟨_, s11 _ _ (s10 _ _ hL9), ?_, same_mut ((s9.trans s10).trans s11) hL, ?_⟩⟩⟩
        · rw [List.length_map, List.length_replicate]
          exact line6 (by omega)
        · rw [upd_same, List.replicate_succ', List.map_append]
          rfl
      · rintro H9 ⟨s9, hL9⟩
        refine ⟨L, List.replicate ws.length true, rfl, SqL.of hL9, ?_⟩
        rw [show (List.replicate ws.length true).all id = true from by simp]
        refine ⟨true, rfl, iteNT ?_⟩
        have t9 := t8.trans (TS.of_same t8.1 s9)
        have hG9 := s9 _ _ hG8
        refine ⟨_, rfl, _, _, rfl, .inl ⟨_, SqL.of hG9, rfl⟩, _, _, rfl, rfl, _, rfl, ite2 (fun e => ?_) (fun _ => ite2 (fun n => (nomatch n)) (fun _ => ⟨_, _, _, rfl, t9⟩))⟩
        have e : (0 : Int) < (ws.length : Int) := of_decide_eq_true e
        have ne : cuts ns (1 + i) ≠ [] := fun z => by
          rw [hW.len, z] at e
          exact absurd e (by decide)
        refine ⟨_, rfl, G, ws, _, rfl, SqL.of hG9, hW8.mono fun t g r => s9 _ _ r.1, cuts_ok ne (by omega) hn20 hf, fun H10 s10 => ⟨true, rfl, ite2 (fun n => (nomatch n)) (fun _ => ⟨_, _, _, rfl, t9.trans (TS.of_same t9.1 s10)⟩)⟩⟩
    · rintro σ H5 ⟨y4, y5, y6, rfl, t5⟩
      have d5 := g4.1.ts tg t5
      refine ⟨by show 2 ≤ sizeLine; decide, fun Z hZ => ?_⟩
      have g6 : Go S D H5 (upd H5 Z (.lst [.int 3, .int 4])) := Go.new d5 hZ
      have hZ6 := upd_same (H := H5) (a := Z) (o := .lst [.int 3, .int 4])
      have ZD := (d5.free hZ).1
      generalize upd H5 Z (.lst [.int 3, .int 4]) = H6 at g6 hZ6
      refine ⟨fun σ' H' => ∃ (Z : Addr) (u v : Int), σ' = [some (.ref a), some (.ref D), some (.int mm), some (.ref R), y4, y5, y6, none, some (.ref Z)] ∧ Go S D H5 H' ∧ H' Z = some (.lst [.int u, .int v]) ∧ Z ≠ D ∧ 1 ≤ u ∧ u ≤ 6 ∧ 1 ≤ v ∧ v ≤ 7, ?_, ?_⟩
      · refine ⟨_, rfl, S, D, 5, rfl, by decide, by decide, g6.1, fun H7 b g7 => ⟨b, rfl, ite2 (fun _ => ?_) (fun _ => ?_)⟩⟩
        · refine ⟨by show 2 ≤ sizeLine; decide, fun Z2 hZ2 => ⟨Z2, 6, 7, rfl, (g6.trans g7).trans (Go.new g7.1 hZ2), upd_same, (g7.1.free hZ2).1, by decide, by decide, by decide, by decide⟩⟩
        · exact ⟨Z, 3, 4, rfl, g6.trans g7, g7.2 _ _ hZ6 ZD, ZD, by decide, by decide, by decide, by decide⟩
      · rintro σ' H7 ⟨Z, u, v, rfl, g7, hZ7, ZD, u0, u1, v0, v1⟩
        refine ⟨_, rfl, _, rfl, Z, _, _, _, rfl, rfl, SqL.of hZ7, atI_nat (j := 1) rfl, S, D, v, rfl, divW_of (by omega) (by omega), g7.1, fun H8 n n0 n1 g8 => ?_⟩
        have hZ8 := g8.2 _ _ hZ7 ZD
        refine ⟨_, _, rfl, rfl, _, rfl, by omega, by omega, fun L hL => lc_range (lo := 0) (n := (1 + n).toNat) (fun j H' => ∃ (ws : List V) (gs : List (List Int)), Go S D H8 H' ∧ H' L = some (.lst ws) ∧ Rls (fun t g => GrR H' t g ∧ t ≠ L ∧ t ≠ D) ws gs ∧ gs.length = j ∧ ∀ g ∈ gs, g ≠ [] ∧ g.length ≤ 6 ∧ Few g) ⟨[], [], Go.new g8.1 hL, upd_same, Rls.nil, rfl, fun _ h => absurd h List.not_mem_nil⟩ ?_ ?_⟩
        · rintro j H9 hj ⟨ws, gs, g9, hL9, hW9, hgl, hgo⟩
          have LD := (g8.1.free hL).1
          have LZ : L ≠ Z := (ne_of_none hZ8 hL).symm
          refine ⟨rfl, _, rfl, _, rfl, _, rfl, Z, _, _, _, rfl, rfl, SqL.of (g9.2 _ _ hZ8 ZD), atI_nat (j := 0) rfl, S, D, u, rfl, divW_of (by omega) (by omega), g9.1, fun H10 k k0 k1 g10 => ?_⟩
          refine ⟨_, _, rfl, rfl, S, D, _, rfl, by omega, by omega, g10.1, fun H11 t l g11 nt ht hll hlf => ?_⟩
          have g911 := g10.trans g11
          have hL11 := g911.2 _ _ hL9 LD
          have tD := (g10.1.free nt).1
          have tL : t ≠ L := (ne_of_none (g10.2 _ _ hL9 LD) nt).symm
          refine ⟨_, hL11, ?_, ws ++ [.ref t], gs ++ [l], goU hL g8.1 (g9.trans g911), upd_same, ?_, by rw [List.length_append, hgl]; rfl, fun g hg => ?_⟩
          · rw [hW9.len, hgl]
            exact line6 (by omega)
          · refine Rls.snoc (hW9.mono fun t g r => ⟨?_, r.2⟩) ⟨?_, tL, tD⟩
            · show upd H11 L _ t = _
              rw [upd_ne r.2.1]
              exact g911.2 _ _ r.1 r.2.2
            · show upd H11 L _ t = _
              rw [upd_ne tL]
              exact ht
          · rcases List.mem_append.mp hg with h | h
            · exact hgo g h
            · rw [List.mem_singleton.mp h]
              refine ⟨fun e => ?_, by omega, hlf⟩
              rw [e] at hll
              have : (0 : Nat) = (1 + k).toNat := hll
              omega
        · rintro H9 ⟨ws, gs, g9, hL9, hW9, hgl, hgo⟩
          have hfl := flat_le (gs := gs) (b := 6) fun g hg => (hgo g hg).2.1
          exact ⟨_, rfl, L, ws, gs, rfl, SqL.of hL9, hW9.mono fun t g r => r.1, ⟨fun e => by
            rw [e] at hgl
            have : (0 : Nat) = (1 + n).toNat := hgl
            omega, by omega, fun g hg => ⟨(hgo g hg).1, Nat.le_trans (hgo g hg).2.1 (by decide), (hgo g hg).2.2⟩, by omega⟩, fun H' _ => q H'⟩
end
end Mt
namespace Mt
open PySem PySem.Spec PyProof.Rows L2
def dd_make_fraction : He.DefD := ⟨("make_fraction", none), "make_fraction", "make_fraction", defArgs s_make_fraction, defBody s_make_fraction, defScope s_make_fraction, [], []⟩
def dd_sum_of : He.DefD := ⟨("sum_of", none), "sum_of", "sum_of", defArgs s_sum_of, defBody s_sum_of, defScope s_sum_of, [], []⟩
def dd_difference_of : He.DefD := ⟨("difference_of", none), "difference_of", "difference_of", defArgs s_difference_of, defBody s_difference_of, defScope s_difference_of, [], []⟩
def dd_product_of : He.DefD := ⟨("product_of", none), "product_of", "product_of", defArgs s_product_of, defBody s_product_of, defScope s_product_of, [], []⟩
def dd_total_of : He.DefD := ⟨("total_of", none), "total_of", "total_of", defArgs s_total_of, defBody s_total_of, defScope s_total_of, [], []⟩
def dd_tally_of : He.DefD := ⟨("tally_of", none), "tally_of", "tally_of", defArgs s_tally_of, defBody s_tally_of, defScope s_tally_of, [], []⟩
def dd_mean_of : He.DefD := ⟨("mean_of", none), "mean_of", "mean_of", defArgs s_mean_of, defBody s_mean_of, defScope s_mean_of, [], []⟩
def dd_spread_of : He.DefD := ⟨("spread_of", none), "spread_of", "spread_of", defArgs s_spread_of, defBody s_spread_of, defScope s_spread_of, [], []⟩
def dd_batches : He.DefD := ⟨("batches", none), "batches", "batches", defArgs s_batches, defBody s_batches, defScope s_batches, [], []⟩
def dd_spread_within : He.DefD := ⟨("spread_within", none), "spread_within", "spread_within", defArgs s_spread_within, defBody s_spread_within, defScope s_spread_within, [], []⟩
def dd_spread_between : He.DefD := ⟨("spread_between", none), "spread_between", "spread_between", defArgs s_spread_between, defBody s_spread_between, defScope s_spread_between, [], []⟩
def dd__law_begin : He.DefD := ⟨("_law_begin", none), "_law_begin", "_law_begin", defArgs s__law_begin, defBody s__law_begin, defScope s__law_begin, [], []⟩
def dd__law_draw : He.DefD := ⟨("_law_draw", none), "_law_draw", "_law_draw", defArgs s__law_draw, defBody s__law_draw, defScope s__law_draw, [], []⟩
def dd__law_rare : He.DefD := ⟨("_law_rare", none), "_law_rare", "_law_rare", defArgs s__law_rare, defBody s__law_rare, defScope s__law_rare, [], []⟩
def dd__law_is_int : He.DefD := ⟨("_law_is_int", none), "_law_is_int", "_law_is_int", defArgs s__law_is_int, defBody s__law_is_int, defScope s__law_is_int, [], []⟩
def dd__law_is_ints : He.DefD := ⟨("_law_is_ints", none), "_law_is_ints", "_law_is_ints", defArgs s__law_is_ints, defBody s__law_is_ints, defScope s__law_is_ints, [], []⟩
def dd__law_frac : He.DefD := ⟨("_law_frac", none), "_law_frac", "_law_frac", defArgs s__law_frac, defBody s__law_frac, defScope s__law_frac, [], []⟩
def dd__law_plus : He.DefD := ⟨("_law_plus", none), "_law_plus", "_law_plus", defArgs s__law_plus, defBody s__law_plus, defScope s__law_plus, [], []⟩
def dd__law_minus : He.DefD := ⟨("_law_minus", none), "_law_minus", "_law_minus", defArgs s__law_minus, defBody s__law_minus, defScope s__law_minus, [], []⟩
def dd__law_times : He.DefD := ⟨("_law_times", none), "_law_times", "_law_times", defArgs s__law_times, defBody s__law_times, defScope s__law_times, [], []⟩
def dd__law_is_frac : He.DefD := ⟨("_law_is_frac", none), "_law_is_frac", "_law_is_frac", defArgs s__law_is_frac, defBody s__law_is_frac, defScope s__law_is_frac, [], []⟩
def dd__law_line : He.DefD := ⟨("_law_line", none), "_law_line", "_law_line", defArgs s__law_line, defBody s__law_line, defScope s__law_line, [], []⟩
def dd__law_tally : He.DefD := ⟨("_law_tally", none), "_law_tally", "_law_tally", defArgs s__law_tally, defBody s__law_tally, defScope s__law_tally, [], []⟩
def dd__law_same : He.DefD := ⟨("_law_same", none), "_law_same", "_law_same", defArgs s__law_same, defBody s__law_same, defScope s__law_same, [], []⟩
def dd__law_cut : He.DefD := ⟨("_law_cut", none), "_law_cut", "_law_cut", defArgs s__law_cut, defBody s__law_cut, defScope s__law_cut, [], []⟩
def dd__law_apart : He.DefD := ⟨("_law_apart", none), "_law_apart", "_law_apart", defArgs s__law_apart, defBody s__law_apart, defScope s__law_apart, [], []⟩
def dd__law_groups_hold : He.DefD := ⟨("_law_groups_hold", none), "_law_groups_hold", "_law_groups_hold", defArgs s__law_groups_hold, defBody s__law_groups_hold, defScope s__law_groups_hold, [], []⟩
def dd_law : He.DefD := ⟨("law", none), "law", "law", defArgs s_law, defBody s_law, defScope s_law, [], []⟩
def dds : List He.DefD := [dd_make_fraction, dd_sum_of, dd_difference_of, dd_product_of, dd_total_of, dd_tally_of, dd_mean_of, dd_spread_of, dd_batches, dd_spread_within, dd_spread_between, dd__law_begin, dd__law_draw, dd__law_rare, dd__law_is_int, dd__law_is_ints, dd__law_frac, dd__law_plus, dd__law_minus, dd__law_times, dd__law_is_frac, dd__law_line, dd__law_tally, dd__law_same, dd__law_cut, dd__law_apart, dd__law_groups_hold, dd_law]
def fas : List He.Fa := [.glo "make_fraction", .glo "sum_of", .glo "difference_of", .glo "product_of", .glo "total_of", .glo "tally_of", .glo "mean_of", .glo "spread_of", .glo "batches", .glo "spread_within", .glo "spread_between", .glo "_law_begin", .glo "_law_draw", .glo "_law_rare", .glo "_law_is_int", .glo "_law_is_ints", .glo "_law_frac", .glo "_law_plus", .glo "_law_minus", .glo "_law_times", .glo "_law_is_frac", .glo "_law_line", .glo "_law_tally", .glo "_law_same", .glo "_law_cut", .glo "_law_apart", .glo "_law_groups_hold", .glo "law", .free "int", .free "abs", .free "len", .free "isinstance", .free "bool", .free "tuple", .free "range", .free "sum", .free "min", .free "max", .free "all"]
def tss : List He.Tab := []
def tfs : List He.Defn := [("batches", none)]
def exM (K : PySem.W.Frag) : Bool := He.eqO (PySem.W.nsIn K mainGlobals "gcd") (some (some (.builtin "math.gcd")))
abbrev R : PySem.W.OpenRow := PySem.W.OpenLaw.row PySem.Challenge.rw_meantrace_k37_whole_spreads
abbrev hk : PySem.W.Hook := He.hookX 4 fas dds tss tfs exM
def ob (s : PySem.W.SharedT) : He.AlX := He.obsX 4 fas dds tss tfs exM (HandSHeadRun.getT s)
theorem ob_eq (s : PySem.W.SharedT) : ob s = hk.obs s.abs := He.obsX_eq (HandSHeadRun.getT_eq s)
def names : List PySem.Str := (["make_fraction", "sum_of", "difference_of", "product_of", "total_of", "tally_of", "mean_of", "spread_of", "batches", "spread_within", "spread_between", "_law_begin", "_law_draw", "_law_rare", "_law_is_int", "_law_is_ints", "_law_frac", "_law_plus", "_law_minus", "_law_times", "_law_is_frac", "_law_line", "_law_tally", "_law_same", "_law_cut"] : List PySem.Str) ++ (["_law_apart", "_law_groups_hold"] : List PySem.Str)
theorem run (w : World) : HandSHeadRun.RunEqI R (PySem.W.view R.prog [0, 32]) hk ob 3000 names w := by
  refine PySem.W.byRow2 "special-get-raises" (P := fun w => HandSHeadRun.RunEqI R (PySem.W.view R.prog [0, 32]) hk ob 3000 names w) (fun w => ?_) (fun w => ?_) w
  · unfold HandSHeadRun.RunEqI; kernel_rfl
  · unfold HandSHeadRun.RunEqI; kernel_rfl
theorem facts {P : Program} {w : World} {K : PySem.W.Frag} {h : Heap} {mg : Str → Option Value} {f : Addr} (X : K.In h) (G : h.Ns mainGlobals mg) (hfa : mg ("law" : Str) = some (.ref f)) (c : He.SaysX fas dds tss tfs exM w h K) :
    ∃ fd : FuncData, (∀ (s : Shared) (v : Value), BindsTo s fd ⟨[v], []⟩ [("script", v)]) ∧ ∀ base : Heap, K.In base → base.Ns mainGlobals mg → GxR.TabB base mg (He.cT K ("batches", none)).1 (He.cT K ("batches", none)).2 → FnOk P w K mg base CX0 7 f fd ["script"] (spLawB K) := by
  obtain ⟨fd, F⟩ := c.t.d.def_ 27 (d := dd_law) rfl
  have e := hfa.symm.trans (He.glo_ok X G (c.t.d.fact 27 (f := .glo "law") rfl))
  cases e
  have T : Txt K mg := ⟨He.free_ok X G (c.t.d.fact 28 (f := .free "int") rfl), He.free_ok X G (c.t.d.fact 29 (f := .free "abs") rfl), He.free_ok X G (c.t.d.fact 30 (f := .free "len") rfl), He.free_ok X G (c.t.d.fact 31 (f := .free "isinstance") rfl), He.free_ok X G (c.t.d.fact 32 (f := .free "bool") rfl), He.free_ok X G (c.t.d.fact 33 (f := .free "tuple") rfl), He.free_ok X G (c.t.d.fact 34 (f := .free "range") rfl), He.free_ok X G (c.t.d.fact 35 (f := .free "sum") rfl), He.free_ok X G (c.t.d.fact 36 (f := .free "min") rfl), He.free_ok X G (c.t.d.fact 37 (f := .free "max") rfl), He.free_ok X G (c.t.d.fact 38 (f := .free "all") rfl), PySem.W.mg_of X G (He.eqO_ok c.more)⟩
  have b := FunD.bindsA (ps := ["script"]) F fun _ _ _ _ _ _ us hl => match us, hl with | [_], _ => rfl
  refine ⟨fd, fun s v => b s [v] rfl, fun base _ _ TB_batches => ?_⟩
  have D_make_fraction := (show Kept P w K mg base (1) "make_fraction" ["n", "d"] spFrac from kept_of (st := s_make_fraction) X G (c.t.d.def_ 0 (d := dd_make_fraction) rfl) (c.t.d.fact 0 (f := .glo "make_fraction") rfl) (fun _ _ _ _ _ _ us hl => match us, hl with | [_, _], _ => rfl) (fun f fd F => ok_make_fraction T F))
  have D_tally_of := (show Kept P w K mg base (1) "tally_of" ["values"] (spTally K) from kept_of (st := s_tally_of) X G (c.t.d.def_ 5 (d := dd_tally_of) rfl) (c.t.d.fact 5 (f := .glo "tally_of") rfl) (fun _ _ _ _ _ _ us hl => match us, hl with | [_], _ => rfl) (fun f fd F => ok_tally_of T F))
  have D__law_begin := (show Kept P w K mg base (1) "_law_begin" ["script"] (spBegin K) from kept_of (st := s__law_begin) X G (c.t.d.def_ 11 (d := dd__law_begin) rfl) (c.t.d.fact 11 (f := .glo "_law_begin") rfl) (fun _ _ _ _ _ _ us hl => match us, hl with | [_], _ => rfl) (fun f fd F => ok__law_begin T F))
  have D__law_draw := (show Kept P w K mg base (1) "_law_draw" ["d", "many"] spDraw from kept_of (st := s__law_draw) X G (c.t.d.def_ 12 (d := dd__law_draw) rfl) (c.t.d.fact 12 (f := .glo "_law_draw") rfl) (fun _ _ _ _ _ _ us hl => match us, hl with | [_, _], _ => rfl) (fun f fd F => ok__law_draw T F))
  have D__law_is_int := (show Kept P w K mg base (1) "_law_is_int" ["thing"] spIsInt from kept_of (st := s__law_is_int) X G (c.t.d.def_ 14 (d := dd__law_is_int) rfl) (c.t.d.fact 14 (f := .glo "_law_is_int") rfl) (fun _ _ _ _ _ _ us hl => match us, hl with | [_], _ => rfl) (fun f fd F => ok__law_is_int T F))
  have D__law_frac := (show Kept P w K mg base (1) "_law_frac" ["n", "d"] spFrac from kept_of (st := s__law_frac) X G (c.t.d.def_ 16 (d := dd__law_frac) rfl) (c.t.d.fact 16 (f := .glo "_law_frac") rfl) (fun _ _ _ _ _ _ us hl => match us, hl with | [_, _], _ => rfl) (fun f fd F => ok__law_frac T F))
  have D__law_tally := (show Kept P w K mg base (1) "_law_tally" ["row"] (spLTally K) from kept_of (st := s__law_tally) X G (c.t.d.def_ 22 (d := dd__law_tally) rfl) (c.t.d.fact 22 (f := .glo "_law_tally") rfl) (fun _ _ _ _ _ _ us hl => match us, hl with | [_], _ => rfl) (fun f fd F => ok__law_tally T F))
  have D__law_cut := (show Kept P w K mg base (1) "_law_cut" ["row", "length"] (spCut K) from kept_of (st := s__law_cut) X G (c.t.d.def_ 24 (d := dd__law_cut) rfl) (c.t.d.fact 24 (f := .glo "_law_cut") rfl) (fun _ _ _ _ _ _ us hl => match us, hl with | [_, _], _ => rfl) (fun f fd F => ok__law_cut T F))
  have D_sum_of := (show Kept P w K mg base (2) "sum_of" ["a", "b"] (spBin K add2) from kept_of (st := s_sum_of) X G (c.t.d.def_ 1 (d := dd_sum_of) rfl) (c.t.d.fact 1 (f := .glo "sum_of") rfl) (fun _ _ _ _ _ _ us hl => match us, hl with | [_, _], _ => rfl) (fun f fd F => ok_sum_of T D_make_fraction F))
  have D_difference_of := (show Kept P w K mg base (2) "difference_of" ["a", "b"] (spBin K sub2) from kept_of (st := s_difference_of) X G (c.t.d.def_ 2 (d := dd_difference_of) rfl) (c.t.d.fact 2 (f := .glo "difference_of") rfl) (fun _ _ _ _ _ _ us hl => match us, hl with | [_, _], _ => rfl) (fun f fd F => ok_difference_of T D_make_fraction F))
  have D_product_of := (show Kept P w K mg base (2) "product_of" ["a", "b"] (spBin K mul2) from kept_of (st := s_product_of) X G (c.t.d.def_ 3 (d := dd_product_of) rfl) (c.t.d.fact 3 (f := .glo "product_of") rfl) (fun _ _ _ _ _ _ us hl => match us, hl with | [_, _], _ => rfl) (fun f fd F => ok_product_of T D_make_fraction F))
  have D_mean_of := (show Kept P w K mg base (2) "mean_of" ["tally"] (spMean K) from kept_of (st := s_mean_of) X G (c.t.d.def_ 6 (d := dd_mean_of) rfl) (c.t.d.fact 6 (f := .glo "mean_of") rfl) (fun _ _ _ _ _ _ us hl => match us, hl with | [_], _ => rfl) (fun f fd F => ok_mean_of T D_make_fraction F))
  have D__law_rare := (show Kept P w K mg base (2) "_law_rare" ["d", "many"] spRare from kept_of (st := s__law_rare) X G (c.t.d.def_ 13 (d := dd__law_rare) rfl) (c.t.d.fact 13 (f := .glo "_law_rare") rfl) (fun _ _ _ _ _ _ us hl => match us, hl with | [_, _], _ => rfl) (fun f fd F => ok__law_rare T D__law_draw F))
  have D__law_is_ints := (show Kept P w K mg base (2) "_law_is_ints" ["row"] (spIsInts K) from kept_of (st := s__law_is_ints) X G (c.t.d.def_ 15 (d := dd__law_is_ints) rfl) (c.t.d.fact 15 (f := .glo "_law_is_ints") rfl) (fun _ _ _ _ _ _ us hl => match us, hl with | [_], _ => rfl) (fun f fd F => ok__law_is_ints T D__law_is_int F))
  have D__law_plus := (show Kept P w K mg base (2) "_law_plus" ["a", "b"] (spBin K add2) from kept_of (st := s__law_plus) X G (c.t.d.def_ 17 (d := dd__law_plus) rfl) (c.t.d.fact 17 (f := .glo "_law_plus") rfl) (fun _ _ _ _ _ _ us hl => match us, hl with | [_, _], _ => rfl) (fun f fd F => ok__law_plus T D__law_frac F))
  have D__law_minus := (show Kept P w K mg base (2) "_law_minus" ["a", "b"] (spBin K sub2) from kept_of (st := s__law_minus) X G (c.t.d.def_ 18 (d := dd__law_minus) rfl) (c.t.d.fact 18 (f := .glo "_law_minus") rfl) (fun _ _ _ _ _ _ us hl => match us, hl with | [_, _], _ => rfl) (fun f fd F => ok__law_minus T D__law_frac F))
  have D__law_times := (show Kept P w K mg base (2) "_law_times" ["a", "b"] (spBin K mul2) from kept_of (st := s__law_times) X G (c.t.d.def_ 19 (d := dd__law_times) rfl) (c.t.d.fact 19 (f := .glo "_law_times") rfl) (fun _ _ _ _ _ _ us hl => match us, hl with | [_, _], _ => rfl) (fun f fd F => ok__law_times T D__law_frac F))
  have D__law_line := (show Kept P w K mg base (2) "_law_line" ["d", "many"] spLine from kept_of (st := s__law_line) X G (c.t.d.def_ 21 (d := dd__law_line) rfl) (c.t.d.fact 21 (f := .glo "_law_line") rfl) (fun _ _ _ _ _ _ us hl => match us, hl with | [_, _], _ => rfl) (fun f fd F => ok__law_line T D__law_draw F))
  have D__law_same := (show Kept P w K mg base (2) "_law_same" ["told", "due"] (spSame K) from kept_of (st := s__law_same) X G (c.t.d.def_ 23 (d := dd__law_same) rfl) (c.t.d.fact 23 (f := .glo "_law_same") rfl) (fun _ _ _ _ _ _ us hl => match us, hl with | [_, _], _ => rfl) (fun f fd F => ok__law_same T D__law_is_int F))
  have D_total_of := (show Kept P w K mg base (3) "total_of" ["fractions"] (spTotal K) from kept_of (st := s_total_of) X G (c.t.d.def_ 4 (d := dd_total_of) rfl) (c.t.d.fact 4 (f := .glo "total_of") rfl) (fun _ _ _ _ _ _ us hl => match us, hl with | [_], _ => rfl) (fun f fd F => ok_total_of T D_sum_of F))
  have D_spread_of := (show Kept P w K mg base (3) "spread_of" ["tally"] (spSpread K) from kept_of (st := s_spread_of) X G (c.t.d.def_ 7 (d := dd_spread_of) rfl) (c.t.d.fact 7 (f := .glo "spread_of") rfl) (fun _ _ _ _ _ _ us hl => match us, hl with | [_], _ => rfl) (fun f fd F => ok_spread_of T D_make_fraction D_difference_of D_product_of D_mean_of F))
  have D__law_is_frac := (show Kept P w K mg base (3) "_law_is_frac" ["thing"] (spIsFrac K) from kept_of (st := s__law_is_frac) X G (c.t.d.def_ 20 (d := dd__law_is_frac) rfl) (c.t.d.fact 20 (f := .glo "_law_is_frac") rfl) (fun _ _ _ _ _ _ us hl => match us, hl with | [_], _ => rfl) (fun f fd F => ok__law_is_frac T D__law_is_ints D__law_frac F))
  have D__law_apart := (show Kept P w K mg base (3) "_law_apart" ["row", "middle"] (spApart K) from kept_of (st := s__law_apart) X G (c.t.d.def_ 25 (d := dd__law_apart) rfl) (c.t.d.fact 25 (f := .glo "_law_apart") rfl) (fun _ _ _ _ _ _ us hl => match us, hl with | [_, _], _ => rfl) (fun f fd F => ok__law_apart T D__law_plus D__law_minus D__law_times F))
  have D_spread_within := (show Kept P w K mg base (4) "spread_within" ["tallies"] (spWithin K) from kept_of (st := s_spread_within) X G (c.t.d.def_ 9 (d := dd_spread_within) rfl) (c.t.d.fact 9 (f := .glo "spread_within") rfl) (fun _ _ _ _ _ _ us hl => match us, hl with | [_], _ => rfl) (fun f fd F => ok_spread_within T D_make_fraction D_product_of D_total_of D_spread_of F))
  have D_spread_between := (show Kept P w K mg base (4) "spread_between" ["tallies"] (spBetween K) from kept_of (st := s_spread_between) X G (c.t.d.def_ 10 (d := dd_spread_between) rfl) (c.t.d.fact 10 (f := .glo "spread_between") rfl) (fun _ _ _ _ _ _ us hl => match us, hl with | [_], _ => rfl) (fun f fd F => ok_spread_between T D_make_fraction D_difference_of D_product_of D_total_of D_mean_of F))
  have D__law_groups_hold := (show Kept P w K mg base (5) "_law_groups_hold" ["groups"] (spHolds K) from kept_of (st := s__law_groups_hold) X G (c.t.d.def_ 26 (d := dd__law_groups_hold) rfl) (c.t.d.fact 26 (f := .glo "_law_groups_hold") rfl) (fun _ _ _ _ _ _ us hl => match us, hl with | [_], _ => rfl) (fun f fd F => ok__law_groups_hold T D_spread_within D_spread_between D__law_frac D__law_plus D__law_minus D__law_times D__law_is_frac D__law_tally D__law_apart F))
  have D_batches := (show Kept P w K mg base (6) "batches" ["values", "length"] (spBatch K) from kept_ofC (st := s_batches) X G (c.t.d.def_ 8 (d := dd_batches) rfl) (c.t.d.fact 8 (f := .glo "batches") rfl) (fun _ _ _ _ _ _ us hl => match us, hl with | [_, _], _ => rfl) (fun fd F => ok_batches T D_tally_of TB_batches F))
  exact ok_law T D_batches D__law_begin D__law_draw D__law_rare D__law_line D__law_tally D__law_same D__law_cut D__law_groups_hold F
end Mt
open PySem PySem.W PySem.Calls PyProof.Rows
set_option maxHeartbeats 0 in
theorem PySem.Challenge.cw_meantrace_k37_whole_spreads_holds : PySem.Challenge.rw_meantrace_k37_whole_spreads.Holds := by
  w_on; o_law
  refine HandSHeadRun.head_imp (r := OpenLaw.row PySem.Challenge.rw_meantrace_k37_whole_spreads) (q := view (OpenLaw.row PySem.Challenge.rw_meantrace_k37_whole_spreads).prog [0, 32]) (H := Mt.hk) (ob := Mt.ob) (M := 3000) (loose := Mt.names) (d := HandSHeadRun.topDef (OpenLaw.row PySem.Challenge.rw_meantrace_k37_whole_spreads).prog 32) (kwd := []) Mt.ob_eq
     Mt.run (by kernel_rfl) (by kernel_rfl) (by kernel_rfl) (by rfl) (by first | assumption | decide +kernel) (by decide +kernel) ⟨rfl, rfl, rfl, rfl, rfl, by decide +kernel⟩ ?hw ?hc
  case hw => w_witness2
  case hc =>
    refine LamX.walk_ofTsE (l := PySem.Challenge.rw_meantrace_k37_whole_spreads) (n := 63) (k := 7) (x := "script") (CX := fun _ => L2.CX0) rfl (by decide) (by kernel_rfl) ⟨rfl, by decide, by decide⟩ ?F (fun _ _ _ _ _ z => z)
    intro w mg fa h Y G hmg0
    obtain ⟨K, KX, c⟩ := Y
    have hmg : mg ("law" : PySem.Str) = some (.ref fa) := by
      have e : (HandSHeadRun.topDef (OpenLaw.row PySem.Challenge.rw_meantrace_k37_whole_spreads).prog 32).name = ("law" : PySem.Str) := by kernel_rfl
      rw [← e]
      exact hmg0
    obtain ⟨fd, hb, hF⟩ := Mt.facts (P := (PySem.Challenge.rw_meantrace_k37_whole_spreads).prog) (w := w) KX G hmg c
    have mem : ∀ p ∈ [He.cT K ("batches", none)], ∃ q ∈ Mt.tfs, p = He.cT K q := fun p hp => by
      obtain ⟨q, hq, e⟩ := List.mem_map.mp (show p ∈ Mt.tfs.map (He.cT K) from hp)
      exact ⟨q, hq, e.symm⟩
    refine ⟨K, KX, fd, [He.cT K ("batches", none)], Mt.spLawB K, fun p hp => ?_, fun p hp => ?_, fun p hp => ?_, hb, fun H a ns hl hbits hT hS => ?_, fun base kb gb tb => hF base kb gb (let t := tb _ List.mem_cons_self; ⟨t.code, t.bm, t.gP⟩)⟩
    · obtain ⟨q, hq, e⟩ := mem p hp
      rw [e]
      exact c.empty q hq
    · obtain ⟨q, hq, e⟩ := mem p hp
      rw [e]
      exact c.out q hq
    · obtain ⟨q, hq, e⟩ := mem p hp
      rw [e]
      exact PySem.W.codeHd_of_K KX (c.hd q hq)
    · exact ⟨a, ns, rfl, hS, hl, hT _ List.mem_cons_self, fun _ => rfl⟩
