import PyProof.Rows.All
import Wide.All
import OpenK.AllK
import Wide.FinOn
import KE.KStateDown
import HandS.ForMost
import HandS.Wide
import HandS.IsInst
import HandS.Walk
import HandS.Style
import HandS.Evl
import HandS.StrMore
import HandS.Exc
import HandS.WordsExc
import HandS.Defaults
import HandS.Head0
import HandS.Head1
import HandS.Head2
import HandS.HeadEnd
import HandS.HeadHook1
import HandS.HeadHook2
import HandS.Gcd
import HandS.Head3
import HandS.Star
import HandS.RaiseMore
import HandS.AnyAll
import HandS.Conv
import HandS.More
import HandS.Small
import HandS.HeadHook3
import HandS.HeadHook4
import HandS.HeadWalk
import HandS.EndTab
import PyProof.GenCompT
import PyProof.TupleOfGen
import PyProof.WalksPairs
import KE.KTupSum
import KE.DataMinMax
import HandS.SortKw
import HandS.TupAny
import HandS.TupMul
import KE.KDictKeyed
import KE.SortData
import KE.KDictSum
import KE.KDictPairs
import HandS.Zip
import HandS.Codes
import HandS.TryElse
import HandS.HeadNt
import HandS.Property
import HandS.SetBool
import HandS.SetKeys
import PySem.Challenge.RW_meantrace_k74_watches_walked
set_option Elab.async false
set_option linter.all false
set_option maxRecDepth 100000
/-! Our own words over the hand layer: defs of the top by name, the draws' state, heaps that go on. -/
namespace Mt
open PySem PySem.Spec PyProof.Rows L2
section
variable {P : Program} {w : World} {K : PySem.W.Frag} {mg : Str → Option Value} {base : Heap}
abbrev FnP (K : PySem.W.Frag) (x : Str) (st : Stmt) (f : Addr) (fd : FuncData) : Prop := FunD K x x (defArgs st) (defBody st) (defScope st) [] [] f fd
/-- a def that keeps its promise -/
def Kept (P : Program) (w : World) (K : PySem.W.Frag) (mg : Str → Option Value) (base : Heap) (k : Nat) (x : Str) (ps : List Str) (sp : Sp) : Prop :=
  ∃ f fd, FnOk P w K mg base CX0 k f fd ps sp ∧ mg x = some (.ref f) ∧ PySem.W.keepIn K (.ref f) = true ∧ Binds K fd ps []
/-- what the head tells: facts by names, defs, one more word of one's own -/
abbrev AlM : Type := He.AlD × Bool
def obsM (n : Nat) (fa : List He.Fa) (fn : List He.DefD) (ex : PySem.W.Frag → Bool) (g : Addr → Option Obj) : AlM := (He.obsDG n fa fn g, ex (He.frG g (He.asD g n)))
def SaysM (fa : List He.Fa) (fn : List He.DefD) (ex : PySem.W.Frag → Bool) (K : PySem.W.Frag) : Prop := He.SaysD fa fn K ∧ ex K = true
def hookM (n : Nat) (fa : List He.Fa) (fn : List He.DefD) (ex : PySem.W.Frag → Bool) : PySem.W.Hook where
  α := AlM
  obs := fun s => obsM n fa fn ex s.heap.get?
  val := fun _ => (He.valD fn, true)
  says := fun _ h => ∃ K : PySem.W.Frag, K.In h ∧ SaysM fa fn ex K
  of := fun _ _ e => ⟨_, He.frG_in, congrArg (fun z : AlM => z.1) e, congrArg (fun z : AlM => z.2) e⟩
  keeps := fun _ _ _ ⟨K, hK, c⟩ k => ⟨K, PySem.W.Frag.In.keeps hK k, c⟩
theorem obsM_eq {n : Nat} {fa : List He.Fa} {fn : List He.DefD} {ex : PySem.W.Frag → Bool} {g : Addr → Option Obj} {s : Shared} (h : ∀ a, g a = s.heap.get? a) : obsM n fa fn ex g = (hookM n fa fn ex).obs s := by
  have e : g = s.heap.get? := funext h
  rw [e] <;> rfl
theorem kept_of {h : Heap} (X : K.In h) (G : h.Ns mainGlobals mg) {x : Str} {ps : List Str} {st : Stmt} {k : Nat} {sp : Sp}
    (hd : ∃ fd, FnP K x st (He.ga K x) fd) (hg : (He.Fa.glo x).ok K = true)
    (hb : ∀ (kV doc pm : Value) (an : Option Addr) (cdv ct : Value) (us : List Value), us.length = ps.length → bindArgs (PySem.W.fnOf x x (defArgs st) (defBody st) (defScope st) .none kV doc pm an cdv ct) ⟨us, []⟩ = pure (ps.zip us))
    (ok : ∀ f fd, FnP K x st f fd → FnOk P w K mg base CX0 k f fd ps sp) : Kept P w K mg base k x ps sp := by
  obtain ⟨fd, F⟩ := hd
  exact ⟨_, fd, ok _ fd F, He.glo_ok X G hg, F.kp, F.bindsN hb⟩
end
section
variable {X : Cx}
theorem pe_d {k : Nat} {x : Str} {ps : List Str} {sp : Sp} {e : Expr} {es : List Expr} {t : TA} {p pos : Pos} (D : Kept X.prog X.w X.K X.mg X.base k x ps sp) (hr : Room k X.A) (hg : Gl X x) (ha : PA X (e :: es) t)
    (hdb : (x == ("__debug__" : Str)) = false := by decide) (he : starEach (e :: es) X.env = (false, eval e X.env) :: starEach es X.env := by rfl) (hpl : (backTo pos (starEach es X.env)).any (·.1) = false := by rfl) :
    PE X (.Call (.Name x p) (e :: es) [] pos) (tCall sp [] E0 t) := by
  obtain ⟨f, fd, F, g, kp, b⟩ := D
  exact pe_call F hr hg g kp b .nil pass0 ha hdb he hpl
theorem pe_d0 {k : Nat} {x : Str} {ps : List Str} {sp : Sp} {p pos : Pos} (D : Kept X.prog X.w X.K X.mg X.base k x ps sp) (hr : Room k X.A) (hg : Gl X x) (hdb : (x == ("__debug__" : Str)) = false := by decide) :
    PE X (.Call (.Name x p) [] [] pos) (tCall sp [] E0 tNil) := by
  obtain ⟨f, fd, F, g, kp, b⟩ := D
  exact pe_call0 F hr hg g kp b .nil pass0 hdb
/-- a text of the module; an object of the module -/
theorem pe_gs {x z : Str} {pos : Pos} (h : ∃ t, X.mg x = some (.str z t)) (hg : Gl X x) (hd : (x == ("__debug__" : Str)) = false := by decide) : PE X (.Name x pos) (tC (.str z)) := by
  obtain ⟨t, h⟩ := h
  exact pe_glob hg h ⟨_, rfl⟩ hd
/-- xs[i] op= e reads xs[i] -/
theorem get_list : PGet X (rIxL X.K) := by
  intro pins s σ H o i ov iv Q I ro ri h
  obtain ⟨p, xs, i, z, rfl, rfl, hq, he, q⟩ := h
  cases ro
  obtain ⟨t, rfl⟩ := ri
  obtain ⟨its, r, pl, hz⟩ := I.list hq
  obtain ⟨j, h1, h2, h3, h4, h5⟩ := atI_get he
  obtain ⟨w, ew, rw'⟩ := r.get h2
  have hl := r.length
  have hn := line63
  have fin : EP X pins σ Q w s := ⟨z, H, I, rw', q⟩
  by_cases h0 : 0 ≤ i
  · have hj : i.toNat = j := by
      rw [seqIndex_of h0 h5] at h1
      exact Option.some.inj h1
    exact wpAny_mono (wpAny_getItem_list (Q := fun r s' => r = w ∧ EP X pins σ Q r s') pl.isList h0 (by omega) (by rw [hj]; simpa using ew) ⟨rfl, fin⟩) (fun _ _ q => q.2) (fun _ _ q => q)
  · have hj : (i + (its.toArray.size : Int)).toNat = j := by
      rw [seqIndex_neg (by omega) h4] at h1
      rw [List.size_toArray, ← hl]
      exact Option.some.inj h1
    exact wpAny_mono (wpAny_getItem_list_neg (Q := fun r s' => r = w ∧ EP X pins σ Q r s') pl.isList (by omega) (by rw [List.size_toArray] <;> omega) (by omega) (by rw [hj]; simpa using ew) ⟨rfl, fin⟩) (fun _ _ q => q.2) (fun _ _ q => q)
end

/-! ### the draws: [cells, place, rest, seed] at D -/
structure DrawAt (S D : Addr) (H : Hp) : Prop where
  ne : S ≠ D
  cells : ∃ cs : List Int, H S = some (.lst (cs.map V.int))
  at_ : ∃ i r c : Int, 0 ≤ i ∧ H D = some (.lst [.ref S, .int i, .int r, .int c])
/-- all else that is tracked stays -/
def Keep (D : Addr) (H H' : Hp) : Prop := ∀ b o, H b = some o → b ≠ D → H' b = some o
def Go (S D : Addr) (H H' : Hp) : Prop := DrawAt S D H' ∧ Keep D H H'
theorem Keep.refl {D : Addr} {H : Hp} : Keep D H H := fun _ _ h _ => h
theorem Keep.trans {D : Addr} {H H1 H2 : Hp} (a : Keep D H H1) (b : Keep D H1 H2) : Keep D H H2 := fun x o h n => b x o (a x o h n) n
theorem Go.trans {S D : Addr} {H H1 H2 : Hp} (a : Go S D H H1) (b : Go S D H1 H2) : Go S D H H2 := ⟨b.1, a.2.trans b.2⟩
theorem Keep.set {D : Addr} {H H' : Hp} {o : HO} (k : Keep D H H') : Keep D H (upd H' D o) := fun b u h n => by
  rw [upd_ne n]
  exact k b u h n
theorem DrawAt.set {S D : Addr} {H : Hp} (d : DrawAt S D H) {i r c : Int} (h : 0 ≤ i) : DrawAt S D (upd H D (.lst [.ref S, .int i, .int r, .int c])) :=
  ⟨d.ne, d.cells.imp fun cs h => by rw [upd_ne d.ne]; exact h, ⟨i, r, c, h, upd_same⟩⟩
theorem DrawAt.new {S D p : Addr} {H : Hp} {o : HO} (d : DrawAt S D H) (h : H p = none) : DrawAt S D (upd H p o) := by
  obtain ⟨cs, h1⟩ := d.cells
  obtain ⟨i, r, c, h0, h2⟩ := d.at_
  exact ⟨d.ne, ⟨cs, by rw [upd_ne (ne_of_none h1 h)]; exact h1⟩, ⟨i, r, c, h0, by rw [upd_ne (ne_of_none h2 h)]; exact h2⟩⟩
theorem Keep.new {D p : Addr} {H : Hp} {o : HO} (h : H p = none) : Keep D H (upd H p o) := fun b u e _ => by
  rw [upd_ne (ne_of_none e h)]
  exact e
theorem Go.new {S D p : Addr} {H : Hp} {o : HO} (d : DrawAt S D H) (h : H p = none) : Go S D H (upd H p o) := ⟨d.new h, Keep.new h⟩
theorem Go.same {S D : Addr} {H H' : Hp} (d : DrawAt S D H) (h : Same H H') : Go S D H H' := by
  obtain ⟨cs, h1⟩ := d.cells
  obtain ⟨i, r, c, h0, h2⟩ := d.at_
  exact ⟨⟨d.ne, ⟨cs, h _ _ h1⟩, ⟨i, r, c, h0, h _ _ h2⟩⟩, fun b o e _ => h b o e⟩
theorem Go.refl {S D : Addr} {H : Hp} (d : DrawAt S D H) : Go S D H H := ⟨d, Keep.refl⟩
/-- a fresh place stays fresh when looked at from behind -/
theorem DrawAt.free {S D p : Addr} {H : Hp} (d : DrawAt S D H) (h : H p = none) : p ≠ D ∧ p ≠ S := by
  obtain ⟨cs, h1⟩ := d.cells
  obtain ⟨i, r, c, h0, h2⟩ := d.at_
  exact ⟨(ne_of_none h2 h).symm, (ne_of_none h1 h).symm⟩
theorem Go.free {S D p : Addr} {H H' : Hp} (g : Go S D H H') (d : DrawAt S D H) (h : H' p = none) : H p = none := by
  cases q : H p with
  | none => rfl
  | some o =>
    by_cases e : p = D
    · exact absurd e (g.1.free h).1
    · rw [g.2 p o q e] at h
      cases h
def spDraw : Sp := fun vs H Q _ => ∃ (S D : Addr) (many : Int), vs = [.ref D, .int many] ∧ CDivW 0 many ∧ DrawAt S D H ∧ ∀ H' v, 0 ≤ v → v < many → Go S D H H' → Q (.int v) H'
end Mt
/-! ### {e for x in xs}, ints and texts; its len -/
namespace SCT
open PySem PySem.Spec PyProof.Rows L2
section
variable {X : Cx}
/-- the set of no keys -/
abbrev SE (P : Program) (w : World) (D : Addr) : HO := SetK P w D (fun _ => false) 0
/-- {e for x in xs}, e an int or a text: D the new set -/
def tScK (P : Program) (w : World) (wi : TI) (g : TG) (te : TE) (vs : List Nat) : TE := fun σ H Q => wi σ H fun J H1 => ∀ D, H1 D = none →
  ∃ W : Nat → Nat → Hp → Prop, (∃ m, W 0 m (upd H1 D (SE P w D))) ∧ ∀ i m H, W i m H →
    (J.stop i H ∧ Q (.ref D) H) ∨ (J.go i H ∧ ∃ Nx : Hp → Prop, (∀ H2, Nx H2 → ∃ m2, m2 < m ∧ W (i + 1) m2 H2) ∧
      ∀ x H2, J.yld i H x H2 → g x (wipe σ vs) H2 fun σ3 H3 => wipe σ3 vs = wipe σ vs ∧ te σ3 H3 fun y H4 => ∃ (k : Key) (S : Key → Bool) (n : Nat), y = kV k ∧ H4 D = some (SetK P w D S n) ∧ n + 1 < scanBound ∧ Nx (upd H4 D (SetK P w D (fun j => S j || decide (j = k)) (if S k = true then n else n + 1))))
theorem se_new {P : Program} {w : World} {h : Heap} : (h.push { cls := .type "set", dict := none, data := .set #[] 0 (.fresh 0 0 (!w.params.followText "set-order")) }).SetOf (mixKind P w) h.objs.size (fun _ => false) 0 :=
  ⟨_, #[], 0, _, Heap.get?_push_size _ rfl, ⟨rfl, rfl, rfl⟩, rfl, (fun e he => by simp at he), (fun k => by simp), (by decide), (by rfl), rfl⟩
abbrev BX (X : Cx) (scope : Scope) (q : Shared × Hp × Addr × List (Str × Addr) × List Addr) : Cx := X.blk q.1 q.2.1 scope (compEnvC scope q.2.2.2.1 q.2.2.1 X.env) q.2.2.2.2
theorem run_scK {pins : List (Addr × Obj)} {σ : L2.St} {H : Hp} {s : Shared} {Q : VK} {ex tg iter : Expr} {scope : Scope} {own : List (Str × Nat)} {pos pos2 : Pos} {wi : TI} {g : TG} {te : TE} {use : Option (Value → Sem Unit)} {Qf : Value → Shared → Prop}
    (calm : X.calm = true) (nd : X.N.Nodup) (I : Inv X pins σ H s) (hi : PI X tg iter wi) (ok : BlkOk X.N X.env.scope scope own)
    (pg : ∀ q, PG (BX X scope q) tg g) (pk : ∀ q, PE (BX X scope q) ex te) (plain : ∀ x, foldedSetIterable iter X.env x = pure x) (h : tScK X.prog X.w wi g te (own.map (·.2)) σ H Q)
    (done : ∀ D L s2 m H2, Inv X pins σ H2 s2 → Q (.ref D) H2 → s2.heap.Ns L m → FpOk X pins H2 L → compPost (model X.prog X.w) X.A X.xe use Qf (.ref D) L (.ok .next) s2) :
    wpAny (model X.prog X.w) X.A (comprehension (.SetComp ex [⟨tg, iter, [], 0⟩] scope pos) scope X.env pos2 (newSet (.type "set")) false (eval iter X.env) use) Qf X.xe s := by
  have lk : ∀ y ∈ scope.names, y.2 = .free → ∃ c, X.env.cells.lookup y.1 = some c := fun y hy e => (ok.free y hy e).elim (fun k => I.ok.has _ (.inl k)) (fun k => I.ok.has _ (.inr k))
  refine wpAny_comprehension_free (use := use) rfl plain (closure_ok lk) ok.kind (fun y hy e => by rw [ok.uniq y hy, e]) (thn (hi.run pins s σ H _ I h) fun _ s1 h1 => thn h1 fun _ s2 h2 => ?_)
  obtain ⟨it, fp, tn, J, H2, rfl, I2, T, st2, f2, fill⟩ := h2
  refine PpSet.newSet_ok (newEnv_comp ?_)
  obtain ⟨W, ⟨m0, w0⟩, turn⟩ := fill _ (I2.hok.fresh (Nat.le_refl _))
  obtain ⟨D, eD⟩ : ∃ D, D = s2.heap.objs.size := ⟨_, rfl⟩
  obtain ⟨hp, ehp⟩ : ∃ hp, hp = s2.heap.push { cls := .type "set", dict := none, data := .set #[] 0 (.fresh 0 0 (!X.w.params.followText "set-order")) } := ⟨_, rfl⟩
  rw [← eD] at w0 turn ⊢
  rw [← ehp]
  -- the empty dict stands
  have old : ∀ b o, s2.heap.get? b = some o → hp.get? b = some o := fun b o e => by
    rw [ehp]
    exact Heap.get?_push_of_some _ e
  have big : hp.objs.size = D + 1 := by rw [ehp, Heap.size_push, eD]
  have I3 : Inv X pins σ (upd H2 D (SE X.prog X.w D)) { s2 with heap := hp } := by
    subst eD ehp
    exact I2.laid (t' := s2.toks) (fun b o e => Heap.get?_push_of_some _ e) (Nat.le_refl _) (setK_new se_new)
  have low : ∀ b ∈ fp, b < D := fun b hb => by
    obtain ⟨o, e, _⟩ := T.obj _ _ st2 b hb
    rw [eD]
    exact Heap.lt_size e
  have f3 : ∀ b ∈ fp, FpOk X pins (upd H2 D (SE X.prog X.w D)) b ∧ b < ({ s2 with heap := hp } : Shared).heap.objs.size := fun b hb => by
    have lb := low b hb
    refine ⟨⟨?_, (f2 b hb).2⟩, ?_⟩
    · rw [upd_ne (Nat.ne_of_lt lb)]
      exact (f2 b hb).1
    · show b < hp.objs.size
      rw [big]
      exact Nat.lt_succ_of_lt lb
  have st3 : tn 0 hp := T.keep _ _ _ st2 fun b _ o e => old b o e
  obtain ⟨s3, es3⟩ : ∃ s3 : Shared, s3 = { s2 with heap := hp } := ⟨_, rfl⟩
  have eh3 : s3.heap = hp := by rw [es3]
  rw [← es3] at I3 f3
  obtain ⟨H3, eH3⟩ : ∃ H3, H3 = upd H2 D (SE X.prog X.w D) := ⟨_, rfl⟩
  rw [← eH3] at I3 f3 w0
  have gone : ∀ b ∈ fp, H3 b = none := fun b hb => (f3 b hb).1.1
  have I4 := block_start I3 ok nd f3
  obtain ⟨cl, ecl⟩ : ∃ cl, cl = cellsFrom (s3.heap.objs.size + 1) scope.names (cloFrom X.env.cells scope.names []) := ⟨_, rfl⟩
  have kg := pg (s3, H3, s3.heap.objs.size, cl, fp)
  have kk := pk (s3, H3, s3.heap.objs.size, cl, fp)
  rw [← ecl] at I4
  obtain ⟨ce, ece⟩ : ∃ ce, ce = compEnvC scope cl s3.heap.objs.size X.env := ⟨_, rfl⟩
  have ceL : ce.locals = s3.heap.objs.size := by rw [ece]; rfl
  obtain ⟨s4, es4⟩ : ∃ s4 : Shared, s4 = { s3 with heap := pushCells (hp.push { cls := .type "dict", data := .dict #[] }) scope.names } := ⟨_, rfl⟩
  obtain ⟨B, eB⟩ : ∃ B, B = X.blk s3 H3 scope ce fp := ⟨_, rfl⟩
  have kg : PG B tg g := by
    rw [eB, ece]
    exact kg
  have kk : PE B ex te := by
    rw [eB, ece]
    exact kk
  have J4 : Inv B [] (wipe σ (own.map (·.2))) H3 s4 := by
    rw [eB, ece, es4]
    rw [← eh3]
    exact I4
  have tn4 : tn 0 s4.heap := T.keep _ _ _ st3 fun b _ o e => by
    rw [es4]
    exact pushCells_keeps _ _ _ _ (Heap.get?_push_of_some _ e)
  have back : ∀ (H5 : Hp) (s6 : Shared) (σ5 : L2.St), Inv B [] σ5 H5 s6 → Inv X pins σ H5 s6 ∧ ∃ m, s6.heap.Ns s3.heap.objs.size m ∧ FpOk X pins H5 s3.heap.objs.size := fun H5 s6 σ5 I6 => by
    subst eB
    have nC : H5 s3.heap.objs.size = none := by
      have z : H5 ce.locals = none := I6.free
      rwa [ceL] at z
    obtain ⟨m, hn, _⟩ := I6.loc
    have hn : s6.heap.Ns ce.locals m := hn
    rw [ceL] at hn
    exact ⟨I3.call' (ch := fp) I6.os I6.base I6.hok I6.bare fun b hb => ⟨(f3 b hb).1.2.2.2.1, (f3 b hb).1.2.1, (f3 b hb).1.2.2.2.2.1, (f3 b hb).1.2.2.2.2.2⟩, m, hn, I3.fpOk (Nat.le_refl _) nC⟩
  have go4 : codeAny (model X.prog X.w) X.A (.compLoop (.SetComp ex [⟨tg, iter, [], 0⟩] scope pos) 0 (.ref it) (.ref D) ce) (compPost (model X.prog X.w) X.A X.xe use Qf (.ref D) s3.heap.objs.size) s4 := by
    subst eB
    refine PpSet.compLoopS_any (fun n s' => ∃ i H', Inv (X.blk s3 H3 scope ce fp) [] (wipe σ (own.map (·.2))) H' s' ∧ tn i s'.heap ∧ (∀ b ∈ fp, H' b = none) ∧ W i n H') ?_ m0 ⟨0, H3, J4, tn4, gone, w0⟩
    rintro n s5 ⟨i, H5, I5, st5, n5, w5⟩
    have stay : ∀ {σ' : L2.St} {K' : Hp} {s' : Shared}, Inv (X.blk s3 H3 scope ce fp) [] σ' K' s' → (∀ b ∈ fp, K' b = none) → ∀ b ∈ fp, FpOk (X.blk s3 H3 scope ce fp) [] K' b := fun {σ' K' s'} I' hn b hb =>
      ⟨hn b hb, (I'.ok.exf b hb).1, I'.ok.exfs b hb, .inl hb, (I'.ok.exf b hb).2, fun p hp => by simp at hp⟩
    rcases turn i n H5 w5 with ⟨stop, qq⟩ | ⟨go, Nx, hNx, step⟩
    · refine thnF (T.done (X.blk s3 H3 scope ce fp) rfl rfl rfl calm i [] s5 _ H5 (fun _ _ => False) I5 (stay I5 n5) st5 stop) fun r s6 ⟨er, I6⟩ => ?_
      subst er
      obtain ⟨I7, m, hn, free⟩ := back _ _ _ I6
      exact done D _ s6 m H5 I7 qq hn free
    · refine thnF (T.item (X.blk s3 H3 scope ce fp) rfl rfl rfl calm i [] s5 _ H5 (fun _ _ => False) I5 (stay I5 n5) st5 go) fun r s6 ⟨u, er, h6⟩ => ?_
      subst er
      refine thnF h6 fun _ s7 ⟨x, H7, I7, r7, y7, st7, n7⟩ => ?_
      have P7 := I7.pinned (stay I7 n7) (T.obj _ _ st7)
      refine thnF (kg.run _ s7 _ H7 x u _ P7 r7 (step x H7 y7)) fun _ s8 ⟨σ8, H8, I8, hw8, q8⟩ => ?_
      simp only [List.forIn_nil]
      refine wpAny_pure ?_
      simp only [if_true]
      refine thnF (kk.run _ s8 σ8 H8 _ I8 q8) fun k9 s9 ⟨yk, H9, I9, r9, k, S0, n0, ek, hD9, few, nx⟩ => ?_
      subst ek
      refine thnF (mt_saddK (X := X.blk s3 H3 scope ce fp) _ s9 σ8 H9 (.ref D) [kV k] (.ref D) [k9] (fun _ H' => H' = upd H9 D (SetK X.prog X.w D (fun j => S0 j || decide (j = k)) (if S0 k = true then n0 else n0 + 1))) I9 rfl (.cons r9 .nil) ⟨D, k, S0, n0, rfl, rfl, hD9, few, rfl⟩) fun _ s11 ⟨_, H11, I11, _, eH11⟩ => ?_
      subst eH11
      obtain ⟨m2, lt, w2⟩ := hNx _ nx
      have pinned : ∀ b ∈ fp, ∀ o, s7.heap.get? b = some o → s11.heap.get? b = some o ∧ (upd H9 D (SetK X.prog X.w D (fun j => S0 j || decide (j = k)) (if S0 k = true then n0 else n0 + 1))) b = none := fun b hb o e => by
        have z := I11.pin (b, o) (List.mem_append_right _ (List.mem_append_right _ (mem_pinsAt hb e)))
        exact ⟨z.1, z.2.1⟩
      refine ⟨m2, lt, i + 1, _, (I11.unpinned (pins := [])).weak (by rw [← hw8, wipe_length]) (fun j v e => ?_), T.keep _ _ _ st7 fun b hb o e => (pinned b hb o e).1, fun b hb => ?_, w2⟩
      · rw [← hw8] at e
        exact (wipe_some e).1
      · obtain ⟨o, e, _⟩ := T.obj _ _ st7 b hb
        exact (pinned b hb o e).2
  have fin := PpSet.codeAny_compStart_set go4 (T.self X.A 0 _ _ _ tn4 go4)
  subst es4 es3 ece ecl
  exact fin
theorem pe_scK {ex tg iter : Expr} {scope : Scope} {own : List (Str × Nat)} {pos : Pos} {wi : TI} {g : TG} {te : TE} (calm : X.calm = true) (nd : X.N.Nodup) (hi : PI X tg iter wi) (ok : BlkOk X.N X.env.scope scope own)
    (pg : ∀ q, PG (BX X scope q) tg g) (pk : ∀ q, PE (BX X scope q) ex te) (plain : ∀ x, foldedSetIterable iter X.env x = pure x := by intro _; rfl) :
    PE X (.SetComp ex [⟨tg, iter, [], 0⟩] scope pos) (tScK X.prog X.w wi g te (own.map (·.2))) := by
  refine ⟨fun pins s σ H Q I h => ?_⟩
  rw [PpSet.eval_SetComp]
  refine run_scK calm nd I hi ok pg pk plain h fun D L s2 m H2 I2 q hn free => ⟨m, hn, fun h2 sb => ?_⟩
  obtain ⟨c0, c1, c2, c3, c4, c5⟩ := free
  exact ⟨.ref D, H2, I2.turned (t' := s2.toks) (fun b o hb e => (sb.2 b hb).trans e) c0 c1 c3 c4 c5, rfl, q⟩
theorem few_big {n : Nat} (h : n < scanBound) : (n : Int) < 2 ^ 63 := by
  have e : scanBound ≤ 2 ^ 62 := by decide
  have := Nat.lt_of_lt_of_le h e
  omega
/-- len of a set of keys -/
theorem call_lenK : CallR X (.builtin "len") (fun xs H Q => ∃ (a : Addr) (S : Key → Bool) (n : Nat), xs = [.ref a] ∧ H a = some (SetK X.prog X.w a S n) ∧ Q (.int (n : Int)) H) := by
  intro pins s σ H xs us Q I r h
  obtain ⟨a, S, n, rfl, ha, q⟩ := h
  cases r with
  | cons r1 r2 =>
    cases r2
    cases r1
    obtain ⟨o, es, ep, t, ho, hex, hd, _, _, hb, hf, hn⟩ := setK_get I ha
    have hbig : es.size < scanBound := hb
    refine call_len_set ho hex hd hf (by rw [hn]; exact few_big (hn ▸ hbig)) ⟨.int (n : Int), H, I.tok _, ⟨_, by rw [hn]⟩, q⟩
end
end SCT
namespace Mt
open PySem PySem.Spec PyProof.Rows L2
def topS (i : Nat) : Stmt := PySem.Challenge.pw_meantrace_k74_watches_walked.main.body.getD i (.Pass ⟨0, 0, 0, 0⟩)
abbrev s_is_watch : Stmt := topS 2
abbrev N_is_watch : List Str := ["watch", "word", "rows", "bad", "many", "row", "place", "at"]
theorem sc_is_watch : FnScope N_is_watch ["watch"] (defScope s_is_watch) := ⟨rfl, rfl, rfl, by decide +kernel, rfl, by decide +kernel, by decide +kernel⟩
abbrev s_is_watching : Stmt := topS 3
abbrev N_is_watching : List Str := ["row", "many", "_", "to", "marks", "mark"]
theorem sc_is_watching : FnScope N_is_watching ["row", "many"] (defScope s_is_watching) := ⟨rfl, rfl, rfl, by decide +kernel, rfl, by decide +kernel, by decide +kernel⟩
abbrev s_place_behind : Stmt := topS 4
abbrev N_place_behind : List Str := ["watch", "place", "shown", "row", "mark", "to"]
theorem sc_place_behind : FnScope N_place_behind ["watch", "place", "shown"] (defScope s_place_behind) := ⟨rfl, rfl, rfl, by decide +kernel, rfl, by decide +kernel, by decide +kernel⟩
abbrev s_never : Stmt := topS 5
abbrev N_never : List Str := ["mark"]
theorem sc_never : FnScope N_never ["mark"] (defScope s_never) := ⟨rfl, rfl, rfl, by decide +kernel, rfl, by decide +kernel, by decide +kernel⟩
abbrev s_within : Stmt := topS 6
abbrev N_within : List Str := ["cause", "effect", "n", "rows", "k"]
theorem sc_within : FnScope N_within ["cause", "effect", "n"] (defScope s_within) := ⟨rfl, rfl, rfl, by decide +kernel, rfl, by decide +kernel, by decide +kernel⟩
abbrev s_order : Stmt := topS 7
abbrev N_order : List Str := ["first", "second"]
theorem sc_order : FnScope N_order ["first", "second"] (defScope s_order) := ⟨rfl, rfl, rfl, by decide +kernel, rfl, by decide +kernel, by decide +kernel⟩
abbrev s__law_begin : Stmt := topS 10
abbrev N__law_begin : List Str := ["script", "cell"]
theorem sc__law_begin : FnScope N__law_begin ["script"] (defScope s__law_begin) := ⟨rfl, rfl, rfl, by decide +kernel, rfl, by decide +kernel, by decide +kernel⟩
abbrev s__law_draw : Stmt := topS 11
abbrev N__law_draw : List Str := ["d", "many", "found", "size", "cell"]
theorem sc__law_draw : FnScope N__law_draw ["d", "many"] (defScope s__law_draw) := ⟨rfl, rfl, rfl, by decide +kernel, rfl, by decide +kernel, by decide +kernel⟩
abbrev s__law_pick : Stmt := topS 12
abbrev N__law_pick : List Str := ["d", "row"]
theorem sc__law_pick : FnScope N__law_pick ["d", "row"] (defScope s__law_pick) := ⟨rfl, rfl, rfl, by decide +kernel, rfl, by decide +kernel, by decide +kernel⟩
abbrev s__law_pop : Stmt := topS 13
abbrev N__law_pop : List Str := ["d", "row"]
theorem sc__law_pop : FnScope N__law_pop ["d", "row"] (defScope s__law_pop) := ⟨rfl, rfl, rfl, by decide +kernel, rfl, by decide +kernel, by decide +kernel⟩
abbrev s__law_rare : Stmt := topS 14
abbrev N__law_rare : List Str := ["d", "many"]
theorem sc__law_rare : FnScope N__law_rare ["d", "many"] (defScope s__law_rare) := ⟨rfl, rfl, rfl, by decide +kernel, rfl, by decide +kernel, by decide +kernel⟩
abbrev s__law_pool : Stmt := topS 15
abbrev N__law_pool : List Str := ["text"]
theorem sc__law_pool : FnScope N__law_pool [] (defScope s__law_pool) := ⟨rfl, rfl, rfl, by decide +kernel, rfl, by decide +kernel, by decide +kernel⟩
abbrev s__law_is_int : Stmt := topS 16
abbrev N__law_is_int : List Str := ["thing"]
theorem sc__law_is_int : FnScope N__law_is_int ["thing"] (defScope s__law_is_int) := ⟨rfl, rfl, rfl, by decide +kernel, rfl, by decide +kernel, by decide +kernel⟩
abbrev s__law_watch_step : Stmt := topS 17
abbrev N__law_watch_step : List Str := ["watch", "state", "shown", "mark", "to"]
theorem sc__law_watch_step : FnScope N__law_watch_step ["watch", "state", "shown"] (defScope s__law_watch_step) := ⟨rfl, rfl, rfl, by decide +kernel, rfl, by decide +kernel, by decide +kernel⟩
abbrev s__law_same : Stmt := topS 18
abbrev N__law_same : List Str := ["told", "due", "k"]
theorem sc__law_same : FnScope N__law_same ["told", "due"] (defScope s__law_same) := ⟨rfl, rfl, rfl, by decide +kernel, rfl, by decide +kernel, by decide +kernel⟩
abbrev s__law_is_bool : Stmt := topS 19
abbrev N__law_is_bool : List Str := ["told", "due"]
theorem sc__law_is_bool : FnScope N__law_is_bool ["told", "due"] (defScope s__law_is_bool) := ⟨rfl, rfl, rfl, by decide +kernel, rfl, by decide +kernel, by decide +kernel⟩
abbrev s__law_marks_of : Stmt := topS 20
abbrev N__law_marks_of : List Str := ["d", "names", "marks", "k"]
theorem sc__law_marks_of : FnScope N__law_marks_of ["d"] (defScope s__law_marks_of) := ⟨rfl, rfl, rfl, by decide +kernel, rfl, by decide +kernel, by decide +kernel⟩
abbrev s__law_wide_shown : Stmt := topS 21
abbrev N__law_wide_shown : List Str := ["d", "marks", "k"]
theorem sc__law_wide_shown : FnScope N__law_wide_shown ["d", "marks"] (defScope s__law_wide_shown) := ⟨rfl, rfl, rfl, by decide +kernel, rfl, by decide +kernel, by decide +kernel⟩
abbrev s__law_drawn_watch : Stmt := topS 22
abbrev N__law_drawn_watch : List Str := ["d", "marks", "many", "rows", "k", "left", "row", "most", "j", "share", "bad"]
theorem sc__law_drawn_watch : FnScope N__law_drawn_watch ["d", "marks", "many"] (defScope s__law_drawn_watch) := ⟨rfl, rfl, rfl, by decide +kernel, rfl, by decide +kernel, by decide +kernel⟩
abbrev s__law_is_watch : Stmt := topS 23
abbrev N__law_is_watch : List Str := ["watch", "many", "row", "marks", "pair", "mark", "k"]
theorem sc__law_is_watch : FnScope N__law_is_watch ["watch"] (defScope s__law_is_watch) := ⟨rfl, rfl, rfl, by decide +kernel, rfl, by decide +kernel, by decide +kernel⟩
abbrev s__law_with : Stmt := topS 24
abbrev N__law_with : List Str := ["row", "k", "thing"]
theorem sc__law_with : FnScope N__law_with ["row", "k", "thing"] (defScope s__law_with) := ⟨rfl, rfl, rfl, by decide +kernel, rfl, by decide +kernel, by decide +kernel⟩
abbrev s__law_bent_watch : Stmt := topS 25
abbrev N__law_bent_watch : List Str := ["d", "watch", "word", "rows", "bad", "many", "way", "s", "row", "k", "number"]
theorem sc__law_bent_watch : FnScope N__law_bent_watch ["d", "watch"] (defScope s__law_bent_watch) := ⟨rfl, rfl, rfl, by decide +kernel, rfl, by decide +kernel, by decide +kernel⟩
abbrev s__law_looked : Stmt := topS 26
abbrev N__law_looked : List Str := ["watcher", "here", "fell"]
theorem sc__law_looked : FnScope N__law_looked ["watcher", "here", "fell"] (defScope s__law_looked) := ⟨rfl, rfl, rfl, by decide +kernel, rfl, by decide +kernel, by decide +kernel⟩
abbrev s__law_by_turns : Stmt := topS 27
abbrev N__law_by_turns : List Str := ["d", "watches", "marks", "watchers", "watch", "places", "fell", "step", "k", "watcher", "shown"]
theorem sc__law_by_turns : FnScope N__law_by_turns ["d", "watches", "marks"] (defScope s__law_by_turns) := ⟨rfl, rfl, rfl, by decide +kernel, rfl, by decide +kernel, by decide +kernel⟩
abbrev s__law_met : Stmt := topS 28
abbrev N__law_met : List Str := ["mark", "rows", "found", "fell", "shown"]
theorem sc__law_met : FnScope N__law_met ["mark", "rows"] (defScope s__law_met) := ⟨rfl, rfl, rfl, by decide +kernel, rfl, by decide +kernel, by decide +kernel⟩
abbrev s__law_late : Stmt := topS 29
abbrev N__law_late : List Str := ["cause", "effect", "n", "rows", "found", "waited", "fell", "shown"]
theorem sc__law_late : FnScope N__law_late ["cause", "effect", "n", "rows"] (defScope s__law_late) := ⟨rfl, rfl, rfl, by decide +kernel, rfl, by decide +kernel, by decide +kernel⟩
abbrev s__law_ahead : Stmt := topS 30
abbrev N__law_ahead : List Str := ["one", "other", "rows", "found", "undecided", "fell", "shown"]
theorem sc__law_ahead : FnScope N__law_ahead ["one", "other", "rows"] (defScope s__law_ahead) := ⟨rfl, rfl, rfl, by decide +kernel, rfl, by decide +kernel, by decide +kernel⟩
abbrev s__law_breaks_where : Stmt := topS 31
abbrev N__law_breaks_where : List Str := ["watch", "rows", "due", "watcher", "k"]
theorem sc__law_breaks_where : FnScope N__law_breaks_where ["watch", "rows", "due"] (defScope s__law_breaks_where) := ⟨rfl, rfl, rfl, by decide +kernel, rfl, by decide +kernel, by decide +kernel⟩
abbrev s__law_made_ones : Stmt := topS 32
abbrev N__law_made_ones : List Str := ["d", "one", "other", "marks", "n", "rows", "k", "due", "told", "steps"]
theorem sc__law_made_ones : FnScope N__law_made_ones ["d", "one", "other", "marks"] (defScope s__law_made_ones) := ⟨rfl, rfl, rfl, by decide +kernel, rfl, by decide +kernel, by decide +kernel⟩
abbrev s_law : Stmt := topS 33
abbrev N_law : List Str := ["script", "d", "marks", "sizes", "watches", "k", "changed", "left", "one", "other"]
theorem sc_law : FnScope N_law ["script"] (defScope s_law) := ⟨rfl, rfl, rfl, by decide +kernel, rfl, by decide +kernel, by decide +kernel⟩
structure Txt (K : PySem.W.Frag) (mg : Str → Option Value) : Prop where
  b_int : mg "int" = none
  b_abs : mg "abs" = none
  b_len : mg "len" = none
  b_isinstance : mg "isinstance" = none
  b_bool : mg "bool" = none
  b_tuple : mg "tuple" = none
  b_list : mg "list" = none
  b_range : mg "range" = none
  b_min : mg "min" = none
  b_all : mg "all" = none
  b_str : mg "str" = none
  g_MOST_PLACES : ∃ t, mg "MOST_PLACES" = some (.int 12 t)
theorem upd_upd {H : Hp} {p : Addr} {a b : HO} : upd (upd H p a) p b = upd H p b := by
  funext x
  unfold upd
  split <;> rfl
theorem take_map_succ {α β : Type} {f : α → β} {l : List α} {i : Nat} {c : α} (h : l[i]? = some c) : (l.take i).map f ++ [f c] = (l.take (i + 1)).map f := by
  rw [List.take_add_one, h, List.map_append]
  rfl
theorem divW_of {n : Int} (h : 0 < n) (h2 : n < 2 ^ 64) : CDivW 0 n := wide_div h (b := 64) (by omega) (by decide) (by decide)
theorem getV {ns : List Int} {i : Nat} {x : V} (h : (ns.map V.int)[i]? = some x) : ∃ z, x = .int z ∧ ns[i]? = some z := by
  rw [List.getElem?_map] at h
  cases e : ns[i]? with
  | none =>
    rw [e] at h
    cases h
  | some z =>
    rw [e] at h
    exact ⟨z, (Option.some.inj h).symm, rfl⟩
def spBegin (K : PySem.W.Frag) : Sp := fun vs H Q _ => ∃ (a : Addr) (ns : List Int), vs = [.ref a] ∧ SqL K H a (ns.map V.int) ∧ ns.length ≤ 63 ∧ ∀ S D H', Same H H' → H D = none → DrawAt S D H' → Q (.ref D) H'
/-- a text or a list, what it holds -/
def Row (K : PySem.W.Frag) (H : Hp) (v : V) (xs : List V) : Prop := (∃ z : Str, v = .str z ∧ xs = z.cps.toList.map fun c => .str ⟨#[c]⟩) ∨ (∃ p, v = .ref p ∧ SqL K H p xs) ∨ ∃ p, v = .ref p ∧ SqT K H p xs
def spPick (K : PySem.W.Frag) : Sp := fun vs H Q _ => ∃ (S D : Addr) (r : V) (xs : List V), vs = [.ref D, r] ∧ DrawAt S D H ∧ (∀ H', Go S D H H' → Row K H' r xs) ∧ 0 < xs.length ∧ xs.length ≤ 100000 ∧ ∀ H' x, x ∈ xs → Go S D H H' → Q x H'

theorem same_new {H : Hp} {p : Addr} {o : HO} (h : H p = none) : Same H (upd H p o) := fun b x e => by
  rw [upd_ne (ne_of_none e h)]
  exact e
/-- a change at a place that H does not know -/
theorem same_mut {H H' : Hp} {p : Addr} {o : HO} (s : Same H H') (h : H p = none) : Same H (upd H' p o) := fun b u e => by
  rw [upd_ne (ne_of_none e h)]
  exact s b u e
theorem iteNT {A B : Prop} (h : B) : if (!true) = true then A else B := iteF h
theorem line5 {n : Nat} (h : n ≤ 100000) : n ≤ sizeLine := Nat.le_trans h (by decide)
theorem line6 {n : Nat} (h : n < 100000) : n < sizeLine := Nat.lt_of_lt_of_le h (by decide)
/-! ### data as it stands in the heap -/
def KeepT (H H' : Hp) : Prop := ∀ p xs, Rd H p (.tup xs) → Rd H' p (.tup xs)
theorem KeepT.of_same {H H' : Hp} (s : Same H H') : KeepT H H' := fun p xs h => by
  rcases h with h | ⟨o, h⟩
  · exact .inl (s _ _ h)
  · exact .inr ⟨o, s _ _ h⟩
theorem KeepT.trans {H H1 H2 : Hp} (a : KeepT H H1) (b : KeepT H1 H2) : KeepT H H2 := fun p xs h => b p xs (a p xs h)
mutual
def noL : PyData → Bool
  | .list _ => false
  | .dict _ => false
  | .tuple ds => noLs ds
  | _ => true
def noLs : List PyData → Bool
  | [] => true
  | d :: ds => noL d && noLs ds
end
theorem sqt_keep {K : PySem.W.Frag} {H H' : Hp} {a : Addr} {xs : List V} (k : KeepT H H') (h : SqT K H a xs) : SqT K H' a xs := by
  rcases h with h | h
  · exact .inl (k _ _ h)
  · exact .inr h
mutual
theorem dp_keep {K : PySem.W.Frag} {H H' : Hp} (k : KeepT H H') : ∀ (d : PyData) (v : V), noL d = true → Dp K H v d → Dp K H' v d
  | .none, _, _, h => by
    cases h
    exact .non
  | .bool b, _, _, h => by
    cases h
    exact .bl b
  | .int i, _, _, h => by
    cases h
    exact .int i
  | .str x, _, _, h => by
    cases h
    exact .str x
  | .list ds, _, n, _ => by
    have n2 : false = true := n
    cases n2
  | .dict ds, _, n, _ => by
    have n2 : false = true := n
    cases n2
  | .tuple ds, _, n, h => by
    cases h with
    | tup h1 h2 => exact .tup (sqt_keep k h1) (dpA_keep k ds _ n h2)
theorem dpA_keep {K : PySem.W.Frag} {H H' : Hp} (k : KeepT H H') : ∀ (ds : List PyData) (xs : List V), noLs ds = true → DpAll K H xs ds → DpAll K H' xs ds
  | [], _, _, h => by
    cases h
    exact .nil
  | d :: ds, _, n, h => by
    cases h with
    | cons h1 h2 =>
      have n2 : (noL d && noLs ds) = true := n
      rw [Bool.and_eq_true] at n2
      exact .cons (dp_keep k d _ n2.1 h1) (dpA_keep k ds _ n2.2 h2)
end
theorem dp_tup {K : PySem.W.Frag} {H : Hp} {v : V} {ds : List PyData} (h : Dp K H v (.tuple ds)) : ∃ a xs, v = .ref a ∧ SqT K H a xs ∧ DpAll K H xs ds := by
  cases h with
  | tup h1 h2 => exact ⟨_, _, rfl, h1, h2⟩
theorem dp_str {K : PySem.W.Frag} {H : Hp} {v : V} {z : Str} (h : Dp K H v (.str z)) : v = .str z := by
  cases h
  rfl
theorem dp_int {K : PySem.W.Frag} {H : Hp} {v : V} {z : Int} (h : Dp K H v (.int z)) : v = .int z := by
  cases h
  rfl
theorem dp_non {K : PySem.W.Frag} {H : Hp} {v : V} (h : Dp K H v .none) : v = .non := by
  cases h
  rfl
theorem dpA_nil {K : PySem.W.Frag} {H : Hp} {xs : List V} (h : DpAll K H xs []) : xs = [] := by
  cases h
  rfl
theorem dpA_cons {K : PySem.W.Frag} {H : Hp} {xs : List V} {d : PyData} {ds : List PyData} (h : DpAll K H xs (d :: ds)) : ∃ x r, xs = x :: r ∧ Dp K H x d ∧ DpAll K H r ds := by
  cases h with
  | cons h1 h2 => exact ⟨_, _, rfl, h1, h2⟩
theorem dpA_len {K : PySem.W.Frag} {H : Hp} : ∀ {ds : List PyData} {xs : List V}, DpAll K H xs ds → xs.length = ds.length
  | [], _, h => by rw [dpA_nil h]; rfl
  | d :: ds, _, h => by
    obtain ⟨x, r, rfl, _, h2⟩ := dpA_cons h
    rw [List.length_cons, List.length_cons, dpA_len h2]
theorem dpA_at {K : PySem.W.Frag} {H : Hp} : ∀ {ds : List PyData} {xs : List V} {i : Nat} {x : V}, DpAll K H xs ds → xs[i]? = some x → ∃ d, ds[i]? = some d ∧ Dp K H x d
  | [], _, i, x, h, e => by
    rw [dpA_nil h] at e
    simp at e
  | d :: ds, _, 0, x, h, e => by
    obtain ⟨y, r, rfl, h1, h2⟩ := dpA_cons h
    have e2 : y = x := Option.some.inj e
    subst e2
    exact ⟨d, rfl, h1⟩
  | d :: ds, _, i + 1, x, h, e => by
    obtain ⟨y, r, rfl, h1, h2⟩ := dpA_cons h
    obtain ⟨d', h3, h4⟩ := dpA_at (i := i) (x := x) h2 (by simpa using e)
    exact ⟨d', by simpa using h3, h4⟩
theorem noLs_map {α : Type} (f : α → PyData) : ∀ l : List α, (∀ x ∈ l, noL (f x) = true) → noLs (l.map f) = true
  | [], _ => rfl
  | x :: r, h => by
    show (noL (f x) && noLs (r.map f)) = true
    rw [h x List.mem_cons_self, noLs_map f r fun y hy => h y (List.mem_cons_of_mem _ hy)]
    rfl
theorem keepT_new {H : Hp} {L : Addr} {o : HO} (h : H L = none) : KeepT H (upd H L o) := KeepT.of_same (same_new h)
theorem ixT {X : Cx} {K : PySem.W.Frag} (h : X.K = K) : IxR X (rIxT K) := h ▸ ix_tup
theorem isiT {X : Cx} {K : PySem.W.Frag} (h : X.K = K) : CallR X (.builtin "isinstance") (rIsi K) := h ▸ call_isi
theorem map_at {α : Type} {f : α → PyData} {l : List α} {i : Nat} {d : PyData} (h : (l.map f)[i]? = some d) : ∃ x, l[i]? = some x ∧ f x = d := by
  rw [List.getElem?_map] at h
  cases e : l[i]? with
  | none =>
    rw [e] at h
    cases h
  | some x =>
    rw [e] at h
    exact ⟨x, rfl, Option.some.inj h⟩
theorem dpA_snoc {K : PySem.W.Frag} {H : Hp} : ∀ {ds : List PyData} {xs : List V} {x : V} {d : PyData}, DpAll K H xs ds → Dp K H x d → DpAll K H (xs ++ [x]) (ds ++ [d])
  | [], _, _, _, h, hx => by
    rw [dpA_nil h]
    exact .cons hx .nil
  | d0 :: ds, _, _, _, h, hx => by
    obtain ⟨y, r, rfl, h1, h2⟩ := dpA_cons h
    exact .cons h1 (dpA_snoc h2 hx)
theorem sqt_ty {K : PySem.W.Frag} {H : Hp} {a : Addr} {xs : List V} (h : SqT K H a xs) : TyX K H (.ref a) (.type "tuple") := by
  rcases h with (h | ⟨o, h⟩) | ⟨o, its, n, hk, hc, _⟩
  · exact .base (.tup h)
  · exact .fTuple h
  · exact .kTuple hk hc
theorem same_l {K : PySem.W.Frag} {H H' : Hp} {a : Addr} {xs : List V} (e : Same H H') (h : SqL K H a xs) : SqL K H' a xs := e.seq h
theorem same_t {K : PySem.W.Frag} {H H' : Hp} {a : Addr} {xs : List V} (e : Same H H') (h : SqT K H a xs) : SqT K H' a xs := by
  rcases h with (h | ⟨o, h⟩) | h
  · exact .inl (.inl (e _ _ h))
  · exact .inl (.inr ⟨o, e _ _ h⟩)
  · exact .inr h
theorem Paired.at {α β : Type} {R : α → β → Prop} : ∀ {xs : List α} {ys : List β} {i : Nat} {x : α}, Paired R xs ys → xs[i]? = some x → ∃ y, ys[i]? = some y ∧ R x y
  | _, _, _, _, .nil, e => by simp at e
  | _, _, 0, _, .cons r _, e => by
    have e : _ = _ := Option.some.inj e
    subst e
    exact ⟨_, rfl, r⟩
  | _, _, i + 1, x, .cons _ t, e => by
    obtain ⟨y, h1, h2⟩ := Paired.at (i := i) (x := x) t (by simpa using e)
    exact ⟨y, by simpa using h1, h2⟩
/-! ### promises -/
def spIsInt : Sp := fun vs H Q _ => ∃ i : Int, vs = [.int i] ∧ Q (.bl true) H
def spIsInts (K : PySem.W.Frag) : Sp := fun vs H Q _ => ∃ (p : Addr) (ns : List Int), vs = [.ref p] ∧ H p = some (.tup (ns.map V.int)) ∧ ns.length ≤ 100 ∧ ∀ H', Same H H' → Q (.bl true) H'
def spLaw (K : PySem.W.Frag) : Sp := fun vs H Q _ => ∃ (a : Addr) (ns : List Int), vs = [.ref a] ∧ SqL K H a (ns.map V.int) ∧ ns.length ≤ 63 ∧ ∀ H', Q (.bl true) H'
theorem all_true {α : Type} (l : List α) : (l.map fun _ => true).all id = true := by
  rw [List.all_map]
  exact List.all_eq_true.mpr fun _ _ => rfl
def NT (o : HO) : Prop := (∀ xs, o ≠ .tup xs) ∧ ∀ ob u, o ≠ .frz ob u
theorem nt_lst (l : List V) : NT (.lst l) := ⟨fun _ e => (nomatch e), fun _ _ e => (nomatch e)⟩
theorem nt_dk (l : List (Key × V)) : NT (.dK l) := ⟨fun _ e => (nomatch e), fun _ _ e => (nomatch e)⟩
theorem DrawAt.upd {S D L : Addr} {H : Hp} {o : HO} (d : DrawAt S D H) (n1 : L ≠ D) (n2 : L ≠ S) : DrawAt S D (upd H L o) := by
  obtain ⟨cs, h1⟩ := d.cells
  obtain ⟨i, r, c, h0, h2⟩ := d.at_
  exact ⟨d.ne, ⟨cs, by rw [upd_ne n2.symm]; exact h1⟩, ⟨i, r, c, h0, by rw [upd_ne n1.symm]; exact h2⟩⟩
/-- the draws, and one thing F that may change -/
structure StF (S D F : Addr) (H : Hp) : Prop where
  dr : DrawAt S D H
  nS : F ≠ S
  fl : ∃ o, H F = some o ∧ NT o
def GoL (S D F : Addr) (H H' : Hp) : Prop := StF S D F H' ∧ ∀ b o, H b = some o → b ≠ D → b ≠ F → H' b = some o
section
variable {S D F L p : Addr} {H H1 H2 H' : Hp} {o : HO} {K : PySem.W.Frag}
theorem StF.of_draw (d : DrawAt S D H) : StF S D D H := ⟨d, d.ne.symm, let ⟨_, _, _, _, h⟩ := d.at_; ⟨_, h, nt_lst _⟩⟩
theorem StF.free (st : StF S D F H) (h : H p = none) : p ≠ D ∧ p ≠ S ∧ p ≠ F := by
  obtain ⟨o, hF, _⟩ := st.fl
  exact ⟨(st.dr.free h).1, (st.dr.free h).2, (ne_of_none hF h).symm⟩
theorem GoL.refl (st : StF S D F H) : GoL S D F H H := ⟨st, fun _ _ h _ _ => h⟩
theorem GoL.trans (a : GoL S D F H H1) (b : GoL S D F H1 H2) : GoL S D F H H2 := ⟨b.1, fun x o h n m => b.2 x o (a.2 x o h n m) n m⟩
theorem GoL.of_go (st : StF S D F H) (g : Go S D H H') : GoL S D F H H' := by
  refine ⟨⟨g.1, st.nS, ?_⟩, fun b o h n _ => g.2 b o h n⟩
  obtain ⟨o, hF, nt⟩ := st.fl
  by_cases e : F = D
  · rw [e]
    obtain ⟨_, _, _, _, h⟩ := g.1.at_
    exact ⟨_, h, nt_lst _⟩
  · exact ⟨o, g.2 F _ hF e, nt⟩
theorem GoL.to_go (g : GoL S D D H H') : Go S D H H' := ⟨g.1.dr, fun b o h n => g.2 b o h n n⟩
theorem GoL.mut (st : StF S D F H) (g : GoL S D F H H') (h : H L = none) : GoL S D F H (upd H' L o) := by
  obtain ⟨n1, n2, n3⟩ := st.free h
  obtain ⟨u, hF, nt⟩ := g.1.fl
  exact ⟨⟨g.1.dr.upd n1 n2, st.nS, ⟨u, by rw [upd_ne n3.symm]; exact hF, nt⟩⟩, fun b v hb m1 m2 => by
    rw [upd_ne (ne_of_none hb h)]
    exact g.2 b v hb m1 m2⟩
theorem GoL.new (st : StF S D F H) (h : H p = none) : GoL S D F H (upd H p o) := GoL.mut st (GoL.refl st) h
theorem GoL.setF (nD : F ≠ D) (nt : NT o) (g : GoL S D F H H') : GoL S D F H (upd H' F o) :=
  ⟨⟨g.1.dr.upd nD g.1.nS, g.1.nS, ⟨o, upd_same, nt⟩⟩, fun b v hb m1 m2 => by
    rw [upd_ne m2]
    exact g.2 b v hb m1 m2⟩
theorem GoL.back (st : StF S D F H) (g : GoL S D F H H') (h : H' p = none) : H p = none := by
  cases q : H p with
  | none => rfl
  | some u =>
    obtain ⟨n1, n2, n3⟩ := g.1.free h
    rw [g.2 p u q n1 n3] at h
    cases h
theorem nt_not {xs : List V} (nt : NT o) (h : H p = some o) (r : Rd H L (.tup xs)) : L ≠ p := fun e => by
  subst e
  rcases r with r | ⟨ob, r⟩
  · rw [h] at r
    exact nt.1 _ (Option.some.inj r)
  · rw [h] at r
    exact nt.2 _ _ (Option.some.inj r)
theorem GoL.keepT (st : StF S D F H) (g : GoL S D F H H') : KeepT H H' := fun p xs r => by
  obtain ⟨_, _, _, _, hD⟩ := st.dr.at_
  obtain ⟨o, hF, nt⟩ := st.fl
  have n1 := nt_not (nt_lst _) hD r
  have n2 := nt_not nt hF r
  rcases r with r | ⟨o, r⟩
  · exact .inl (g.2 _ _ r n1 n2)
  · exact .inr ⟨o, g.2 _ _ r n1 n2⟩
theorem Go.keepT (d : DrawAt S D H) (g : Go S D H H') : KeepT H H' := GoL.keepT (StF.of_draw d) (GoL.of_go (StF.of_draw d) g)
theorem keepT_nt {o2 : HO} (nt : NT o2) (h : H L = some o2) : KeepT H (upd H L o) := fun p xs r => by
  have n := nt_not nt h r
  rcases r with r | ⟨o, r⟩
  · exact .inl (by rw [upd_ne n]; exact r)
  · exact .inr ⟨o, by rw [upd_ne n]; exact r⟩
theorem noLs_of {α : Type} {f : α → PyData} (h : ∀ a, noL (f a) = true) (l : List α) : noLs (l.map f) = true := noLs_map f l fun a _ => h a
end
/-- a list that is being filled -/
structure BL (K : PySem.W.Frag) (S D F L : Addr) (H0 H : Hp) {α : Type} (f : α → PyData) (as : List α) : Prop where
  g : GoL S D F H0 H
  l : ∃ zs, H L = some (.lst zs) ∧ DpAll K H zs (as.map f)
section
variable {S D F L : Addr} {H0 H H1 : Hp} {K : PySem.W.Frag} {α : Type} {f : α → PyData} {as : List α}
theorem BL.nil (st : StF S D F H0) (h : H0 L = none) : BL K S D F L H0 (upd H0 L (.lst [])) f [] := ⟨GoL.new st h, [], upd_same, .nil⟩
theorem BL.go (st : StF S D F H0) (hL : H0 L = none) (hn : ∀ a, noL (f a) = true) (b : BL K S D F L H0 H f as) (g : GoL S D F H H1) : BL K S D F L H0 H1 f as := by
  obtain ⟨zs, h1, h2⟩ := b.l
  obtain ⟨n1, n2, n3⟩ := st.free hL
  exact ⟨b.g.trans g, zs, g.2 _ _ h1 n1 n3, dpA_keep (GoL.keepT b.g.1 g) _ _ (noLs_of hn as) h2⟩
theorem BL.add (st : StF S D F H0) (hL : H0 L = none) (hn : ∀ a, noL (f a) = true) {a : α} {x : V} {zs : List V} (g : GoL S D F H0 H) (h1 : H L = some (.lst zs)) (h2 : DpAll K H zs (as.map f)) (hx : Dp K H x (f a)) :
    BL K S D F L H0 (upd H L (.lst (zs ++ [x]))) f (as ++ [a]) := by
  have k := keepT_nt (o := .lst (zs ++ [x])) (nt_lst _) h1
  refine ⟨GoL.mut st g hL, zs ++ [x], upd_same, ?_⟩
  rw [List.map_append]
  exact dpA_snoc (dpA_keep k _ _ (noLs_of hn as) h2) (dp_keep k _ _ (hn a) hx)
theorem BL.len (b : BL K S D F L H0 H f as) : ∃ zs, H L = some (.lst zs) ∧ DpAll K H zs (as.map f) ∧ zs.length = as.length := by
  obtain ⟨zs, h1, h2⟩ := b.l
  exact ⟨zs, h1, h2, by have := dpA_len h2; rw [List.length_map] at this; exact this⟩
theorem GoL.drop {H' : Hp} (g : GoL S D F H H') (h : H F = none) : Go S D H H' := ⟨g.1.dr, fun b o hb n => g.2 b o hb n (ne_of_none hb h)⟩
end
theorem snoc_str (l : List Str) (z : Str) : l.map V.str ++ [V.str z] = (l ++ [z]).map V.str := by
  rw [List.map_append]
  rfl
theorem int_noL (p : Int) : noL (.int p) = true := rfl
theorem str_noL (p : Str) : noL (.str p) = true := rfl
/-! ### promises of the small draws -/
def spPop : Sp := fun vs H Q _ => ∃ (S D p : Addr) (xs : List V), vs = [.ref D, .ref p] ∧ DrawAt S D H ∧ p ≠ D ∧ H p = some (.lst xs) ∧ 0 < xs.length ∧ xs.length ≤ 1000 ∧ ∀ (H1 : Hp) (j : Nat) (x : V), Go S D H H1 → xs[j]? = some x → Q x (upd H1 p (.lst (xs.eraseIdx j)))
def spRare : Sp := fun vs H Q _ => ∃ (S D : Addr) (m : Int), vs = [.ref D, .int m] ∧ 0 < m ∧ m < 1000 ∧ DrawAt S D H ∧ ∀ H' b, Go S D H H' → Q (.bl b) H'
def spShuf (K : PySem.W.Frag) : Sp := fun vs H Q _ => ∃ (S D p : Addr) (xs : List V), vs = [.ref D, .ref p] ∧ DrawAt S D H ∧ SqL K H p xs ∧ xs.length ≤ 1000 ∧
  ∀ (H' : Hp) (q : Addr) (ys : List V), Go S D H H' → H q = none → H' q = some (.lst ys) → ys.length = xs.length → (∀ y ∈ ys, y ∈ xs) → Q (.ref q) H'
abbrev PA : Str := "a b2 sum left r k0 carry z9z full tail n m8 aa busy cnt p t4 even2 ab1 head u v2 w lowest high mid "
abbrev PB : Str := "s t e f g h i j k x y q7 deep turn gate l5 next1 o c0 d two zz1 near far9 last ring2 "
abbrev PC : Str := "aaaaaaa8 b c1 top2 net3 row col7 v"
def POOL : List Str := Txt.split (PA ++ PB ++ PC) " "
theorem pool_len : POOL.length = 60 := by decide +kernel
def spPool : Sp := fun vs H Q _ => vs = [] ∧ ∀ p, H p = none → Q (.ref p) (upd H p (.lst (POOL.map V.str)))
section
variable {P : Program} {w : World} {K : PySem.W.Frag} {mg : Str → Option Value} {base : Heap}
theorem ok__law_draw (T : Txt K mg) {f : Addr} {fd : FuncData} (F : FnP K "_law_draw" s__law_draw f fd) : FnOk P w K mg base CX0 1 f fd ["d", "many"] spDraw := by
  refine F.ok sc__law_draw (fun vs H Q E h => ?_) (fun cdv A outer s H vs Q E hr h => ?_)
  · obtain ⟨S, D, m, rfl, _⟩ := h
    rfl
  · obtain ⟨S, D, m, rfl, hm, d, q⟩ := h
    obtain ⟨cs, hS⟩ := id d.cells
    obtain ⟨i, r, c, h0, hD⟩ := id d.at_
    have hm0 : 0 < m := hm.1
    refine ⟨_, PSs.nox (pss_cons (ps_if (pt_cmpR op_gt (pe_ix ix_list (pv 0) pe_int (fun _ _ => rfl)) pe_int (nomark _)) (pss_cons (ps_set (i := 2) sc__law_draw.nd rfl (Or.inl rfl) (pe_ix ix_list (pv 0) pe_int (fun _ _ => rfl)))
      (pss_cons (ps_asg (pe_op op_fdivW (pv 2) (pv 1)) (pg_sub (pv 0) pe_int set_list))
      (pss_one (ps_ret (pe_op op_mod (pe_callTy call_int1 (by rfl) T.b_int (by decide +kernel) (pa_cons (pv 2) pa_nil)) (pv 1)))))) pss_nil)
      (pss_cons (ps_set (i := 3) sc__law_draw.nd rfl (Or.inl rfl) pe_int)
      (Evl.pss_cut (ps_if (pt_cmpR op_lt (pe_ix ix_list (pv 0) pe_int (fun _ _ => rfl)) (pe_callB call_len (by rfl) T.b_len (by decide +kernel) (pa_cons (pe_ix ix_list (pv 0) pe_int (fun _ _ => rfl)) pa_nil)) (nomark _)) (pss_cons (ps_set (i := 4) sc__law_draw.nd rfl (Or.inl rfl) (pe_ix ix_list (pe_ix ix_list (pv 0) pe_int (fun _ _ => rfl)) (pe_ix ix_list (pv 0) pe_int (fun _ _ => rfl)) (fun _ _ => rfl)))
      (pss_one (ps_set (i := 3) sc__law_draw.nd rfl (Or.inl rfl) (pe_op op_add (pe_op op_mul pe_int (pe_callB call_abs (by rfl) T.b_abs (by decide +kernel) (pa_cons (pv 4) pa_nil))) (pe_callTy call_int1 (by rfl) T.b_int (by decide +kernel) (pa_cons (pe_cmpR op_lt (pv 4) pe_int (nomark _)) pa_nil)))))) pss_nil)
      (pss_cons (ps_augS (pv 0) pe_int get_list pe_int ip_add set_list)
      (pss_cons (ps_if (pt_cmpR op_ge (pv 3) (pe_op op_mul pe_int (pe_op op_pow pe_int pe_int)) (nomark _)) (pss_cons (ps_set (i := 2) sc__law_draw.nd rfl (Or.inl rfl) (pe_op op_mod (pe_callTy call_int1 (by rfl) T.b_int (by decide +kernel) (pa_cons (pe_op op_fdivW (pv 3) pe_int) pa_nil)) (pe_op op_shl pe_int pe_int)))
      (pss_cons (ps_asg (pe_op op_fdivW (pv 2) (pv 1)) (pg_sub (pv 0) pe_int set_list))
      (pss_one (ps_ret (pe_op op_mod (pe_callTy call_int1 (by rfl) T.b_int (by decide +kernel) (pa_cons (pv 2) pa_nil)) (pv 1)))))) pss_nil)
      (pss_cons (ps_asg (pe_op op_mod (pe_callTy call_int1 (by rfl) T.b_int (by decide +kernel) (pa_cons (pe_op op_add (pe_op op_add (pe_op op_add (pe_op op_mul (pe_ix ix_list (pv 0) pe_int (fun _ _ => rfl)) pe_int) (pe_op op_mul (pe_op op_mod (pe_callTy call_int1 (by rfl) T.b_int (by decide +kernel) (pa_cons (pv 3) pa_nil)) pe_int) pe_int)) (pe_op op_mul (pe_ix ix_list (pv 0) pe_int (fun _ _ => rfl)) pe_int)) pe_int) pa_nil)) pe_int) (pg_sub (pv 0) pe_int set_list))
      (pss_one (ps_ret (pe_op op_mod (pe_callTy call_int1 (by rfl) T.b_int (by decide +kernel) (pa_cons (pe_op op_fdivW (pe_ix ix_list (pv 0) pe_int (fun _ _ => rfl)) pe_int) pa_nil)) (pv 1)))))))))), ?_⟩
    refine ⟨_, rfl, D, _, _, _, rfl, rfl, SqL.of hD, atI_nat (j := 2) rfl, _, _, rfl, rfl, _, rfl, ?_⟩
    refine ite2 (fun e => ?_) (fun e => ?_)
    · refine ⟨_, rfl, D, _, _, _, rfl, rfl, SqL.of hD, atI_nat (j := 2) rfl, ?_⟩
      refine ⟨_, rfl, _, rfl, _, _, rfl, rfl, hm, _, rfl, D, _, _, 2, rfl, rfl, hD, rfl, ?_⟩
      refine ⟨_, rfl, .inl ⟨_, rfl, _, rfl, _, _, rfl, rfl, hm0, ?_⟩⟩
      refine q _ _ (Int.emod_nonneg _ (by omega)) (Int.emod_lt_of_pos _ hm0) ⟨d.set h0, Keep.refl.set⟩
    · refine ⟨fun σ' H' => ∃ (z : Int) (x : Option V), σ' = [some (.ref D), some (.int m), none, some (.int z), x] ∧ H' = H, ?_, ?_⟩
      · refine ⟨_, rfl, D, _, _, _, rfl, rfl, SqL.of hD, atI_nat (j := 1) rfl, ?_⟩
        refine ⟨_, rfl, D, _, _, _, rfl, rfl, SqL.of hD, atI_nat (j := 0) rfl, _, _, rfl, .inl ⟨_, SqL.of hS, rfl⟩, _, _, rfl, rfl, _, rfl, ?_⟩
        refine ite2 (fun e1 => ?_) (fun e1 => ?_)
        · have e2 : i < ((cs.map V.int).length : Int) := of_decide_eq_true e1
          have e3 : i.toNat < (cs.map V.int).length := by omega
          have e4 : i.toNat < cs.length := by rw [List.length_map] at e3; exact e3
          have e5 : (cs.map V.int)[i.toNat]? = some (.int cs[i.toNat]) := by
            rw [List.getElem?_map, List.getElem?_eq_getElem e4]
            rfl
          have e6 : atI (cs.map V.int) i = some (.int cs[i.toNat]) := by
            have := atI_nat (xs := cs.map V.int) e5
            rw [show ((i.toNat : Nat) : Int) = i by omega] at this
            exact this
          refine ⟨_, rfl, D, _, _, _, rfl, rfl, SqL.of hD, atI_nat (j := 0) rfl, ?_⟩
          refine ⟨_, rfl, D, _, _, _, rfl, rfl, SqL.of hD, atI_nat (j := 1) rfl, ?_⟩
          refine ⟨S, _, _, _, rfl, rfl, SqL.of hS, e6, ?_⟩
          refine ⟨_, rfl, _, rfl, _, _, rfl, rfl, .inl ⟨by decide, by decide⟩, ?_⟩
          refine ⟨_, rfl, _, _, rfl, rfl, .inr ⟨_, rfl, _, _, rfl, rfl, ?_⟩⟩
          exact ⟨_, _, rfl, rfl⟩
        · exact ⟨_, _, rfl, rfl⟩
      · rintro σ' H' ⟨z, x, rfl, rfl⟩
        refine ⟨_, rfl, D, _, _, _, rfl, rfl, SqL.of hD, atI_nat (j := 1) rfl, ?_⟩
        refine ⟨_, _, rfl, rfl, D, _, _, 1, rfl, rfl, hD, rfl, ?_⟩
        have hD1 : (upd H' D (.lst [.ref S, .int (i + 1), .int r, .int c])) D = some (.lst [.ref S, .int (i + 1), .int r, .int c]) := upd_same
        have d1 : DrawAt S D (upd H' D (.lst [.ref S, .int (i + 1), .int r, .int c])) := d.set (by omega)
        refine ⟨_, rfl, _, _, rfl, rfl, ⟨by decide, by decide, by decide⟩, _, _, rfl, rfl, .inl ⟨by decide, by decide⟩, _, _, rfl, rfl, _, rfl, ?_⟩
        refine ite2 (fun e1 => ?_) (fun e1 => ?_)
        · refine ⟨_, rfl, _, _, rfl, rfl, ⟨by decide, by decide⟩, .inl ⟨_, rfl, _, _, rfl, rfl, ⟨by decide, by decide, by decide⟩, ?_⟩⟩
          refine ⟨_, _, rfl, rfl, ?_, ?_⟩
          · show (0 : Int) < 1 * 2 ^ (6000 : Int).toNat
            exact Int.mul_pos (by decide) (Int.pow_pos (by decide))
          · refine ⟨_, rfl, _, rfl, _, _, rfl, rfl, hm, _, rfl, D, _, _, 2, rfl, rfl, hD1, rfl, ?_⟩
            refine ⟨_, rfl, .inl ⟨_, rfl, _, rfl, _, _, rfl, rfl, hm0, ?_⟩⟩
            exact q _ _ (Int.emod_nonneg _ (by omega)) (Int.emod_lt_of_pos _ hm0) ⟨d1.set (by omega), Keep.refl.set.set⟩
        · refine ⟨_, rfl, D, _, _, _, rfl, rfl, SqL.of hD1, atI_nat (j := 3) rfl, _, _, rfl, rfl, .inr ⟨by decide, by decide⟩, ?_⟩
          refine ⟨_, rfl, .inl ⟨_, rfl, _, _, rfl, rfl, (by show (0 : Int) < 2147483629; decide), _, _, rfl, rfl, .inr ⟨by decide, by decide⟩, _, _, rfl, rfl, ?_⟩⟩
          refine ⟨_, rfl, D, _, _, _, rfl, rfl, SqL.of hD1, atI_nat (j := 1) rfl, _, _, rfl, rfl, .inr ⟨by decide, by decide⟩, _, _, rfl, rfl, _, _, rfl, rfl, .inl ⟨_, rfl, ?_⟩⟩
          refine ⟨_, _, rfl, rfl, (by show (0 : Int) < 2147483647; decide), _, rfl, D, _, _, 3, rfl, rfl, hD1, rfl, ?_⟩
          refine ⟨_, rfl, D, _, _, _, rfl, rfl, SqL.of upd_same, atI_nat (j := 3) rfl, _, _, rfl, rfl, ⟨by decide, by decide⟩, ?_⟩
          refine .inl ⟨_, rfl, _, rfl, _, _, rfl, rfl, hm0, ?_⟩
          exact q _ _ (Int.emod_nonneg _ (by omega)) (Int.emod_lt_of_pos _ hm0) ⟨d1.set (by omega), Keep.refl.set.set⟩
theorem ok__law_begin (T : Txt K mg) {f : Addr} {fd : FuncData} (F : FnP K "_law_begin" s__law_begin f fd) : FnOk P w K mg base CX0 1 f fd ["script"] (spBegin K) := by
  refine F.ok sc__law_begin (fun vs H Q E h => ?_) (fun cdv A outer s H vs Q E hr h => ?_)
  · obtain ⟨a, ns, rfl, _⟩ := h
    rfl
  · obtain ⟨a, ns, rfl, hS, hlen, q⟩ := h
    refine ⟨_, PSs.nox (pss_one (ps_ret (pe_lst (pa_cons (pe_lc (own := [("cell", 1)]) (g := (gName 1)) (tt := tYes) rfl sc__law_begin.nd (pi_list (pv 0)) (blkOk_by (N := N__law_begin) (sc := defScope s__law_begin) (by decide +kernel)) (fun _ _ _ _ _ => (pg_name (i := 1) sc__law_begin.nd rfl (Or.inl rfl))) (fun _ _ _ _ _ => pts_nil) (fun _ _ _ _ _ => (pe_callTy call_int1 (by rfl) T.b_int (by decide +kernel) (pa_cons (pv 1) pa_nil)))) (pa_cons pe_int (pa_cons pe_int (pa_cons pe_int pa_nil))))))), ?_⟩
    refine ⟨_, rfl, a, rfl, ⟨_, hS⟩, fun L hL => lc_list (xs := ns.map V.int) (fun i H' => H' = upd H L (.lst ((ns.take i).map V.int))) rfl (fun i H' _ e => ?_) ?_ ?_⟩
    · subst e
      exact (show Same H _ from fun b o h => by rw [upd_ne (ne_of_none h hL)]; exact h).seq hS
    · rintro i x H1 hi rfl
      obtain ⟨z, rfl, hz⟩ := getV hi
      refine ⟨rfl, _, rfl, .inl ⟨_, rfl, _, upd_same, ?_, ?_⟩⟩
      · rw [List.length_map, List.length_take]
        exact Nat.lt_of_le_of_lt (Nat.min_le_right _ _) (small1000 (by omega))
      · rw [upd_upd, take_map_succ (f := V.int) hz]
    · rintro H' rfl
      refine ⟨by show 4 ≤ sizeLine; decide, fun D hD => ?_⟩
      have nLD : D ≠ L := fun e => by
        rw [e, upd_same] at hD
        cases hD
      have hD0 : H D = none := by
        rw [upd_ne nLD] at hD
        exact hD
      refine q L D _ (fun b o h => ?_) hD0 ⟨fun e => nLD e.symm, ⟨ns, ?_⟩, ⟨0, 0, 7, by decide, upd_same⟩⟩
      · rw [upd_ne (ne_of_none h hD0), upd_ne (ne_of_none h hL)]
        exact h
      · rw [upd_ne (fun e => nLD e.symm), upd_same]
        rw [List.take_of_length_le (by rw [List.length_map]; exact Nat.le_refl _)]
theorem ok__law_pick (T : Txt K mg) (D__law_draw : Kept P w K mg base 1 "_law_draw" ["d", "many"] spDraw) {f : Addr} {fd : FuncData} (F : FnP K "_law_pick" s__law_pick f fd) : FnOk P w K mg base CX0 2 f fd ["d", "row"] (spPick K) := by
  refine F.ok sc__law_pick (fun vs H Q E h => ?_) (fun cdv A outer s H vs Q E hr h => ?_)
  · obtain ⟨S, D, r, xs, rfl, _⟩ := h
    rfl
  · obtain ⟨S, D, r, xs, rfl, d, hR, h0, h1, q⟩ := h
    refine ⟨_, PSs.nox (pss_one (ps_ret (pe_ix ix_seq (pv 1) (pe_d D__law_draw (hr.mono (by decide)) (by rfl) (pa_cons (pv 0) (pa_cons (pe_callB call_len (by rfl) T.b_len (by decide +kernel) (pa_cons (pv 1) pa_nil)) pa_nil))) (fun _ _ => rfl)))), ?_⟩
    refine ⟨r, rfl, _, rfl, _, rfl, r, xs.length, rfl, ?_, ?_⟩
    · rcases hR H (Go.refl d) with ⟨z, rfl, rfl⟩ | ⟨p, rfl, hp⟩ | ⟨p, rfl, hp⟩
      · refine ⟨?_, by simp [Str.length]⟩
        rw [List.length_map] at h1
        have : z.length = z.cps.toList.length := by simp [Str.length]
        rw [this]
        exact Nat.le_trans h1 (by decide)
      · exact .inl ⟨_, hp, rfl⟩
      · exact .inr ⟨_, hp, rfl⟩
    · refine ⟨S, D, _, rfl, divW_of (by omega) (by omega), d, fun H' v hv0 hv1 g => ?_⟩
      have hv : v.toNat < xs.length := by omega
      have e : ((v.toNat : Nat) : Int) = v := by omega
      have ex : xs[v.toNat]? = some xs[v.toNat] := List.getElem?_eq_getElem hv
      have ea : atI xs v = some xs[v.toNat] := by
        have := atI_nat (xs := xs) ex
        rw [e] at this
        exact this
      rcases hR H' g with ⟨z, rfl, rfl⟩ | ⟨p, rfl, hp⟩ | ⟨p, rfl, hp⟩
      · refine .inr (.inr ⟨z, v, z.cps.toList[v.toNat]'(by rw [List.length_map] at hv; exact hv), rfl, rfl, ?_, ?_, ?_⟩)
        · rw [List.length_map] at h1
          have : z.length = z.cps.toList.length := by simp [Str.length]
          rw [this]
          exact Nat.le_trans h1 (by decide)
        · have := atI_nat (xs := z.cps.toList) (List.getElem?_eq_getElem (show v.toNat < z.cps.toList.length by rw [List.length_map] at hv; exact hv))
          rw [e] at this
          exact this
        · refine q H' _ ?_ g
          exact List.mem_map_of_mem (List.getElem_mem _)
      · exact .inl ⟨p, xs, v, _, rfl, rfl, hp, ea, q H' _ (List.getElem_mem _) g⟩
      · exact .inr (.inl ⟨p, xs, v, _, rfl, rfl, hp, ea, q H' _ (List.getElem_mem _) g⟩)
theorem ok__law_pop (T : Txt K mg) (D__law_draw : Kept P w K mg base 1 "_law_draw" ["d", "many"] spDraw) {f : Addr} {fd : FuncData} (F : FnP K "_law_pop" s__law_pop f fd) : FnOk P w K mg base CX0 2 f fd ["d", "row"] spPop := by
  refine F.ok sc__law_pop (fun vs H Q E h => ?_) (fun cdv A outer s H vs Q E hr h => ?_)
  · obtain ⟨S, D, p, xs, rfl, _⟩ := h
    rfl
  · obtain ⟨S, D, p, xs, rfl, d, nD, hp, h0, h1, q⟩ := h
    refine ⟨_, PSs.nox (pss_one (ps_ret (pe_bm PySem.F.plainAttrs_list PySem.F.slot_list_pop PySem.F.type_list_pop mt_popAt (pv 1) (pa_cons (pe_d D__law_draw (hr.mono (by decide)) (by rfl) (pa_cons (pv 0) (pa_cons (pe_callB call_len (by rfl) T.b_len (by decide +kernel) (pa_cons (pv 1) pa_nil)) pa_nil))) pa_nil)))), ?_⟩
    refine ⟨_, rfl, .inl ⟨rfl, _, SqL.of hp⟩, _, rfl, _, rfl, _, _, rfl, .inl ⟨_, SqL.of hp, rfl⟩, S, D, _, rfl, divW_of (by omega) (by omega), d, fun H1 v v0 v1 g => ?_⟩
    have hv : v.toNat < xs.length := by omega
    have ex : xs[v.toNat]? = some xs[v.toNat] := List.getElem?_eq_getElem hv
    refine ⟨p, xs, v, v.toNat, _, rfl, rfl, g.2 _ _ hp nD, by omega, by omega, ?_, ex, q H1 _ _ g ex⟩
    exact seqIndex_of v0 (by omega)
theorem ok__law_rare (T : Txt K mg) (D__law_draw : Kept P w K mg base 1 "_law_draw" ["d", "many"] spDraw) {f : Addr} {fd : FuncData} (F : FnP K "_law_rare" s__law_rare f fd) : FnOk P w K mg base CX0 2 f fd ["d", "many"] spRare := by
  refine F.ok sc__law_rare (fun vs H Q E h => ?_) (fun cdv A outer s H vs Q E hr h => ?_)
  · obtain ⟨S, D, m, rfl, _⟩ := h
    rfl
  · obtain ⟨S, D, m, rfl, m0, m1, d, q⟩ := h
    refine ⟨_, PSs.nox (pss_one (ps_ret (pe_cmpR op_eq (pe_d D__law_draw (hr.mono (by decide)) (by rfl) (pa_cons (pv 0) (pa_cons (pv 1) pa_nil))) (pe_op op_fdivW (pv 1) pe_int) (nomark _)))), ?_⟩
    exact ⟨_, rfl, _, rfl, S, D, m, rfl, divW_of m0 (by omega), d, fun H1 v _ _ g => ⟨_, rfl, _, _, rfl, rfl, ⟨by decide, by decide⟩, rfl, q H1 _ g⟩⟩
theorem ok__law_pool (T : Txt K mg) {f : Addr} {fd : FuncData} (F : FnP K "_law_pool" s__law_pool f fd) : FnOk P w K mg base CX0 1 f fd [] spPool := by
  refine F.ok sc__law_pool (fun vs H Q E h => ?_) (fun cdv A outer s H vs Q E hr h => ?_)
  · obtain ⟨rfl, _⟩ := h
    rfl
  · obtain ⟨rfl, q⟩ := h
    refine ⟨_, PSs.nox (pss_cons (ps_set (i := 0) sc__law_pool.nd rfl (Or.inl rfl) pe_str)
      (pss_cons (ps_set (i := 0) sc__law_pool.nd rfl (Or.inl rfl) (pe_op op_add_str (pv 0) pe_str))
      (pss_one (ps_ret (pe_split (pe_op op_add_str (pv 0) pe_str) pe_str))))), ?_⟩
    exact ⟨_, rfl, _, _, rfl, rfl, by decide +kernel, _, rfl, _, _, rfl, rfl, by decide +kernel, ⟨_, rfl⟩, _, _, rfl, rfl, by decide +kernel, by decide +kernel, fun p hp => q p hp⟩
theorem ok__law_is_int (T : Txt K mg) {f : Addr} {fd : FuncData} (F : FnP K "_law_is_int" s__law_is_int f fd) : FnOk P w K mg base CX0 1 f fd ["thing"] spIsInt := by
  refine F.ok sc__law_is_int (fun vs H Q E h => ?_) (fun cdv A outer s H vs Q E hr h => ?_)
  · obtain ⟨p, rfl, _⟩ := h
    rfl
  · obtain ⟨i, rfl, q⟩ := h
    refine ⟨_, PSs.nox (pss_one (ps_ret (pe_and (pe_callB call_isi (by rfl) T.b_isinstance (by decide +kernel) (pa_cons (pv 0) (pa_cons (pe_bltn (v := .ty "int") (u := .type "int") (by rfl) T.b_int (by decide +kernel) rfl) pa_nil))) (pe_one (pe_not (pe_callB call_isi (by rfl) T.b_isinstance (by decide +kernel) (pa_cons (pv 0) (pa_cons (pe_bltn (v := .ty "bool") (u := .type "bool") (by rfl) T.b_bool (by decide +kernel) rfl) pa_nil)))))))), ?_⟩
    refine ⟨_, rfl, _, .ty "int", .type "int", .type "int", true, rfl, .ty _, .base (.int _), kit_ty (by decide +kernel), true, rfl, ?_⟩
    exact ⟨_, rfl, _, .ty "bool", .type "int", .type "bool", false, rfl, .ty _, .base (.int _), kit_ty (by decide +kernel), false, rfl, q⟩
end
end Mt

namespace Mt
open PySem PySem.Spec PyProof.Rows L2
theorem ixL {X : Cx} {K : PySem.W.Frag} (h : X.K = K) : IxR X (rIxL K) := h ▸ ix_list
theorem tupOfT {X : Cx} {K : PySem.W.Frag} (h : X.K = K) : CallR X (.type "tuple") (fun xs H Q => ∃ p ys, xs = [.ref p] ∧ ((SqL K H p ys ∧ ∀ l, H l = none → Q (.ref l) (upd H l (.tup ys))) ∨ (SqT K H p ys ∧ Q (.ref p) H))) := h ▸ call_tuple_of
theorem goU {S D L : Addr} {H0 H : Hp} {o : HO} (L0 : H0 L = none) (d0 : DrawAt S D H0) (g : Go S D H0 H) : Go S D H0 (upd H L o) := by
  obtain ⟨LD, LS⟩ := d0.free L0
  obtain ⟨cs, hc⟩ := g.1.cells
  obtain ⟨j, r, c, j0, hD⟩ := g.1.at_
  refine ⟨⟨g.1.ne, ⟨cs, ?_⟩, ⟨j, r, c, j0, ?_⟩⟩, fun b o h n => ?_⟩
  · rw [upd_ne LS.symm]
    exact hc
  · rw [upd_ne LD.symm]
    exact hD
  · rw [upd_ne (ne_of_none h L0)]
    exact g.2 b o h n
theorem catA_mono {K : PySem.W.Frag} {x y : V} {H : Hp} {Q Q' : VK} (h : rCatA K x y H Q) (m : ∀ x H, Q x H → Q' x H) : rCatA K x y H Q' := by
  obtain ⟨a, b, xs, ys, e1, e2, h1, h2, h3, q0, q1, q2⟩ := h
  exact ⟨a, b, xs, ys, e1, e2, h1, h2, h3, fun e => m _ _ (q0 e), fun e1 e2 => m _ _ (q1 e1 e2), fun e1 e2 p hp => m _ _ (q2 e1 e2 p hp)⟩
def dI (l : List Int) : PyData := .tuple (l.map .int)
def dSh (ss : List Str) : PyData := .tuple (ss.map .str)
theorem dI_noL (l : List Int) : noL (dI l) = true := noLs_map _ _ fun _ _ => rfl
theorem dSh_noL (l : List Str) : noL (dSh l) = true := noLs_map _ _ fun _ _ => rfl
section
variable {K : PySem.W.Frag} {H H' : Hp} {v : V}
theorem dp_strs : ∀ {ss : List Str} {xs : List V}, DpAll K H xs (ss.map .str) → xs = ss.map V.str
  | [], _, h => dpA_nil h
  | s :: r, _, h => by
    obtain ⟨x, t, rfl, h1, h2⟩ := dpA_cons h
    rw [dp_str h1, dp_strs h2]
    rfl
theorem strs_dp : ∀ ss : List Str, DpAll K H (ss.map V.str) (ss.map .str)
  | [] => .nil
  | s :: r => .cons (.str s) (strs_dp r)
theorem dp_ints : ∀ {ss : List Int} {xs : List V}, DpAll K H xs (ss.map .int) → xs = ss.map V.int
  | [], _, h => dpA_nil h
  | s :: r, _, h => by
    obtain ⟨x, t, rfl, h1, h2⟩ := dpA_cons h
    rw [dp_int h1, dp_ints h2]
    rfl
theorem ints_dp : ∀ ss : List Int, DpAll K H (ss.map V.int) (ss.map .int)
  | [] => .nil
  | s :: r => .cons (.int s) (ints_dp r)
theorem sh_of {p : Addr} {ss : List Str} (h : SqT K H p (ss.map V.str)) : Dp K H (.ref p) (dSh ss) := .tup h (strs_dp ss)
theorem sh_at {ss : List Str} (h : Dp K H v (dSh ss)) : ∃ p, v = .ref p ∧ SqT K H p (ss.map V.str) := by
  obtain ⟨p, xs, rfl, h1, h2⟩ := dp_tup h
  rw [dp_strs h2] at h1
  exact ⟨p, rfl, h1⟩
theorem i_of {p : Addr} {ss : List Int} (h : SqT K H p (ss.map V.int)) : Dp K H (.ref p) (dI ss) := .tup h (ints_dp ss)
theorem i_at {ss : List Int} (h : Dp K H v (dI ss)) : ∃ p, v = .ref p ∧ SqT K H p (ss.map V.int) := by
  obtain ⟨p, xs, rfl, h1, h2⟩ := dp_tup h
  rw [dp_ints h2] at h1
  exact ⟨p, rfl, h1⟩
theorem dpA_get {α : Type} {f : α → PyData} {l : List α} {xs : List V} {i : Nat} {a : α} (h : DpAll K H xs (l.map f)) (e : l[i]? = some a) : ∃ x, xs[i]? = some x ∧ Dp K H x (f a) := by
  have hl := dpA_len h
  rw [List.length_map] at hl
  have hi : i < l.length := (List.getElem?_eq_some_iff.mp e).1
  obtain ⟨x, hx⟩ : ∃ x, xs[i]? = some x := ⟨xs[i]'(by omega), List.getElem?_eq_getElem _⟩
  obtain ⟨d, h1, h2⟩ := dpA_at h hx
  rw [List.getElem?_map, e] at h1
  obtain rfl : f a = d := Option.some.inj h1
  exact ⟨x, hx, h2⟩
theorem dpA_mem {α : Type} {f : α → PyData} {l : List α} {xs : List V} {i : Nat} {x : V} (h : DpAll K H xs (l.map f)) (e : xs[i]? = some x) : ∃ a, l[i]? = some a ∧ Dp K H x (f a) := by
  obtain ⟨d, h1, h2⟩ := dpA_at h e
  obtain ⟨a, h3, rfl⟩ := map_at h1
  exact ⟨a, h3, h2⟩
theorem dpA_app : ∀ {ds es : List PyData} {xs ys : List V}, DpAll K H xs ds → DpAll K H ys es → DpAll K H (xs ++ ys) (ds ++ es)
  | [], _, _, _, h, h' => by
    rw [dpA_nil h]
    exact h'
  | d :: ds, _, _, _, h, h' => by
    obtain ⟨x, r, rfl, h1, h2⟩ := dpA_cons h
    exact .cons h1 (dpA_app h2 h')
theorem dpA_erase : ∀ {ds : List PyData} {xs : List V} (i : Nat), DpAll K H xs ds → DpAll K H (xs.eraseIdx i) (ds.eraseIdx i)
  | [], _, _, h => by
    rw [dpA_nil h]
    exact .nil
  | d :: ds, _, 0, h => by
    obtain ⟨x, r, rfl, h1, h2⟩ := dpA_cons h
    exact h2
  | d :: ds, _, i + 1, h => by
    obtain ⟨x, r, rfl, h1, h2⟩ := dpA_cons h
    exact .cons h1 (dpA_erase i h2)
end
theorem getElem?_lt {α : Type} {l : List α} {i : Nat} (h : i < l.length) : l[i]? = some (l[i]'h) := List.getElem?_eq_getElem h
mutual
theorem dp_same {K : PySem.W.Frag} {H H' : Hp} (s : Same H H') : ∀ (d : PyData) (v : V), Dp K H v d → Dp K H' v d
  | .none, _, h => by
    cases h
    exact .non
  | .bool b, _, h => by
    cases h
    exact .bl b
  | .int i, _, h => by
    cases h
    exact .int i
  | .str x, _, h => by
    cases h
    exact .str x
  | .list ds, _, h => by
    cases h with
    | lst h1 h2 => exact .lst (same_l s h1) (dpA_same s ds _ h2)
  | .dict ds, n, h => by
    cases h
  | .tuple ds, _, h => by
    cases h with
    | tup h1 h2 => exact .tup (same_t s h1) (dpA_same s ds _ h2)
theorem dpA_same {K : PySem.W.Frag} {H H' : Hp} (s : Same H H') : ∀ (ds : List PyData) (xs : List V), DpAll K H xs ds → DpAll K H' xs ds
  | [], _, h => by
    cases h
    exact .nil
  | d :: ds, _, h => by
    cases h with
    | cons h1 h2 => exact .cons (dp_same s d _ h1) (dpA_same s ds _ h2)
end
theorem piTK {X : Cx} {K : PySem.W.Frag} {e tg : Expr} {te : TE} (h : X.K = K) (he : PE X e te) : PI X tg e (iTup K te) := h ▸ pi_tup he
theorem same_upd {H H' : Hp} {L : Addr} {o : HO} (s : Same H H') : Same (upd H L o) (upd H' L o) := fun b u e => by
  by_cases k : b = L
  · subst k
    rw [upd_same] at e ⊢
    exact e
  · rw [upd_ne k] at e ⊢
    exact s b u e
theorem upd_self {H : Hp} {p : Addr} {o : HO} (h : H p = some o) : upd H p o = H := by
  funext x
  by_cases k : x = p
  · subst k
    rw [upd_same, h]
  · rw [upd_ne k]
theorem piLK {X : Cx} {K : PySem.W.Frag} {e tg : Expr} {te : TE} (h : X.K = K) (he : PE X e te) : PI X tg e (iList K te) := h ▸ pi_list he
theorem take_snoc {α : Type} {l : List α} {i : Nat} {x : α} (h : l[i]? = some x) : l.take (i + 1) = l.take i ++ [x] := by
  rw [List.take_add_one, h]
  rfl
theorem ninK {X : Cx} {K : PySem.W.Frag} (h : X.K = K) : OpR X (compareOp .NotIn) (rIn K true) := h ▸ op_notIn_seq
theorem inK {X : Cx} {K : PySem.W.Frag} (h : X.K = K) : OpR X (compareOp .In) (rIn K false) := h ▸ op_in_seq
theorem new_tup {K : PySem.W.Frag} {H : Hp} {p : Addr} {xs : List V} {ds : List PyData} (hp : H p = none) (h : DpAll K H xs ds) : Same H (upd H p (.tup xs)) ∧ Dp K (upd H p (.tup xs)) (.ref p) (.tuple ds) := by
  have s := same_new (o := .tup xs) hp
  exact ⟨s, .tup (SqT.of upd_same) (dpA_same s _ _ h)⟩
theorem z1 : (1 : Nat) ≤ sizeLine := by decide
theorem z2 : (2 : Nat) ≤ sizeLine := by decide
theorem z3 : (3 : Nat) ≤ sizeLine := by decide
theorem cat_D {K : PySem.W.Frag} {H : Hp} {a b : Addr} {xs ys : List V} {ds es : List PyData} (ha : SqT K H a xs) (hb : SqT K H b ys) (h1 : DpAll K H xs ds) (h2 : DpAll K H ys es) (hl : ds.length + es.length ≤ 1000) : rCatA K (.ref a) (.ref b) H (fun v H' => Same H H' ∧ Dp K H' v (.tuple (ds ++ es))) := by
  have l1 := dpA_len h1
  have l2 := dpA_len h2
  refine ⟨a, b, xs, ys, rfl, rfl, ha, hb, line5 (by omega), fun e => ?_, fun _ e => ?_, fun _ _ p hp => ?_⟩
  · subst e
    have : ds = [] := List.length_eq_zero_iff.mp l1.symm
    subst this
    exact ⟨Same.refl _, .tup hb h2⟩
  · subst e
    have : es = [] := List.length_eq_zero_iff.mp l2.symm
    subst this
    rw [List.append_nil]
    exact ⟨Same.refl _, .tup ha h1⟩
  · have s := same_new (o := .tup (xs ++ ys)) hp
    exact ⟨s, .tup (SqT.of upd_same) (dpA_app (dpA_same s _ _ h1) (dpA_same s _ _ h2))⟩
theorem cat_W {K : PySem.W.Frag} {H : Hp} {x y : V} {ds es : List PyData} (hx : Dp K H x (.tuple ds)) (hy : Dp K H y (.tuple es)) (hl : ds.length + es.length ≤ 1000) : rCatA K x y H (fun v H' => Same H H' ∧ Dp K H' v (.tuple (ds ++ es))) := by
  obtain ⟨a, xs, rfl, ha, h1⟩ := dp_tup hx
  obtain ⟨b, ys, rfl, hb, h2⟩ := dp_tup hy
  exact cat_D ha hb h1 h2 hl
end Mt
namespace Mt
open PySem PySem.Spec PyProof.Rows L2
def spShown (K : PySem.W.Frag) : Sp := fun vs H Q _ => ∃ (S D m : Addr) (ms : List Str), vs = [.ref D, .ref m] ∧ DrawAt S D H ∧ m ≠ D ∧ H m = some (.lst (ms.map V.str)) ∧ 0 < ms.length ∧ ms.length ≤ 100 ∧
  ∀ (H' : Hp) (p : Addr) (ss : List Str), Go S D H H' → H p = none → H' p = some (.tup (ss.map V.str)) → (∀ s ∈ ss, s ∈ ms) → ss.length ≤ 6 → Q (.ref p) H'
section
variable {P : Program} {w : World} {K : PySem.W.Frag} {mg : Str → Option Value} {base : Heap}
theorem ok__law_wide_shown (T : Txt K mg) (D__law_pick : Kept P w K mg base 2 "_law_pick" ["d", "row"] (spPick K)) {f : Addr} {fd : FuncData} (F : FnP K "_law_wide_shown" s__law_wide_shown f fd) : FnOk P w K mg base CX0 3 f fd ["d", "marks"] (spShown K) := by
  refine F.ok sc__law_wide_shown (fun vs H Q E h => ?_) (fun cdv A outer s H vs Q E hr h => ?_)
  · obtain ⟨S, D, m, ms, rfl, _⟩ := h
    rfl
  · obtain ⟨S, D, m, ms, rfl, d, nD, hm, h0, h1, q⟩ := h
    refine ⟨_, PSs.nox (pss_one (ps_ret (pe_callTy (tupOfT (K := K) rfl) (by rfl) T.b_tuple (by decide +kernel) (pa_cons (pe_lc (own := [("k", 2)]) (g := (gName 2)) (tt := tYes) rfl sc__law_wide_shown.nd (pi_range1 (by rfl) T.b_range (pa_cons (pe_d D__law_pick (hr.mono (by decide)) (by rfl) (pa_cons (pv 0) (pa_cons (pe_lst (pa_cons pe_int (pa_cons pe_int (pa_cons pe_int (pa_cons pe_int (pa_cons pe_int (pa_cons pe_int (pa_cons pe_int (pa_cons pe_int (pa_cons pe_int pa_nil)))))))))) pa_nil))) pa_nil)) (blkOk_by (N := N__law_wide_shown) (sc := defScope s__law_wide_shown) (by decide +kernel)) (fun _ _ _ _ _ => (pg_name (i := 2) sc__law_wide_shown.nd rfl (Or.inl rfl))) (fun _ _ _ _ _ => pts_nil) (fun _ _ _ _ _ => (pe_d D__law_pick (hr.mono (by decide)) (by rfl) (pa_cons (pv 0) (pa_cons (pv 1) pa_nil))))) pa_nil)))), ?_⟩
    refine ⟨_, rfl, by show 9 ≤ sizeLine; decide, fun L hL => ?_⟩
    have d1 := d.new (o := .lst [V.int 0, .int 0, .int 1, .int 1, .int 1, .int 2, .int 2, .int 3, .int 6]) hL
    have LD := (d.free hL).1
    have g1 : Go S D H (upd H L (.lst [V.int 0, .int 0, .int 1, .int 1, .int 1, .int 2, .int 2, .int 3, .int 6])) := Go.new d hL
    refine ⟨S, D, .ref L, [V.int 0, .int 0, .int 1, .int 1, .int 1, .int 2, .int 2, .int 3, .int 6], rfl, d1, fun H' g => .inr (.inl ⟨L, rfl, SqL.of (g.2 _ _ upd_same LD)⟩), by decide, by decide, fun H2 x hx g2 => ?_⟩
    obtain ⟨n, rfl, hn⟩ : ∃ n : Nat, x = .int (n : Int) ∧ n ≤ 6 := by
      simp only [List.mem_cons, List.not_mem_nil, or_false] at hx
      rcases hx with e | e | e | e | e | e | e | e | e
      · exact ⟨0, e, by decide⟩
      · exact ⟨0, e, by decide⟩
      · exact ⟨1, e, by decide⟩
      · exact ⟨1, e, by decide⟩
      · exact ⟨1, e, by decide⟩
      · exact ⟨2, e, by decide⟩
      · exact ⟨2, e, by decide⟩
      · exact ⟨3, e, by decide⟩
      · exact ⟨6, e, by decide⟩
    have g3 := g1.trans g2
    refine ⟨_, rfl, by omega, by omega, fun Lc hLc => lc_range (lo := 0) (n := n) (fun j H' => ∃ ss : List Str, Go S D H2 H' ∧ H' Lc = some (.lst (ss.map V.str)) ∧ ss.length = j ∧ ∀ s ∈ ss, s ∈ ms) ⟨[], Go.new g3.1 hLc, upd_same, rfl, fun _ h => absurd h List.not_mem_nil⟩ ?_ ?_⟩
    · rintro j H4 hj ⟨ss, g4, hL4, hl, hs⟩
      have LcD := (g3.1.free hLc).1
      refine ⟨rfl, _, rfl, _, rfl, S, D, .ref m, ms.map V.str, rfl, g4.1, fun H' g' => .inr (.inl ⟨m, rfl, SqL.of (((g3.trans g4).trans g').2 _ _ hm nD)⟩), by rw [List.length_map]; exact h0, by rw [List.length_map]; omega, fun H5 x hx g5 => ?_⟩
      obtain ⟨z, hz, rfl⟩ := List.mem_map.mp hx
      refine ⟨_, g5.2 _ _ hL4 LcD, by rw [List.length_map]; exact line6 (by omega), ss ++ [z], goU hLc g3.1 (g4.trans g5), by rw [upd_same, List.map_append]; rfl, by rw [List.length_append, List.length_singleton, hl], fun s h => ?_⟩
      rcases List.mem_append.mp h with h | h
      · exact hs s h
      · rw [List.mem_singleton.mp h]
        exact hz
    · rintro H4 ⟨ss, g4, hL4, hl, hs⟩
      refine ⟨Lc, _, rfl, .inl ⟨SqL.of hL4, fun p hp => ?_⟩⟩
      have g5 := g3.trans g4
      exact q _ p ss (g5.trans (Go.new g5.1 hp)) (g5.free d hp) upd_same hs (by omega)
end
end Mt
namespace Mt
open PySem PySem.Spec PyProof.Rows L2
theorem inV_str (z : Str) (ss : List Str) : inV (.str z) (ss.map V.str) = decide (z ∈ ss) := by
  unfold inV
  rw [List.any_map, Bool.eq_iff_iff, List.any_eq_true, decide_eq_true_iff]
  constructor
  · rintro ⟨s, hs, h⟩
    have h : (s == z) = true := h
    rw [← eq_of_beq h]
    exact hs
  · intro h
    exact ⟨z, h, (beq_self_eq_true z : (z == z) = true)⟩
theorem flat_strs (ss : List Str) : (ss.map V.str).all flatV = true := by
  rw [List.all_map]
  exact List.all_eq_true.mpr fun _ _ => rfl
def vN (k : Nat) : V := .int (k : Int)
theorem inV_nat (z : Nat) (ss : List Nat) : inV (.int (z : Int)) (ss.map vN) = decide (z ∈ ss) := by
  unfold inV
  rw [List.any_map, Bool.eq_iff_iff, List.any_eq_true, decide_eq_true_iff]
  constructor
  · rintro ⟨s, hs, h⟩
    have h : (((s : Nat) : Int) == ((z : Nat) : Int)) = true := h
    have := eq_of_beq h
    have e : s = z := by omega
    rw [← e]
    exact hs
  · intro h
    exact ⟨z, h, (beq_self_eq_true (z : Int) : ((z : Int) == (z : Int)) = true)⟩
theorem flat_nats (ss : List Nat) : (ss.map vN).all flatV = true := by
  rw [List.all_map]
  exact List.all_eq_true.mpr fun _ _ => rfl
/-! ### watches -/
structure Wt where
  rows : List (List (Str × Nat) × Nat)
  bad : List Nat
def dPr (p : Str × Nat) : PyData := .tuple [.str p.1, .int (p.2 : Int)]
def dFb (t : Nat) : PyData := .tuple [.none, .int (t : Int)]
def dWr (r : List (Str × Nat) × Nat) : PyData := .tuple (r.1.map dPr ++ [dFb r.2])
def dNs (l : List Nat) : PyData := .tuple (l.map fun k : Nat => .int (k : Int))
def dWt (W : Wt) : PyData := .tuple [.str "watch", .tuple (W.rows.map dWr), dNs W.bad]
structure WtOk (W : Wt) : Prop where
  pos : 0 < W.rows.length
  few : W.rows.length ≤ 20
  fewB : W.bad.length ≤ 20
  row : ∀ r ∈ W.rows, r.1.length ≤ 20 ∧ r.2 < W.rows.length ∧ ∀ p ∈ r.1, p.2 < W.rows.length
def wRow (W : Wt) (p : Nat) : List (Str × Nat) × Nat := (W.rows[p]?).getD ([], 0)
theorem wRow_at {W : Wt} {p : Nat} (h : p < W.rows.length) : W.rows[p]? = some (wRow W p) := by
  unfold wRow
  rw [List.getElem?_eq_getElem h]
  rfl
def hit (sh : List Str) (q : Str × Nat) : Bool := decide (q.1 ∈ sh)
def wTo (r : List (Str × Nat) × Nat) (sh : List Str) : Nat := match r.1.find? (hit sh) with
  | some q => q.2
  | none => r.2
def wStep (W : Wt) (p : Nat) (sh : List Str) : Nat := wTo (wRow W p) sh
theorem wStep_lt {W : Wt} (ok : WtOk W) {p : Nat} (h : p < W.rows.length) (sh : List Str) : wStep W p sh < W.rows.length := by
  obtain ⟨_, h2, h3⟩ := ok.row _ (List.mem_of_getElem? (wRow_at h))
  unfold wStep wTo
  cases e : (wRow W p).1.find? (hit sh) with
  | none => exact h2
  | some q => exact h3 q (List.mem_of_find?_eq_some e)
theorem wTo_hit {r : List (Str × Nat) × Nat} {sh : List Str} {i : Nat} {q : Str × Nat} (h : r.1[i]? = some q) (hq : hit sh q = true) (no : ∀ x ∈ r.1.take i, ¬ hit sh x = true) : wTo r sh = q.2 := by
  have il := (List.getElem?_eq_some_iff.mp h).1
  have e : r.1.find? (hit sh) = some q := by
    rw [← List.take_append_drop i r.1, List.find?_append, List.find?_eq_none.mpr no, List.drop_eq_getElem_cons il, List.find?_cons_of_pos (by rw [List.getElem?_eq_getElem il] at h; rw [Option.some.inj h]; exact hq)]
    rw [List.getElem?_eq_getElem il] at h
    rw [Option.some.inj h]
    rfl
  unfold wTo
  rw [e]
theorem wTo_none {r : List (Str × Nat) × Nat} {sh : List Str} (no : ∀ x ∈ r.1, ¬ hit sh x = true) : wTo r sh = r.2 := by
  unfold wTo
  rw [List.find?_eq_none.mpr no]
theorem dPr_noL (p : Str × Nat) : noL (dPr p) = true := rfl
theorem dWr_noL (r : List (Str × Nat) × Nat) : noL (dWr r) = true := by
  show noLs (r.1.map dPr ++ [dFb r.2]) = true
  have : ∀ l : List (Str × Nat), noLs (l.map dPr ++ [dFb r.2]) = true := fun l => by
    induction l with
    | nil => rfl
    | cons a t ih =>
      show (noL (dPr a) && noLs (t.map dPr ++ [dFb r.2])) = true
      rw [ih]
      rfl
  exact this r.1
theorem dNs_noL (l : List Nat) : noL (dNs l) = true := noLs_map _ _ fun _ _ => rfl
theorem dWt_noL (W : Wt) : noL (dWt W) = true := by
  show (true && (noLs (W.rows.map dWr) && (noL (dNs W.bad) && true))) = true
  rw [noLs_map _ _ fun r _ => dWr_noL r, dNs_noL]
  rfl
theorem dp_nats {K : PySem.W.Frag} {H : Hp} : ∀ {l : List Nat} {xs : List V}, DpAll K H xs (l.map fun t : Nat => .int (t : Int)) → xs = l.map vN
  | [], _, h => dpA_nil h
  | s :: r, _, h => by
    obtain ⟨x, t, rfl, h1, h2⟩ := dpA_cons h
    rw [dp_int h1, dp_nats h2]
    rfl
theorem nats_dp {K : PySem.W.Frag} {H : Hp} : ∀ l : List Nat, DpAll K H (l.map vN) (l.map fun k : Nat => .int (k : Int))
  | [] => .nil
  | s :: r => .cons (.int _) (nats_dp r)
theorem wt_at {K : PySem.W.Frag} {H : Hp} {v : V} {W : Wt} (h : Dp K H v (dWt W)) : ∃ p q b xs, v = .ref p ∧ SqT K H p [.str "watch", .ref q, .ref b] ∧ SqT K H q xs ∧ DpAll K H xs (W.rows.map dWr) ∧ SqT K H b (W.bad.map vN) := by
  obtain ⟨p, us, rfl, h1, hA⟩ := dp_tup h
  obtain ⟨x0, r0, rfl, h0, hA⟩ := dpA_cons hA
  obtain ⟨x1, r1, rfl, h2, hA⟩ := dpA_cons hA
  obtain ⟨x2, r2, rfl, h3, hA⟩ := dpA_cons hA
  cases dpA_nil hA
  obtain rfl := dp_str h0
  obtain ⟨q, xs, rfl, h4, h5⟩ := dp_tup h2
  obtain ⟨b, ys, rfl, h6, h7⟩ := dp_tup h3
  obtain rfl := dp_nats h7
  exact ⟨p, q, b, xs, rfl, h1, h4, h5, h6⟩
theorem pr_at {K : PySem.W.Frag} {H : Hp} {v : V} {q : Str × Nat} (h : Dp K H v (dPr q)) : ∃ p, v = .ref p ∧ SqT K H p [.str q.1, vN q.2] := by
  obtain ⟨p, us, rfl, h1, hA⟩ := dp_tup h
  obtain ⟨x0, r0, rfl, h0, hA⟩ := dpA_cons hA
  obtain ⟨x1, r1, rfl, h2, hA⟩ := dpA_cons hA
  cases dpA_nil hA
  obtain rfl := dp_str h0
  obtain rfl := dp_int h2
  exact ⟨p, rfl, h1⟩
theorem fb_at {K : PySem.W.Frag} {H : Hp} {v : V} {t : Nat} (h : Dp K H v (dFb t)) : ∃ p, v = .ref p ∧ SqT K H p [.non, vN t] := by
  obtain ⟨p, us, rfl, h1, hA⟩ := dp_tup h
  obtain ⟨x0, r0, rfl, h0, hA⟩ := dpA_cons hA
  obtain ⟨x1, r1, rfl, h2, hA⟩ := dpA_cons hA
  cases dpA_nil hA
  obtain rfl := dp_non h0
  obtain rfl := dp_int h2
  exact ⟨p, rfl, h1⟩
/-- a row: its pairs, and the last one -/
theorem wr_at {K : PySem.W.Frag} {H : Hp} {v : V} {r : List (Str × Nat) × Nat} (h : Dp K H v (dWr r)) : ∃ p xs y, v = .ref p ∧ SqT K H p (xs ++ [y]) ∧ DpAll K H xs (r.1.map dPr) ∧ Dp K H y (dFb r.2) := by
  obtain ⟨p, us, rfl, h1, hA⟩ := dp_tup h
  have split : ∀ (l : List (Str × Nat)) (us : List V), DpAll K H us (l.map dPr ++ [dFb r.2]) → ∃ xs y, us = xs ++ [y] ∧ DpAll K H xs (l.map dPr) ∧ Dp K H y (dFb r.2) := fun l => by
    induction l with
    | nil =>
      intro us h
      obtain ⟨y, t, rfl, hy, ht⟩ := dpA_cons h
      cases dpA_nil ht
      exact ⟨[], y, rfl, .nil, hy⟩
    | cons a t ih =>
      intro us h
      obtain ⟨x, u, rfl, hx, hu⟩ := dpA_cons h
      obtain ⟨xs, y, rfl, h1, h2⟩ := ih u hu
      exact ⟨x :: xs, y, rfl, .cons hx h1, h2⟩
  obtain ⟨xs, y, rfl, h2, h3⟩ := split r.1 us hA
  exact ⟨p, xs, y, rfl, h1, h2, h3⟩
theorem cut_last {xs : List V} {y : V} : cutV (xs ++ [y]) none (some (-1)) = xs := by
  unfold cutV
  rw [HT.sIx_none]
  have : HT.sIx (xs ++ [y]).length (xs ++ [y]).length (some (-1)) = xs.length := by
    show (if (-1 : Int) < 0 then ((-1 : Int) + ((xs ++ [y]).length : Int)).toNat else min (-1 : Int).toNat (xs ++ [y]).length) = xs.length
    rw [if_pos (by decide), List.length_append, List.length_singleton]
    omega
  rw [this, List.drop_zero, Nat.sub_zero, List.take_left]
theorem atI_m1 {xs : List V} {x : V} (h : xs.getLast? = some x) : atI xs (-1) = some x := by
  cases xs with
  | nil => cases h
  | cons a r =>
    unfold atI ixN
    rw [if_neg (by decide), if_pos (by rw [List.length_cons]; omega)]
    show (a :: r)[(-1 + ((a :: r).length : Int)).toNat]? = some x
    rw [show (-1 + ((a :: r).length : Int)).toNat = (a :: r).length - 1 by rw [List.length_cons]; omega, ← List.getLast?_eq_getElem?]
    exact h
def spPlace (K : PySem.W.Frag) : Sp := fun vs H Q _ => ∃ (vw v : V) (p : Nat) (W : Wt) (sh : List Str), vs = [vw, .int (p : Int), v] ∧ Dp K H vw (dWt W) ∧ WtOk W ∧ p < W.rows.length ∧ Dp K H v (dSh sh) ∧ ∀ H', Same H H' → Q (.int (wStep W p sh : Nat)) H'
section
variable {P : Program} {w : World} {K : PySem.W.Frag} {mg : Str → Option Value} {base : Heap}
theorem ok_place_behind (T : Txt K mg) {f : Addr} {fd : FuncData} (F : FnP K "place_behind" s_place_behind f fd) : FnOk P w K mg base CX0 1 f fd ["watch", "place", "shown"] (spPlace K) := by
  refine F.ok sc_place_behind (fun vs H Q E h => ?_) (fun cdv A outer s H vs Q E hr h => ?_)
  · obtain ⟨vw, v, p, W, sh, rfl, _⟩ := h
    rfl
  · obtain ⟨vw, v, p, W, sh, rfl, hW, ok, hp, hv, q⟩ := h
    refine ⟨_, PSs.nox (pss_cons (ps_set (i := 3) sc_place_behind.nd rfl (Or.inl rfl) (pe_ix ix_tup (pe_ix ix_tup (pv 0) pe_int (fun _ _ => rfl)) (pv 1) (fun _ _ => rfl)))
      (pss_cons (ps_for PassesOwn.never rfl (pi_tup (pe_slice sl_tupA (pv 3) po_none (po_some (pe_un un_neg pe_int)))) (pg_tup rfl (pgs_cons (pg_name (i := 4) sc_place_behind.nd rfl (Or.inl rfl)) (pgs_cons (pg_name (i := 5) sc_place_behind.nd rfl (Or.inl rfl)) pgs_nil))) (pss_one (ps_if (pt_cmpR op_in_seq (pv 4) (pv 2) (by rfl)) (pss_one (ps_ret (pv 5))) pss_nil)))
      (pss_one (ps_ret (pe_ix ix_tup (pe_ix ix_tup (pv 3) (pe_un un_neg pe_int) (fun _ _ => rfl)) pe_int (fun _ _ => rfl)))))), ?_⟩
    obtain ⟨pw, pq, pb, us, rfl, hpw, hpq, hA, hpb⟩ := wt_at hW
    obtain ⟨x, hx, hd⟩ := dpA_get hA (wRow_at hp)
    obtain ⟨fewr, _, _⟩ := ok.row _ (List.mem_of_getElem? (wRow_at hp))
    obtain ⟨pr, xs, y, rfl, hpr, hxs, hy⟩ := wr_at hd
    obtain ⟨py, rfl, hpy⟩ := fb_at hy
    obtain ⟨ps, rfl, hps⟩ := sh_at hv
    have xl := dpA_len hxs
    rw [List.length_map] at xl
    refine ⟨_, rfl, pw, _, _, _, rfl, rfl, hpw, atI_nat (j := 1) rfl, _, rfl, pq, _, _, _, rfl, rfl, hpq, atI_nat hx, ?_⟩
    have dec : ∀ (q : Str × Nat), (decide (q.1 ∈ sh) = true) = (hit sh q = true) := fun q => rfl
    refine ⟨_, rfl, _, rfl, _, rfl, pr, _, rfl, hpr, fun e => ?_, fun _ pn hpn => ?_⟩
    · exfalso
      have : HT.sIx (xs ++ [V.ref py]).length (xs ++ [V.ref py]).length (some (-1)) = xs.length := by
        show (if (-1 : Int) < 0 then ((-1 : Int) + ((xs ++ [V.ref py]).length : Int)).toNat else min (-1 : Int).toNat (xs ++ [V.ref py]).length) = xs.length
        rw [if_pos (by decide), List.length_append, List.length_singleton]
        omega
      have e2 := e.2
      rw [this, List.length_append, List.length_singleton] at e2
      omega
    · rw [cut_last]
      have s1 := same_new (o := .tup xs) hpn
      have hpn1 := upd_same (H := H) (a := pn) (o := .tup xs)
      generalize upd H pn (.tup xs) = H1 at s1 hpn1
      refine ⟨pn, rfl, ⟨_, SqT.of hpn1⟩, for_tup (K := K) (a := pn) (xs := xs) (fun i σ H' => ∃ (y4 y5 : Option V), σ = [some (.ref pw), some (.int (p : Int)), some (.ref ps), some (.ref pr), y4, y5] ∧ H' = H1 ∧ ∀ x ∈ (wRow W p).1.take i, ¬ hit sh x = true) ⟨_, _, rfl, rfl, fun x h => absurd h List.not_mem_nil⟩ (fun i σ H' _ ⟨_, _, _, e, _⟩ => by rw [e]; exact SqT.of hpn1) ?_ ?_⟩
      · rintro i z σ H2 hi ⟨y4, y5, rfl, rfl, no⟩
        obtain ⟨q0, hq0, hz⟩ := dpA_mem (dpA_same s1 _ _ hxs) hi
        obtain ⟨pz, rfl, hpz⟩ := pr_at hz
        refine ⟨pz, _, rfl, hpz, rfl, _, _, rfl, _, _, rfl, rfl, ?_⟩
        refine ⟨_, rfl, _, rfl, ps, _, rfl, .inr (same_t s1 hps), rfl, flat_strs _, ?_⟩
        rw [inV_str]
        refine ⟨_, rfl, ite2 (fun h => ?_) (fun h => ?_)⟩
        · have e := wTo_hit hq0 h no
          refine ⟨_, rfl, ?_⟩
          have := q _ s1
          unfold wStep at this
          rw [e] at this
          exact this
        · refine ⟨_, _, rfl, rfl, fun x hx => ?_⟩
          rw [take_snoc hq0] at hx
          rcases List.mem_append.mp hx with hx | hx
          · exact no x hx
          · rw [List.mem_singleton.mp hx]
            exact h
      · rintro σ H2 ⟨y4, y5, rfl, rfl, no⟩
        rw [xl, List.take_length] at no
        have e := wTo_none no
        refine ⟨_, rfl, _, rfl, pr, _, _, _, rfl, rfl, same_t s1 hpr, atI_m1 (x := V.ref py) (by rw [List.getLast?_append]; rfl), py, _, _, _, rfl, rfl, same_t s1 hpy, atI_nat (j := 1) rfl, ?_⟩
        have := q _ s1
        unfold wStep at this
        rw [e] at this
        exact this
theorem ok__law_watch_step (T : Txt K mg) {f : Addr} {fd : FuncData} (F : FnP K "_law_watch_step" s__law_watch_step f fd) : FnOk P w K mg base CX0 1 f fd ["watch", "state", "shown"] (spPlace K) := by
  refine F.ok sc__law_watch_step (fun vs H Q E h => ?_) (fun cdv A outer s H vs Q E hr h => ?_)
  · obtain ⟨vw, v, p, W, sh, rfl, _⟩ := h
    rfl
  · obtain ⟨vw, v, p, W, sh, rfl, hW, ok, hp, hv, q⟩ := h
    refine ⟨_, PSs.nox (pss_cons (ps_for PassesOwn.never rfl (pi_tup (pe_ix ix_tup (pe_ix ix_tup (pv 0) pe_int (fun _ _ => rfl)) (pv 1) (fun _ _ => rfl))) (pg_tup rfl (pgs_cons (pg_name (i := 3) sc__law_watch_step.nd rfl (Or.inl rfl)) (pgs_cons (pg_name (i := 4) sc__law_watch_step.nd rfl (Or.inl rfl)) pgs_nil))) (pss_one (ps_if (PW.pt (pw_or (pt_cmpR op_isN (pv 3) pe_non (nomark _)) (pw_or1 (pt_cmpR op_in_seq (pv 3) (pv 2) (by rfl))))) (pss_one (ps_ret (pv 4))) pss_nil)))
      (pss_one (ps_ret (pv 1)))), ?_⟩
    obtain ⟨pw, pq, pb, us, rfl, hpw, hpq, hA, hpb⟩ := wt_at hW
    obtain ⟨x, hx, hd⟩ := dpA_get hA (wRow_at hp)
    obtain ⟨pr, xs, y, rfl, hpr, hxs, hy⟩ := wr_at hd
    obtain ⟨py, rfl, hpy⟩ := fb_at hy
    obtain ⟨ps, rfl, hps⟩ := sh_at hv
    have xl := dpA_len hxs
    rw [List.length_map] at xl
    refine ⟨_, rfl, pw, _, _, _, rfl, rfl, hpw, atI_nat (j := 1) rfl, _, rfl, pq, _, _, _, rfl, rfl, hpq, atI_nat hx, pr, rfl, ⟨_, hpr⟩, for_tup (K := K) (a := pr) (xs := xs ++ [.ref py]) (fun i σ H' => ∃ (y3 y4 : Option V), σ = [some (.ref pw), some (.int (p : Int)), some (.ref ps), y3, y4] ∧ H' = H ∧ i ≤ xs.length ∧ ∀ x ∈ (wRow W p).1.take i, ¬ hit sh x = true) ⟨_, _, rfl, rfl, Nat.zero_le _, fun x h => absurd h List.not_mem_nil⟩ (fun i σ H' _ ⟨_, _, _, e, _⟩ => by rw [e]; exact hpr) ?_ ?_⟩
    · rintro i z σ H2 hi ⟨y3, y4, rfl, rfl, hle, no⟩
      by_cases il : i < xs.length
      · rw [List.getElem?_append_left il] at hi
        obtain ⟨q0, hq0, hz⟩ := dpA_mem hxs hi
        obtain ⟨pz, rfl, hpz⟩ := pr_at hz
        refine ⟨pz, _, rfl, hpz, rfl, _, _, rfl, _, _, rfl, rfl, ?_⟩
        refine ⟨_, rfl, rfl, _, rfl, ite2 (fun h => (nomatch (show false = true from h))) (fun _ => ?_)⟩
        refine ⟨_, rfl, _, rfl, ps, _, rfl, .inr hps, rfl, flat_strs _, ?_⟩
        rw [inV_str]
        refine ⟨_, rfl, ite2 (fun h => ?_) (fun h => ?_)⟩
        · have e := wTo_hit hq0 h no
          refine ⟨_, rfl, ?_⟩
          have := q _ (Same.refl _)
          unfold wStep at this
          rw [e] at this
          exact this
        · refine ⟨_, _, rfl, rfl, il, fun x hx => ?_⟩
          rw [take_snoc hq0] at hx
          rcases List.mem_append.mp hx with hx | hx
          · exact no x hx
          · rw [List.mem_singleton.mp hx]
            exact h
      · have ei : i = xs.length := by omega
        subst ei
        rw [List.getElem?_append_right (Nat.le_refl _), Nat.sub_self] at hi
        obtain rfl := Option.some.inj hi
        rw [xl, List.take_length] at no
        have e := wTo_none no
        refine ⟨py, _, rfl, hpy, rfl, _, _, rfl, _, _, rfl, rfl, ?_⟩
        refine ⟨_, rfl, rfl, _, rfl, ite2 (fun _ => ?_) (fun h => absurd rfl h)⟩
        refine ⟨_, rfl, ?_⟩
        have := q _ (Same.refl _)
        unfold wStep at this
        rw [e] at this
        exact this
    · rintro σ H2 ⟨y3, y4, rfl, rfl, hle, no⟩
      rw [List.length_append, List.length_singleton] at hle
      omega
end
end Mt
namespace Mt
open PySem PySem.Spec PyProof.Rows L2
abbrev s_wi : Stmt := inClass (topS 8) 0
abbrev s_wc : Stmt := inClass (topS 8) 1
abbrev s_wb : Stmt := inClass (topS 8) 3
theorem sc_wi : FnScope ["self", "watch"] ["self", "watch"] (defScope s_wi) := ⟨rfl, rfl, rfl, by decide +kernel, rfl, by decide +kernel, by decide +kernel⟩
theorem sc_wc : FnScope ["self", "shown"] ["self", "shown"] (defScope s_wc) := ⟨rfl, rfl, rfl, by decide +kernel, rfl, by decide +kernel, by decide +kernel⟩
theorem sc_wb : FnScope ["self"] ["self"] (defScope s_wb) := ⟨rfl, rfl, rfl, by decide +kernel, rfl, by decide +kernel, by decide +kernel⟩
abbrev FnM (K : PySem.W.Frag) (x q : Str) (st : Stmt) (f : Addr) (fd : FuncData) : Prop := FunD K x q (defArgs st) (defBody st) (defScope st) [] [] f fd
/-! ### a watcher: what its object holds -/
theorem n_wh : ¬ ("watch" : Str) = "here" := by decide +kernel
theorem n_wb : ¬ ("watch" : Str) = "has_broken" := by decide +kernel
theorem n_hb : ¬ ("here" : Str) = "has_broken" := by decide +kernel
theorem b_hw : (("here" : Str) == "watch") = false := by decide +kernel
theorem b_bw : (("has_broken" : Str) == "watch") = false := by decide +kernel
theorem b_bh : (("has_broken" : Str) == "here") = false := by decide +kernel
def wf (vw : V) (h : Nat) (b : Bool) : List (Str × V) := [("watch", vw), ("here", .int (h : Int)), ("has_broken", .bl b)]
theorem wf_w (vw : V) (h : Nat) (b : Bool) : (wf vw h b).lookup ("watch" : Str) = some vw := by
  unfold wf
  simp [List.lookup]
theorem wf_h (vw : V) (h : Nat) (b : Bool) : (wf vw h b).lookup ("here" : Str) = some (.int (h : Int)) := by
  unfold wf
  simp [List.lookup, b_hw]
theorem wf_b (vw : V) (h : Nat) (b : Bool) : (wf vw h b).lookup ("has_broken" : Str) = some (.bl b) := by
  unfold wf
  simp [List.lookup, b_bw, b_bh]
theorem wf_seth (vw : V) (h h' : Nat) (b : Bool) : putF "here" (.int (h' : Int)) (wf vw h b) = wf vw h' b := by
  unfold wf
  simp [putF, n_wh]
theorem wf_setb (vw : V) (h : Nat) (b b' : Bool) : putF "has_broken" (.bl b') (wf vw h b) = wf vw h b' := by
  unfold wf
  simp [putF, n_wb, n_hb]
theorem wf_init (vw : V) (b : Bool) : putF "has_broken" (.bl b) (putF "here" (.int 0) (putF "watch" vw [])) = wf vw 0 b := by
  simp [putF, n_wh, n_wb, n_hb]
  rfl
def spWI (K : PySem.W.Frag) (C : Addr) : Sp := fun vs H Q _ => ∃ (p dx : Addr) (vw : V) (W : Wt), vs = [.ref p, vw] ∧ H p = some (.ins C dx []) ∧ Dp K H vw (dWt W) ∧ ∀ H', Keep p H H' → H' p = some (.ins C dx (wf vw 0 (decide (0 ∈ W.bad)))) → Q .non H'
def spWC (K : PySem.W.Frag) (C : Addr) : Sp := fun vs H Q _ => ∃ (p dx : Addr) (vw v : V) (W : Wt) (h : Nat) (b : Bool) (sh : List Str), vs = [.ref p, v] ∧ H p = some (.ins C dx (wf vw h b)) ∧ Dp K H vw (dWt W) ∧ WtOk W ∧ h < W.rows.length ∧ Dp K H v (dSh sh) ∧
  ∀ H', Keep p H H' → H' p = some (.ins C dx (wf vw (wStep W h sh) (b || decide (wStep W h sh ∈ W.bad)))) → Q (.int (wStep W h sh : Nat)) H'
structure WTx (K : PySem.W.Frag) (C : Addr) : Prop where
  cl : Cls K C
  nW : NoAttr K C "watch"
  nH : NoAttr K C "here"
  nB : NoAttr K C "has_broken"
theorem nt_ins (C dx : Addr) (fs : List (Str × V)) : NT (.ins C dx fs) := ⟨fun _ e => (nomatch e), fun _ _ e => (nomatch e)⟩
theorem Keep.of_same {D : Addr} {H H' : Hp} (s : Same H H') : Keep D H H' := fun b o h _ => s b o h
section
variable {P : Program} {w : World} {K : PySem.W.Frag} {mg : Str → Option Value} {base : Heap} {C : Addr}
theorem ok_wi (X : WTx K C) {f : Addr} {fd : FuncData} (F : FnM K "__init__" "Watcher.__init__" s_wi f fd) : FnOk P w K mg base CX0 1 f fd ["self", "watch"] (spWI K C) := by
  refine F.ok sc_wi (fun vs H Q E h => ?_) (fun cdv A outer s H vs Q E hr h => ?_)
  · obtain ⟨p, dx, vw, W, rfl, _⟩ := h
    rfl
  · obtain ⟨p, dx, vw, W, rfl, hp, hW, q⟩ := h
    refine ⟨_, pss_cons (ps_fld (pv 0) (pv 1) rfl) (pss_cons (ps_fld (pv 0) pe_int rfl) (pss_one (ps_fld (pv 0) (pe_cmpR op_in_seq pe_int (pe_ix ix_tup (pv 1) pe_int (fun _ _ => rfl)) (by rfl)) rfl))), ?_⟩
    have k1 := keepT_nt (o := .ins C dx (putF "watch" vw [])) (nt_ins _ _ _) hp
    refine ⟨_, rfl, _, rfl, p, C, dx, [], rfl, hp, X.cl, X.nW, by show 0 < 1000; decide, ?_⟩
    refine ⟨_, rfl, p, C, dx, _, rfl, upd_same, X.cl, X.nH, by show 1 < 1000; decide, ?_⟩
    have hp2 := upd_same (H := upd H p (.ins C dx (putF "watch" vw []))) (a := p) (o := .ins C dx (putF "here" (.int 0) (putF "watch" vw [])))
    have k2 : KeepT H (upd (upd H p (.ins C dx (putF "watch" vw []))) p (.ins C dx (putF "here" (.int 0) (putF "watch" vw [])))) := k1.trans (keepT_nt (nt_ins _ _ _) upd_same)
    obtain ⟨pw, pq, pb, us, rfl, hpw, hpq, hA, hpb⟩ := wt_at (dp_keep k2 _ _ (dWt_noL W) hW)
    refine ⟨_, rfl, pw, _, _, _, rfl, rfl, hpw, atI_nat (j := 2) rfl, pb, _, rfl, .inr hpb, rfl, flat_nats _, ?_⟩
    rw [show inV (.int 0) (W.bad.map vN) = decide (0 ∈ W.bad) from inV_nat 0 W.bad]
    refine ⟨_, rfl, p, C, dx, _, rfl, hp2, X.cl, X.nB, by show 2 < 1000; decide, ?_⟩
    refine q _ (fun x o e n => ?_) ?_
    · rw [upd_ne n, upd_ne n, upd_ne n]
      exact e
    · rw [upd_same, wf_init]
      rfl
theorem ok_wc (X : WTx K C) (D_place_behind : Kept P w K mg base 1 "place_behind" ["watch", "place", "shown"] (spPlace K)) {f : Addr} {fd : FuncData} (F : FnM K "__call__" "Watcher.__call__" s_wc f fd) : FnOk P w K mg base CX0 2 f fd ["self", "shown"] (spWC K C) := by
  refine F.ok sc_wc (fun vs H Q E h => ?_) (fun cdv A outer s H vs Q E hr h => ?_)
  · obtain ⟨p, dx, vw, v, W, h, b, sh, rfl, _⟩ := h
    rfl
  · obtain ⟨p, dx, vw, v, W, h, b, sh, rfl, hp, hW, ok, hh, hv, q⟩ := h
    refine ⟨_, PSs.nox (pss_cons (ps_fld (pv 0) (pe_d D_place_behind hr (by rfl) (pa_cons (pe_fld (pv 0) rfl) (pa_cons (pe_fld (pv 0) rfl) (pa_cons (pv 1) pa_nil)))) rfl)
      (pss_cons (ps_if (pt_cmpR op_in_seq (pe_fld (pv 0) rfl) (pe_ix ix_tup (pe_fld (pv 0) rfl) pe_int (fun _ _ => rfl)) (by rfl)) (pss_one (ps_fld (pv 0) pe_bl rfl)) pss_nil)
      (pss_one (ps_ret (pe_fld (pv 0) rfl))))), ?_⟩
    have len3 : ∀ (vw : V) (h : Nat) (b : Bool), (wf vw h b).length < 1000 := fun _ _ _ => by show 3 < 1000; decide
    refine ⟨_, rfl, p, C, dx, _, _, rfl, hp, X.cl, X.nW, wf_w _ _ _, _, rfl, p, C, dx, _, _, rfl, hp, X.cl, X.nH, wf_h _ _ _, _, rfl, vw, v, h, W, sh, rfl, hW, ok, hh, hv, fun H1 s1 => ?_⟩
    refine ⟨_, rfl, p, C, dx, _, rfl, s1 _ _ hp, X.cl, X.nH, len3 _ _ _, ?_⟩
    rw [wf_seth]
    have k1 : Keep p H (upd H1 p (.ins C dx (wf vw (wStep W h sh) b))) := (Keep.of_same s1).set
    have t1 : KeepT H (upd H1 p (.ins C dx (wf vw (wStep W h sh) b))) := (KeepT.of_same s1).trans (keepT_nt (nt_ins _ _ _) (s1 _ _ hp))
    have hp1 := upd_same (H := H1) (a := p) (o := .ins C dx (wf vw (wStep W h sh) b))
    generalize upd H1 p (.ins C dx (wf vw (wStep W h sh) b)) = H2 at k1 t1 hp1
    obtain ⟨pw, pq, pb, us, rfl, hpw, hpq, hA, hpb⟩ := wt_at (dp_keep t1 _ _ (dWt_noL W) hW)
    refine ⟨_, rfl, p, C, dx, _, _, rfl, hp1, X.cl, X.nH, wf_h _ _ _, _, rfl, p, C, dx, _, _, rfl, hp1, X.cl, X.nW, wf_w _ _ _, pw, _, _, _, rfl, rfl, hpw, atI_nat (j := 2) rfl, pb, _, rfl, .inr hpb, rfl, flat_nats _, ?_⟩
    rw [inV_nat]
    refine ⟨_, rfl, ite2 (fun e => ?_) (fun e => ?_)⟩
    · refine ⟨_, rfl, p, C, dx, _, rfl, hp1, X.cl, X.nB, len3 _ _ _, ?_⟩
      rw [wf_setb]
      refine ⟨_, rfl, p, C, dx, _, _, rfl, upd_same, X.cl, X.nH, wf_h _ _ _, ?_⟩
      refine q _ k1.set ?_
      have e : decide (wStep W h sh ∈ W.bad) = true := e
      rw [upd_same, e, Bool.or_true]
    · have e : ¬ decide (wStep W h sh ∈ W.bad) = true := e
      refine ⟨_, rfl, p, C, dx, _, _, rfl, hp1, X.cl, X.nH, wf_h _ _ _, ?_⟩
      refine q _ k1 ?_
      rw [hp1, Bool.eq_false_iff.mpr e, Bool.or_false]
theorem ok_wb (X : WTx K C) {f : Addr} {fd : FuncData} (F : FnM K "broken" "Watcher.broken" s_wb f fd) : FnOk P w K mg base CX0 1 f fd ["self"] (getSp C "has_broken") := by
  refine F.ok sc_wb (fun vs H Q E h => ?_) (fun cdv A outer s H vs Q E hr h => ?_)
  · obtain ⟨a, dx, fs, v, rfl, _⟩ := h
    rfl
  · obtain ⟨a, dx, fs, v, rfl, ha, hl, q⟩ := h
    refine ⟨_, pss_one (ps_ret (pe_fld (pv 0) rfl)), ?_⟩
    exact ⟨_, rfl, a, C, dx, fs, v, rfl, ha, X.cl, X.nB, hl, q⟩
end
/-- what the top tells of the class -/
structure Wch (P : Program) (w : World) (K : PySem.W.Frag) (mg : Str → Option Value) (base : Heap) (C fI fC pB gB : Addr) (fdI fdB : FuncData) : Prop where
  mgC : mg "Watcher" = some (.ref C)
  cl : Cls K C
  mk_ : Mk K C fI
  fI_ : FnOk P w K mg base CX0 1 fI fdI ["self", "watch"] (spWI K C)
  bI : Binds K fdI ["self", "watch"] []
  call : StX.CallO K C fC
  fC_ : FnR P w K mg base CX0 2 fC (spWC K C)
  pr : PropOf K C "broken" pB gB
  fB_ : FnOk P w K mg base CX0 1 gB fdB ["self"] (getSp C "has_broken")
  bB : Binds K fdB ["self"] []
end Mt
namespace Mt
open PySem PySem.Spec PyProof.Rows L2
/-- what makes a watch a good one, beside its sizes -/
structure WtGood (W : Wt) : Prop where
  nd : ∀ r ∈ W.rows, (r.1.map (·.1)).Nodup
  lt : ∀ x ∈ W.bad, x < W.rows.length
  asc : W.bad.Pairwise (· < ·)
def spDWatch (K : PySem.W.Frag) : Sp := fun vs H Q _ => ∃ (S D m : Addr) (n : Int) (ms : List Str), vs = [.ref D, .ref m, .int n] ∧ DrawAt S D H ∧ m ≠ D ∧ H m = some (.lst (ms.map V.str)) ∧ 2 ≤ ms.length ∧ ms.length ≤ 10 ∧ ms.Nodup ∧ 1 ≤ n ∧ n ≤ 12 ∧
  ∀ (H' : Hp) (v : V) (W : Wt), Go S D H H' → Dp K H' v (dWt W) → WtOk W → WtGood W → W.rows.length = n.toNat → Q v H'
theorem noLs_pr (r : List (Str × Nat)) : noLs (r.map dPr) = true := noLs_map _ _ fun p _ => dPr_noL p
theorem noLs_wr (R : List (List (Str × Nat) × Nat)) : noLs (R.map dWr) = true := noLs_map _ _ fun r _ => dWr_noL r
theorem list_of_map_erase {ms : List Str} {j : Nat} : (ms.map V.str).eraseIdx j = (ms.eraseIdx j).map V.str := by
  first
    | exact List.eraseIdx_map ..
    | exact (List.map_eraseIdx ..).symm
    | simp [List.eraseIdx_eq_take_drop_succ]
theorem pop_nodup {r : List (Str × Nat)} {nms : List Str} {j : Nat} {z : Str} {t : Nat} (h : (r.map (·.1) ++ nms).Nodup) (hz : nms[j]? = some z) : ((r ++ [(z, t)]).map (·.1) ++ nms.eraseIdx j).Nodup := by
  obtain ⟨hj, rfl⟩ := List.getElem?_eq_some_iff.mp hz
  rw [List.map_append, List.append_assoc, List.eraseIdx_eq_take_drop_succ]
  have e : nms = nms.take j ++ nms[j] :: nms.drop (j + 1) := by rw [← List.drop_eq_getElem_cons hj, List.take_append_drop]
  have p : (nms[j] :: (nms.take j ++ nms.drop (j + 1))).Perm nms := by
    conv => rhs; rw [e]
    exact List.perm_middle.symm
  exact (List.Perm.nodup_iff (p.append_left (r.map (·.1)))).mpr h
def rOk (n : Nat) (r : List (Str × Nat) × Nat) : Prop := r.1.length ≤ 20 ∧ r.2 < n ∧ (∀ p ∈ r.1, p.2 < n) ∧ (r.1.map (·.1)).Nodup
section
variable {P : Program} {w : World} {K : PySem.W.Frag} {mg : Str → Option Value} {base : Heap}
theorem ok__law_drawn_watch (T : Txt K mg) (D__law_draw : Kept P w K mg base 1 "_law_draw" ["d", "many"] spDraw) (D__law_pop : Kept P w K mg base 2 "_law_pop" ["d", "row"] spPop) (D__law_rare : Kept P w K mg base 2 "_law_rare" ["d", "many"] spRare) {f : Addr} {fd : FuncData} (F : FnP K "_law_drawn_watch" s__law_drawn_watch f fd) : FnOk P w K mg base CX0 3 f fd ["d", "marks", "many"] (spDWatch K) := by
  refine F.ok sc__law_drawn_watch (fun vs H Q E h => ?_) (fun cdv A outer s H vs Q E hr h => ?_)
  · obtain ⟨S, D, m, n, ms, rfl, _⟩ := h
    rfl
  · obtain ⟨S, D, m, n, ms, rfl, d, nD, hm, m2, m10, mnd, n1, n12, q⟩ := h
    refine ⟨_, PSs.nox (pss_cons (ps_set (i := 3) sc__law_drawn_watch.nd rfl (Or.inl rfl) (pe_lst pa_nil))
      (pss_cons (ps_for PassesOwn.never rfl (pi_range1 (by rfl) T.b_range (pa_cons (pv 2) pa_nil)) (pg_name (i := 4) sc__law_drawn_watch.nd rfl (Or.inl rfl)) (pss_cons (ps_set (i := 5) sc__law_drawn_watch.nd rfl (Or.inl rfl) (pe_callTy call_list_of (by rfl) T.b_list (by decide +kernel) (pa_cons (pv 1) pa_nil)))
      (pss_cons (ps_set (i := 6) sc__law_drawn_watch.nd rfl (Or.inl rfl) (pe_lst pa_nil))
      (pss_cons (ps_set (i := 7) sc__law_drawn_watch.nd rfl (Or.inl rfl) (pe_callB (call_min2 rfl) (by rfl) T.b_min (by decide +kernel) (pa_cons pe_int (pa_cons (pe_op op_add (pe_callB call_len (by rfl) T.b_len (by decide +kernel) (pa_cons (pv 1) pa_nil)) pe_int) pa_nil))))
      (Evl.pss_cut (ps_if (pt_val (pe_d D__law_rare (hr.mono (by decide)) (by rfl) (pa_cons (pv 0) (pa_cons pe_int pa_nil)))) (pss_one (ps_set (i := 7) sc__law_drawn_watch.nd rfl (Or.inl rfl) (pe_op op_add (pe_callB call_len (by rfl) T.b_len (by decide +kernel) (pa_cons (pv 1) pa_nil)) pe_int))) pss_nil)
      (pss_cons (ps_for PassesOwn.never rfl (pi_range1 (by rfl) T.b_range (pa_cons (pe_d D__law_draw (hr.mono (by decide)) (by rfl) (pa_cons (pv 0) (pa_cons (pv 7) pa_nil))) pa_nil)) (pg_name (i := 8) sc__law_drawn_watch.nd rfl (Or.inl rfl)) (pss_one (ps_expr (pe_bm PySem.F.plainAttrs_list PySem.F.slot_list_append PySem.F.type_list_append mt_append (pv 6) (pa_cons (pe_tup (pa_cons (pe_d D__law_pop (hr.mono (by decide)) (by rfl) (pa_cons (pv 0) (pa_cons (pv 5) pa_nil))) (pa_cons (pe_d D__law_draw (hr.mono (by decide)) (by rfl) (pa_cons (pv 0) (pa_cons (pv 2) pa_nil))) pa_nil))) pa_nil)))))
      (pss_one (ps_expr (pe_bm PySem.F.plainAttrs_list PySem.F.slot_list_append PySem.F.type_list_append mt_append (pv 3) (pa_cons (pe_op op_catA (pe_callTy call_tuple_of (by rfl) T.b_tuple (by decide +kernel) (pa_cons (pv 6) pa_nil)) (pe_tup (pa_cons (pe_tup (pa_cons pe_non (pa_cons (pe_d D__law_draw (hr.mono (by decide)) (by rfl) (pa_cons (pv 0) (pa_cons (pv 2) pa_nil))) pa_nil))) pa_nil))) pa_nil))))))))))
      (pss_cons (ps_set (i := 9) sc__law_drawn_watch.nd rfl (Or.inr rfl) (pe_op op_add pe_int (pe_d D__law_draw (hr.mono (by decide)) (by rfl) (pa_cons (pv 0) (pa_cons pe_int pa_nil)))))
      (pss_cons (ps_setLc (i := 10) (own := [("k", 4)]) (g := (gName 4)) rfl sc__law_drawn_watch.nd rfl rfl (sw_true rfl rfl rfl (by decide +kernel)) (pi_range1 (by rfl) T.b_range (pa_cons (pv 2) pa_nil)) (blkOk_by (N := N__law_drawn_watch) (sc := defScope s__law_drawn_watch) (by decide +kernel)) (fun _ _ _ _ _ => (pg_name (i := 4) sc__law_drawn_watch.nd rfl (Or.inl rfl))) (fun _ _ _ _ _ => (pts_one (pt_cmpR op_eq (pe_d D__law_draw (hr.mono (by decide)) (by rfl) (pa_cons (pv 0) (pa_cons (pv 9) pa_nil))) pe_int (nomark _)))) (fun _ _ _ _ _ => (pv 4)))
      (pss_one (ps_ret (pe_tup (pa_cons pe_str (pa_cons (pe_callTy call_tuple_of (by rfl) T.b_tuple (by decide +kernel) (pa_cons (pv 3) pa_nil)) (pa_cons (pe_callTy call_tuple_of (by rfl) T.b_tuple (by decide +kernel) (pa_cons (pv 10) pa_nil)) pa_nil)))))))))), ?_⟩
    refine ⟨Nat.zero_le _, fun L hL => ?_⟩
    have g1 := Go.new (o := .lst []) d hL
    have LD := (d.free hL).1
    refine ⟨_, rfl, _, rfl, by omega, by omega, for_range (lo := 0) (n := n.toNat) (fun i σ H' => ∃ (y4 y5 y6 y7 y8 : Option V) (zs : List V) (R : List (List (Str × Nat) × Nat)), σ = [some (.ref D), some (.ref m), some (.int n), some (.ref L), y4, y5, y6, y7, y8, none, none] ∧ Go S D H H' ∧ H' L = some (.lst zs) ∧ DpAll K H' zs (R.map dWr) ∧ R.length = i ∧ ∀ r ∈ R, rOk n.toNat r) ⟨_, _, _, _, _, [], [], rfl, g1, upd_same, .nil, rfl, fun _ h => absurd h List.not_mem_nil⟩ ?_ ?_⟩
    · rintro i σ H1 hi ⟨y4, y5, y6, y7, y8, zs, R, rfl, g, hL1, hzs, hR, hRr⟩
      have zl := dpA_len hzs
      rw [List.length_map] at zl
      have hm1 := g.2 _ _ hm nD
      refine ⟨_, rfl, m, _, rfl, .inl (SqL.of hm1), fun l hl => ⟨Nat.zero_le _, fun f hf => ?_⟩⟩
      have lD := (g.1.free hl).1
      have g2 := Go.new (o := .lst (ms.map V.str)) g.1 hl
      have hl2 := upd_same (H := H1) (a := l) (o := .lst (ms.map V.str))
      have lf : l ≠ f := ne_of_none hl2 hf
      have hf1 : H1 f = none := by
        rw [upd_ne lf.symm] at hf
        exact hf
      have fD := (g.1.free hf1).1
      have g3 := g2.trans (Go.new (o := .lst []) g2.1 hf)
      have hl3 := same_new (o := .lst []) hf _ _ hl2
      have hf3 := upd_same (H := upd H1 l (.lst (ms.map V.str))) (a := f) (o := .lst [])
      generalize upd (upd H1 l (.lst (ms.map V.str))) f (.lst []) = H3 at g3 hl3 hf3
      have hm3 := g3.2 _ _ hm1 nD
      refine ⟨_, rfl, _, _, rfl, .inl ⟨_, SqL.of hm3, rfl⟩, _, _, rfl, rfl, _, _, rfl, ?_⟩
      have mz : ∃ z : Int, (if ((ms.map V.str).length : Int) + 1 < 4 then ((ms.map V.str).length : Int) + 1 else 4) = z ∧ 1 ≤ z ∧ z ≤ (ms.length : Int) + 1 := ⟨_, rfl, by rw [List.length_map]; split <;> omega, by rw [List.length_map]; split <;> omega⟩
      obtain ⟨z0, ez, z1, z2⟩ := mz
      rw [ez]
      refine ⟨fun σ' H' => ∃ z : Int, σ' = [some (.ref D), some (.ref m), some (.int n), some (.ref L), some (.int (0 + (i : Int))), some (.ref l), some (.ref f), some (.int z), y8, none, none] ∧ 1 ≤ z ∧ z ≤ (ms.length : Int) + 1 ∧ Go S D H3 H', ?_, ?_⟩
      · refine ⟨_, rfl, S, D, 8, rfl, by decide, by decide, g3.1, fun H4 bb g4 => ⟨bb, rfl, ite2 (fun _ => ?_) (fun _ => ⟨_, rfl, z1, z2, g4⟩)⟩⟩
        exact ⟨_, rfl, _, _, rfl, .inl ⟨_, SqL.of (g4.2 _ _ hm3 nD), rfl⟩, _, _, rfl, rfl, _, rfl, by omega, by rw [List.length_map]; exact Int.le_refl _, g4⟩
      · rintro σ' H4 ⟨z, rfl, z1, z2, g4⟩
        have g14 := g3.trans g4
        refine ⟨_, rfl, _, rfl, S, D, z, rfl, divW_of (by omega) (by omega), g4.1, fun H5 v v0 v1 g5 => ?_⟩
        have g15 := g14.trans g5
        refine ⟨_, rfl, by omega, by omega, for_range (lo := 0) (n := v.toNat) (fun j σ H' => ∃ (y8 : Option V) (nms : List Str) (qs : List V) (r : List (Str × Nat)), σ = [some (.ref D), some (.ref m), some (.int n), some (.ref L), some (.int (0 + (i : Int))), some (.ref l), some (.ref f), some (.int z), y8, none, none] ∧ Go S D H1 H' ∧ H' l = some (.lst (nms.map V.str)) ∧ H' f = some (.lst qs) ∧ DpAll K H' qs (r.map dPr) ∧ nms.length + j = ms.length ∧ r.length = j ∧ (r.map (·.1) ++ nms).Nodup ∧ ∀ p ∈ r, p.2 < n.toNat) ⟨_, ms, [], [], rfl, g15, (g4.trans g5).2 _ _ hl3 lD, (g4.trans g5).2 _ _ hf3 fD, .nil, rfl, rfl, mnd, fun _ h => absurd h List.not_mem_nil⟩ ?_ ?_⟩
        · rintro j σ H6 hj ⟨y8, nms, qs, r, rfl, g6, hl6, hf6, hqs, nl, rl, rnd, hr6⟩
          have ql := dpA_len hqs
          rw [List.length_map] at ql
          have jl : j < ms.length := by omega
          refine ⟨_, rfl, .inl ⟨rfl, _, SqL.of hf6⟩, _, rfl, _, rfl, S, D, l, nms.map V.str, rfl, g6.1, lD, hl6, by rw [List.length_map]; omega, by rw [List.length_map]; omega, fun H7 jx x g7 hx => ?_⟩
          rw [List.getElem?_map] at hx
          obtain ⟨zz, hz, rfl⟩ := Option.map_eq_some_iff.mp hx
          have hjx := (List.getElem?_eq_some_iff.mp hz).1
          rw [list_of_map_erase]
          have k7 := Go.keepT g6.1 g7
          have hl7 := g7.2 _ _ hl6 lD
          have hf7 := g7.2 _ _ hf6 fD
          have kl := keepT_nt (o := .lst ((nms.eraseIdx jx).map V.str)) (nt_lst _) hl7
          have g8 := goU (o := .lst ((nms.eraseIdx jx).map V.str)) hl g.1 (g6.trans g7)
          have hl8 := upd_same (H := H7) (a := l) (o := .lst ((nms.eraseIdx jx).map V.str))
          have hf8 : (upd H7 l (.lst ((nms.eraseIdx jx).map V.str))) f = some (.lst qs) := by
            rw [upd_ne lf.symm]
            exact hf7
          have hqs8 := dpA_keep (k7.trans kl) _ _ (noLs_pr r) hqs
          generalize upd H7 l (.lst ((nms.eraseIdx jx).map V.str)) = H8 at g8 hl8 hf8 hqs8
          refine ⟨_, rfl, _, rfl, S, D, n, rfl, divW_of (by omega) (by omega), g8.1, fun H9 t t0 t1 g9 => ⟨by show 2 ≤ sizeLine; decide, fun pt hpt => ?_⟩⟩
          have gA := g9.trans (Go.new (o := .tup [.str zz, .int t]) g9.1 hpt)
          have hptA := upd_same (H := H9) (a := pt) (o := .tup [.str zz, .int t])
          generalize upd H9 pt (.tup [.str zz, .int t]) = HA at gA hptA
          have kA := Go.keepT g8.1 gA
          have hfA := gA.2 _ _ hf8 fD
          have hlA := gA.2 _ _ hl8 lD
          have kf := keepT_nt (o := .lst (qs ++ [.ref pt])) (nt_lst _) hfA
          have dP : Dp K HA (.ref pt) (dPr (zz, t.toNat)) := by
            have e1 : PyData.int ((t.toNat : Nat) : Int) = .int t := by rw [Int.toNat_of_nonneg t0]
            show Dp K HA (.ref pt) (.tuple [.str zz, .int ((t.toNat : Nat) : Int)])
            rw [e1]
            exact .tup (SqT.of hptA) (.cons (.str _) (.cons (.int _) .nil))
          refine ⟨f, qs, _, rfl, rfl, hfA, line6 (by omega), _, nms.eraseIdx jx, qs ++ [.ref pt], r ++ [(zz, t.toNat)], rfl, goU hf1 g.1 (g8.trans gA), ?_, upd_same, ?_, ?_, ?_, pop_nodup rnd hz, fun p hp => ?_⟩
          · rw [upd_ne lf]
            exact hlA
          · rw [List.map_append]
            exact dpA_snoc (dpA_keep kf _ _ (noLs_pr r) (dpA_keep kA _ _ (noLs_pr r) hqs8)) (dp_keep kf _ _ (dPr_noL _) dP)
          · rw [List.length_eraseIdx_of_lt hjx]
            omega
          · rw [List.length_append, rl]
            rfl
          · rcases List.mem_append.mp hp with h | h
            · exact hr6 p h
            · rw [List.mem_singleton.mp h]
              show t.toNat < n.toNat
              omega
        · rintro σ H6 ⟨y8, nms, qs, r, rfl, g6, hl6, hf6, hqs, nl, rl, rnd, hr6⟩
          have ql := dpA_len hqs
          rw [List.length_map] at ql
          have hL6 := g6.2 _ _ hL1 LD
          refine ⟨_, rfl, .inl ⟨rfl, _, SqL.of hL6⟩, _, rfl, f, qs, rfl, .inl ⟨SqL.of hf6, fun pr hpr => ?_⟩⟩
          have g7 := Go.new (o := .tup qs) g6.1 hpr
          have k7 := Go.keepT g6.1 g7
          have hpr7 := upd_same (H := H6) (a := pr) (o := .tup qs)
          have hqs7 := dpA_keep k7 _ _ (noLs_pr r) hqs
          generalize upd H6 pr (.tup qs) = H7 at g7 hpr7 hqs7 k7
          refine ⟨_, rfl, _, rfl, S, D, n, rfl, divW_of (by omega) (by omega), g7.1, fun H8 t t0 t1 g8 => ⟨by show 2 ≤ sizeLine; decide, fun p1 hp1 => ⟨by show 1 ≤ sizeLine; decide, fun p2 hp2 => ?_⟩⟩⟩
          have g9 := g8.trans (Go.new (o := .tup [.non, .int t]) g8.1 hp1)
          have hp19 := upd_same (H := H8) (a := p1) (o := .tup [.non, .int t])
          generalize upd H8 p1 (.tup [.non, .int t]) = H9 at g9 hp19 hp2
          have gA := g9.trans (Go.new (o := .tup [.ref p1]) g9.1 hp2)
          have hp1A := same_new (o := .tup [.ref p1]) hp2 _ _ hp19
          have hp2A := upd_same (H := H9) (a := p2) (o := .tup [.ref p1])
          generalize upd H9 p2 (.tup [.ref p1]) = HA at gA hp1A hp2A
          have kA := Go.keepT g7.1 gA
          have dF : Dp K HA (.ref p2) (.tuple [dFb t.toNat]) := by
            have e1 : PyData.int ((t.toNat : Nat) : Int) = .int t := by rw [Int.toNat_of_nonneg t0]
            refine .tup (SqT.of hp2A) (.cons ?_ .nil)
            show Dp K HA (.ref p1) (.tuple [.none, .int ((t.toNat : Nat) : Int)])
            rw [e1]
            exact .tup (SqT.of hp1A) (.cons .non (.cons (.int _) .nil))
          have dR : Dp K HA (.ref pr) (.tuple (r.map dPr)) := .tup (sqt_keep kA (SqT.of hpr7)) (dpA_keep kA _ _ (noLs_pr r) hqs7)
          refine catA_mono (cat_W dR dF (by rw [List.length_map]; show _ + 1 ≤ _; omega)) fun v9 HB hh => ?_
          obtain ⟨sB, hv9⟩ := hh
          have hv9 : Dp K HB v9 (dWr (r, t.toNat)) := hv9
          have gB := gA.trans (Go.same gA.1 sB)
          have g6B := g7.trans gB
          have hLB := g6B.2 _ _ hL6 LD
          have kL := keepT_nt (o := .lst (zs ++ [v9])) (nt_lst _) hLB
          have k1B := Go.keepT g.1 (g6.trans g6B)
          refine ⟨L, zs, _, rfl, rfl, hLB, line6 (by omega), _, _, _, _, _, zs ++ [v9], R ++ [(r, t.toNat)], rfl, goU hL d (g.trans (g6.trans g6B)), upd_same, ?_, by rw [List.length_append, hR]; rfl, fun x hx => ?_⟩
          · rw [List.map_append]
            exact dpA_snoc (dpA_keep kL _ _ (noLs_wr R) (dpA_keep k1B _ _ (noLs_wr R) hzs)) (dp_keep kL _ _ (dWr_noL _) hv9)
          · rcases List.mem_append.mp hx with h | h
            · exact hRr x h
            · rw [List.mem_singleton.mp h]
              exact ⟨by show r.length ≤ 20; omega, by show t.toNat < n.toNat; omega, hr6, (List.nodup_append.mp rnd).1⟩
    · rintro σ H1 ⟨y4, y5, y6, y7, y8, zs, R, rfl, g, hL1, hzs, hR, hRr⟩
      refine ⟨_, rfl, S, D, 4, rfl, divW_of (by decide) (by decide), g.1, fun H2 v v0 v1 g2 => ⟨_, _, rfl, rfl, ?_⟩⟩
      have g12 := g.trans g2
      have hL2 := g2.2 _ _ hL1 LD
      have k2 := Go.keepT g.1 g2
      have hzs2 := dpA_keep k2 _ _ (noLs_wr R) hzs
      refine ⟨_, rfl, _, rfl, by omega, by omega, fun M hM => lc_range (lo := 0) (n := n.toNat) (fun j H' => ∃ bs : List Nat, Go S D H2 H' ∧ H' M = some (.lst (bs.map vN)) ∧ bs.length ≤ j ∧ (∀ x ∈ bs, x < j) ∧ bs.Pairwise (· < ·)) ⟨[], Go.new g12.1 hM, upd_same, Nat.le_refl _, fun _ h => absurd h List.not_mem_nil, .nil⟩ ?_ ?_⟩
      · rintro j H3 hj ⟨bs, g3, hM3, bl, blt, bas⟩
        have MD := (g12.1.free hM).1
        refine ⟨rfl, _, rfl, _, rfl, S, D, _, rfl, divW_of (by omega) (by omega), g3.1, fun H4 u u0 u1 g4 => ⟨rfl, _, rfl, ite2 (fun _ => ?_) (fun _ => ?_)⟩⟩
        · refine ⟨_, rfl, _, g4.2 _ _ hM3 MD, by rw [List.length_map]; exact line6 (by omega), bs ++ [j], goU hM g12.1 (g3.trans g4), ?_, by rw [List.length_append, List.length_singleton]; omega, fun x hx => (List.mem_append.mp hx).elim (fun h => Nat.lt_succ_of_lt (blt x h)) fun h => by rw [List.mem_singleton.mp h]; exact Nat.lt_succ_self _, List.pairwise_append.mpr ⟨bas, List.pairwise_singleton _ _, fun x hx y hy => by rw [List.mem_singleton.mp hy]; exact blt x hx⟩⟩
          rw [upd_same, List.map_append, Int.zero_add]
          rfl
        · exact ⟨bs, g3.trans g4, g4.2 _ _ hM3 MD, by omega, fun x hx => Nat.lt_succ_of_lt (blt x hx), bas⟩
      · rintro H3 ⟨bs, g3, hM3, bl, blt, bas⟩
        have hL3 := g3.2 _ _ hL2 LD
        have hzs3 := dpA_keep (Go.keepT g12.1 g3) _ _ (noLs_wr R) hzs2
        have MD := (g12.1.free hM).1
        refine ⟨_, rfl, L, zs, rfl, .inl ⟨SqL.of hL3, fun pt hpt => ?_⟩⟩
        have g4 := Go.new (o := .tup zs) g3.1 hpt
        have hpt4 := upd_same (H := H3) (a := pt) (o := .tup zs)
        have hzs4 := dpA_keep (Go.keepT g3.1 g4) _ _ (noLs_wr R) hzs3
        have hM4 := same_new (o := .tup zs) hpt _ _ hM3
        generalize upd H3 pt (.tup zs) = H4 at g4 hpt4 hzs4 hM4
        refine ⟨_, rfl, M, _, rfl, .inl ⟨SqL.of hM4, fun pb hpb => ⟨by show 3 ≤ sizeLine; decide, fun pw hpw => ?_⟩⟩⟩
        have s5 := same_new (o := .tup (bs.map vN)) hpb
        have s6 := same_new (o := .tup [.str "watch", .ref pt, .ref pb]) hpw
        have hpb6 := s6 _ _ (upd_same (H := H4) (a := pb) (o := .tup (bs.map vN)))
        have s56 := s5.trans s6
        refine q _ _ ⟨R, bs⟩ (((g12.trans g3).trans g4).trans (Go.same g4.1 s56)) (.tup (SqT.of upd_same) (.cons (.str _) (.cons (.tup (SqT.of (s56 _ _ hpt4)) (dpA_same s56 _ _ hzs4)) (.cons (.tup (SqT.of hpb6) (nats_dp _)) .nil)))) ⟨by show 0 < R.length; omega, by show R.length ≤ 20; omega, by show bs.length ≤ 20; omega, fun r hr => ?_⟩ ⟨fun r hr => (hRr r hr).2.2.2, fun x hx => by have := blt x hx; show x < R.length; omega, bas⟩ hR
        have := hRr r hr
        unfold rOk at this
        show _ ∧ _ < R.length ∧ ∀ p ∈ r.1, p.2 < R.length
        rw [hR]
        exact ⟨this.1, this.2.1, this.2.2.1⟩
end
end Mt
namespace Mt
open PySem PySem.Spec PyProof.Rows L2
/-! ### data of texts, ints, None and tuples of them, not too wide -/
mutual
def pvW : PyData → Bool
  | .none => true
  | .str _ => true
  | .int _ => true
  | .tuple ds => decide (ds.length ≤ 1000) && pvWs ds
  | .bool _ => false
  | .list _ => false
  | .dict _ => false
def pvWs : List PyData → Bool
  | [] => true
  | d :: r => pvW d && pvWs r
end
mutual
def dep : PyData → Nat
  | .tuple ds => deps ds + 1
  | .none => 0
  | .str _ => 0
  | .int _ => 0
  | .bool _ => 0
  | .list _ => 0
  | .dict _ => 0
def deps : List PyData → Nat
  | [] => 0
  | d :: r => max (dep d) (deps r)
end
theorem pvWs_mem : ∀ {ds : List PyData} {d : PyData}, pvWs ds = true → d ∈ ds → pvW d = true
  | [], _, _, h => absurd h List.not_mem_nil
  | e :: r, d, h, m => by
    obtain ⟨h1, h2⟩ := Bool.and_eq_true_iff.mp (show (pvW e && pvWs r) = true from h)
    rcases List.mem_cons.mp m with k | k
    · rw [k]
      exact h1
    · exact pvWs_mem h2 k
theorem pvWs_all : ∀ {l : List PyData}, (∀ x ∈ l, pvW x = true) → pvWs l = true
  | [], _ => rfl
  | x :: r, h => by
    show (pvW x && pvWs r) = true
    rw [h x List.mem_cons_self, pvWs_all fun y hy => h y (List.mem_cons_of_mem _ hy)]
    rfl
theorem deps_mem : ∀ {ds : List PyData} {d : PyData}, d ∈ ds → dep d ≤ deps ds
  | [], _, h => absurd h List.not_mem_nil
  | e :: r, d, m => by
    show dep d ≤ max (dep e) (deps r)
    rcases List.mem_cons.mp m with k | k
    · rw [k]
      exact Nat.le_max_left _ _
    · exact Nat.le_trans (deps_mem k) (Nat.le_max_right _ _)
theorem deps_le {n : Nat} : ∀ {ds : List PyData}, (∀ d ∈ ds, dep d ≤ n) → deps ds ≤ n
  | [], _ => Nat.zero_le _
  | d :: r, h => Nat.max_le.mpr ⟨h d List.mem_cons_self, deps_le (ds := r) fun x hx => h x (List.mem_cons_of_mem _ hx)⟩
def spSm (K : PySem.W.Frag) (n : Nat) : Sp := fun vs H Q _ => ∃ (t u : V) (d : PyData), vs = [t, u] ∧ Dp K H t d ∧ Dp K H u d ∧ pvW d = true ∧ dep d < n ∧ ∀ H', Same H H' → Q (.bl true) H'
def spIsBool : Sp := fun vs H Q _ => ∃ a b : Bool, vs = [.bl a, .bl b] ∧ Q (.bl (a == b)) H
def W0 (a : Str) : Wt := ⟨[([(a, 1)], 0), ([], 1)], [1]⟩
def W1 (a b : Str) (n : Nat) : Wt := ⟨[([(a, 1)], 0)] ++ (List.range n).map (fun k => ([(b, 0)], k + 2)) ++ [([], n + 1)], [n + 1]⟩
def W2 (a b : Str) : Wt := ⟨[([(b, 1), (a, 2)], 0), ([], 1), ([], 2)], [2]⟩
theorem W0_ok (a : Str) : WtOk (W0 a) := by
  refine ⟨by show 0 < 2; decide, by show 2 ≤ 20; decide, by show 1 ≤ 20; decide, fun r hr => ?_⟩
  unfold W0 at hr ⊢
  simp only [List.mem_cons, List.not_mem_nil, or_false] at hr
  rcases hr with rfl | rfl <;> simp
theorem W2_ok (a b : Str) : WtOk (W2 a b) := by
  refine ⟨by show 0 < 3; decide, by show 3 ≤ 20; decide, by show 1 ≤ 20; decide, fun r hr => ?_⟩
  unfold W2 at hr ⊢
  simp only [List.mem_cons, List.not_mem_nil, or_false] at hr
  rcases hr with rfl | rfl | rfl <;> simp
theorem W1_ok (a b : Str) {n : Nat} (h : n ≤ 12) : WtOk (W1 a b n) := by
  have len : (W1 a b n).rows.length = n + 2 := by
    unfold W1
    rw [List.length_append, List.length_append, List.length_map, List.length_range]
    show 1 + n + 1 = n + 2
    omega
  refine ⟨by omega, by omega, by show 1 ≤ 20; decide, fun r hr => ?_⟩
  rw [len]
  unfold W1 at hr
  rcases List.mem_append.mp hr with hr | hr
  · rcases List.mem_append.mp hr with hr | hr
    · rw [List.mem_singleton.mp hr]
      refine ⟨by show 1 ≤ 20; decide, by show 0 < n + 2; omega, fun p hp => ?_⟩
      rw [List.mem_singleton.mp hp]
      show 1 < n + 2
      omega
    · obtain ⟨k, hk, rfl⟩ := List.mem_map.mp hr
      have := List.mem_range.mp hk
      refine ⟨by show 1 ≤ 20; decide, by show k + 2 < n + 2; omega, fun p hp => ?_⟩
      rw [List.mem_singleton.mp hp]
      show 0 < n + 2
      omega
  · rw [List.mem_singleton.mp hr]
    exact ⟨by show 0 ≤ 20; decide, by show n + 1 < n + 2; omega, fun p hp => absurd hp List.not_mem_nil⟩
def spNev (K : PySem.W.Frag) : Sp := fun vs H Q _ => ∃ a : Str, vs = [.str a] ∧ ∀ (H' : Hp) (v : V), Same H H' → Dp K H' v (dWt (W0 a)) → Q v H'
def spWin (K : PySem.W.Frag) : Sp := fun vs H Q _ => ∃ (a b : Str) (n : Nat), vs = [.str a, .str b, .int (n : Int)] ∧ 1 ≤ n ∧ n ≤ 12 ∧ ∀ (H' : Hp) (v : V), Same H H' → Dp K H' v (dWt (W1 a b n)) → Q v H'
def spOrd (K : PySem.W.Frag) : Sp := fun vs H Q _ => ∃ (a b : Str), vs = [.str a, .str b] ∧ ∀ (H' : Hp) (v : V), Same H H' → Dp K H' v (dWt (W2 b a)) → Q v H'
section
variable {P : Program} {w : World} {K : PySem.W.Frag} {mg : Str → Option Value} {base : Heap}
theorem ok__law_is_bool (T : Txt K mg) {f : Addr} {fd : FuncData} (F : FnP K "_law_is_bool" s__law_is_bool f fd) : FnOk P w K mg base CX0 1 f fd ["told", "due"] spIsBool := by
  refine F.ok sc__law_is_bool (fun vs H Q E h => ?_) (fun cdv A outer s H vs Q E hr h => ?_)
  · obtain ⟨a, b, rfl, _⟩ := h
    rfl
  · obtain ⟨a, b, rfl, q⟩ := h
    refine ⟨_, PSs.nox (pss_one (ps_ret (pe_and (pe_callB call_isi (by rfl) T.b_isinstance (by decide +kernel) (pa_cons (pv 0) (pa_cons (pe_bltn (v := .ty "bool") (u := .type "bool") (by rfl) T.b_bool (by decide +kernel) rfl) pa_nil))) (pe_one (pe_cmpR op_eq (pv 0) (pv 1) (nomark _)))))), ?_⟩
    refine ⟨_, rfl, _, .ty "bool", .type "bool", .type "bool", true, rfl, .ty _, .base (.bl _), kit_ty (by decide +kernel), true, rfl, ite2 (fun _ => ?_) (fun h => absurd rfl h)⟩
    refine ⟨_, rfl, _, rfl, rfl, ?_⟩
    have dec_bl : decide (V.bl a = V.bl b) = (a == b) := by cases a <;> cases b <;> rfl
    rw [dec_bl]
    exact q
theorem sm_ok (T : Txt K mg) (D__law_is_int : Kept P w K mg base 1 "_law_is_int" ["thing"] spIsInt) : ∀ (n : Nat) {f : Addr} {fd : FuncData}, FnP K "_law_same" s__law_same f fd → mg "_law_same" = some (.ref f) → Binds K fd ["told", "due"] [] → FnOk P w K mg base CX0 (n + 2) f fd ["told", "due"] (spSm K n)
  | 0, f, fd, F, hg, hb => F.ok (k := 1) sc__law_same (fun vs H Q E h => by
      obtain ⟨t, u, d, rfl, _⟩ := h
      rfl) (fun cdv A outer s H vs Q E hr h => by
      obtain ⟨t, u, d, rfl, _, _, _, h, _⟩ := h
      exact absurd h (Nat.not_lt_zero _))
  | n + 1, f, fd, F, hg, hb => by
    have D__law_same : Kept P w K mg base (n + 2) "_law_same" ["told", "due"] (spSm K n) := ⟨f, fd, sm_ok T D__law_is_int n F hg hb, hg, F.kp, hb⟩
    refine F.ok (k := n + 2) sc__law_same (fun vs H Q E h => ?_) (fun cdv A outer s H vs Q E hr h => ?_)
    · obtain ⟨t, u, d, rfl, _⟩ := h
      rfl
    · obtain ⟨t, u, d, rfl, ht, hu, hp, hn, q⟩ := h
      refine ⟨_, PSs.nox (pss_cons (ps_if (pt_val (pe_callB call_isi (by rfl) T.b_isinstance (by decide +kernel) (pa_cons (pv 1) (pa_cons (pe_bltn (v := .ty "tuple") (u := .type "tuple") (by rfl) T.b_tuple (by decide +kernel) rfl) pa_nil)))) (pss_cons (ps_if (PW.pt (pw_or (pt_not (pt_val (pe_callB call_isi (by rfl) T.b_isinstance (by decide +kernel) (pa_cons (pv 0) (pa_cons (pe_bltn (v := .ty "tuple") (u := .type "tuple") (by rfl) T.b_tuple (by decide +kernel) rfl) pa_nil))))) (pw_or1 (pt_cmpR op_ne (pe_callB call_len (by rfl) T.b_len (by decide +kernel) (pa_cons (pv 0) pa_nil)) (pe_callB call_len (by rfl) T.b_len (by decide +kernel) (pa_cons (pv 1) pa_nil)) (nomark _))))) (pss_one (ps_ret pe_bl)) pss_nil)
      (pss_one (ps_ret (pe_callB (cr_all rfl) (by rfl) T.b_all (by decide +kernel) (pa_cons (pe_lc (own := [("k", 2)]) (g := (gName 2)) (tt := tYes) rfl sc__law_same.nd (pi_range1 (by rfl) T.b_range (pa_cons (pe_callB call_len (by rfl) T.b_len (by decide +kernel) (pa_cons (pv 1) pa_nil)) pa_nil)) (blkOk_by (N := N__law_same) (sc := defScope s__law_same) (by decide +kernel)) (fun _ _ _ _ _ => (pg_name (i := 2) sc__law_same.nd rfl (Or.inl rfl))) (fun _ _ _ _ _ => pts_nil) (fun _ _ _ _ _ => (pe_d D__law_same (hr.mono (by omega)) (by rfl) (pa_cons (pe_ix (ixT (K := K) rfl) (pv 0) (pv 2) (fun _ _ => rfl)) (pa_cons (pe_ix (ixT (K := K) rfl) (pv 1) (pv 2) (fun _ _ => rfl)) pa_nil))))) pa_nil))))) pss_nil)
      (pss_cons (ps_if (pt_cmpR op_isN (pv 1) pe_non (nomark _)) (pss_one (ps_ret (pe_cmpR op_isN (pv 0) pe_non (nomark _)))) pss_nil)
      (pss_cons (ps_if (pt_val (pe_callB call_isi (by rfl) T.b_isinstance (by decide +kernel) (pa_cons (pv 1) (pa_cons (pe_bltn (v := .ty "str") (u := .type "str") (by rfl) T.b_str (by decide +kernel) rfl) pa_nil)))) (pss_one (ps_ret (pe_and (pe_callB call_isi (by rfl) T.b_isinstance (by decide +kernel) (pa_cons (pv 0) (pa_cons (pe_bltn (v := .ty "str") (u := .type "str") (by rfl) T.b_str (by decide +kernel) rfl) pa_nil))) (pe_one (pe_cmpR op_eq (pv 0) (pv 1) (nomark _)))))) pss_nil)
      (pss_one (ps_ret (pe_and (pe_d D__law_is_int (hr.mono (by omega)) (by rfl) (pa_cons (pv 0) pa_nil)) (pe_one (pe_cmpR op_eq (pv 0) (pv 1) (nomark _))))))))), ?_⟩
      match d, ht, hu, hp, hn, q with
      | .none, ht, hu, hp, hn, q =>
        obtain rfl := dp_non ht
        obtain rfl := dp_non hu
        refine ⟨_, rfl, _, .ty "tuple", .type "NoneType", .type "tuple", false, rfl, .ty _, .base .non, kit_ty (by decide +kernel), false, rfl, ite2 (fun h => (nomatch h)) (fun _ => ?_)⟩
        refine ⟨_, rfl, rfl, _, rfl, ite2 (fun _ => ?_) (fun h => absurd rfl h)⟩
        exact ⟨_, rfl, rfl, q _ (Same.refl _)⟩
      | .str z, ht, hu, hp, hn, q =>
        obtain rfl := dp_str ht
        obtain rfl := dp_str hu
        refine ⟨_, rfl, _, .ty "tuple", .type "str", .type "tuple", false, rfl, .ty _, .base (.str _), kit_ty (by decide +kernel), false, rfl, ite2 (fun h => (nomatch h)) (fun _ => ?_)⟩
        refine ⟨_, rfl, rfl, _, rfl, ite2 (fun h => (nomatch h)) (fun _ => ?_)⟩
        refine ⟨_, rfl, _, .ty "str", .type "str", .type "str", true, rfl, .ty _, .base (.str _), kit_ty (by decide +kernel), true, rfl, ite2 (fun _ => ?_) (fun h => absurd rfl h)⟩
        refine ⟨_, rfl, _, .ty "str", .type "str", .type "str", true, rfl, .ty _, .base (.str _), kit_ty (by decide +kernel), true, rfl, ite2 (fun _ => ?_) (fun h => absurd rfl h)⟩
        refine ⟨_, rfl, _, rfl, rfl, ?_⟩
        rw [decide_eq_true rfl]
        exact q _ (Same.refl _)
      | .int i, ht, hu, hp, hn, q =>
        obtain rfl := dp_int ht
        obtain rfl := dp_int hu
        refine ⟨_, rfl, _, .ty "tuple", .type "int", .type "tuple", false, rfl, .ty _, .base (.int _), kit_ty (by decide +kernel), false, rfl, ite2 (fun h => (nomatch h)) (fun _ => ?_)⟩
        refine ⟨_, rfl, rfl, _, rfl, ite2 (fun h => (nomatch h)) (fun _ => ?_)⟩
        refine ⟨_, rfl, _, .ty "str", .type "int", .type "str", false, rfl, .ty _, .base (.int _), kit_ty (by decide +kernel), false, rfl, ite2 (fun h => (nomatch h)) (fun _ => ?_)⟩
        refine ⟨_, rfl, i, rfl, true, rfl, ite2 (fun _ => ?_) (fun h => absurd rfl h)⟩
        refine ⟨_, rfl, _, rfl, rfl, ?_⟩
        rw [decide_eq_true rfl]
        exact q _ (Same.refl _)
      | .tuple ds, ht, hu, hp, hn, q =>
        obtain ⟨pt, xs, rfl, hpt, hA⟩ := dp_tup ht
        obtain ⟨pu, ys, rfl, hpu, hB⟩ := dp_tup hu
        have xl := dpA_len hA
        have yl := dpA_len hB
        obtain ⟨hw, hp⟩ := Bool.and_eq_true_iff.mp (show (decide (ds.length ≤ 1000) && pvWs ds) = true from hp)
        have hw := of_decide_eq_true hw
        have hdd : deps ds < n := by
          have : deps ds + 1 < n + 1 := hn
          omega
        refine ⟨_, rfl, _, .ty "tuple", .type "tuple", .type "tuple", true, rfl, .ty _, sqt_ty hpu, kit_ty (by decide +kernel), true, rfl, ite2 (fun _ => ?_) (fun h => absurd rfl h)⟩
        refine ⟨_, rfl, _, .ty "tuple", .type "tuple", .type "tuple", true, rfl, .ty _, sqt_ty hpt, kit_ty (by decide +kernel), true, rfl, ite2 (fun h => (nomatch (show false = true from h))) (fun _ => ?_)⟩
        refine ⟨_, rfl, _, _, rfl, .inr ⟨_, hpt, rfl⟩, _, rfl, _, _, rfl, .inr ⟨_, hpu, rfl⟩, rfl, ?_⟩
        rw [xl, yl, decide_eq_true rfl]
        refine ⟨_, rfl, ite2 (fun h => (nomatch (show false = true from h))) (fun _ => ?_)⟩
        refine ⟨_, rfl, _, _, rfl, .inr ⟨_, hpu, rfl⟩, _, rfl, by omega, by omega, fun L hL => lc_range (lo := 0) (n := ys.length) (fun i H' => Same H H' ∧ H' L = some (.lst ((List.replicate i true).map V.bl))) ⟨same_new hL, upd_same⟩ ?_ ?_⟩
        · rintro i H1 hi ⟨s1, hL1⟩
          have hi' : i < ds.length := by omega
          have hdi : ds[i]? = some ds[i] := List.getElem?_eq_getElem hi'
          generalize ds[i] = d at hdi
          have hm := List.mem_of_getElem? hdi
          have h4 := deps_mem hm
          have ex : xs[i]? = some (xs[i]'(by omega)) := List.getElem?_eq_getElem _
          have ey : ys[i]? = some (ys[i]'(by omega)) := List.getElem?_eq_getElem _
          generalize xs[i]'(by omega) = x at ex
          generalize ys[i]'(by omega) = y at ey
          obtain ⟨d1, hd1, hx⟩ := dpA_at hA ex
          obtain ⟨d2, hd2, hy⟩ := dpA_at hB ey
          rw [hdi] at hd1 hd2
          cases hd1
          cases hd2
          refine ⟨rfl, _, rfl, _, rfl, pt, _, _, _, rfl, rfl, same_t s1 hpt, (by rw [Int.zero_add]; exact atI_nat ex), _, rfl, _, rfl, pu, _, _, _, rfl, rfl, same_t s1 hpu, (by rw [Int.zero_add]; exact atI_nat ey), x, y, d, rfl, dp_same s1 _ _ hx, dp_same s1 _ _ hy, pvWs_mem hp hm, by omega, fun H2 s2 => ⟨_, s2 _ _ hL1, by rw [List.length_map, List.length_replicate]; exact line6 (by omega), same_mut (s1.trans s2) hL, ?_⟩⟩
          rw [upd_same, List.replicate_succ', List.map_append]
          rfl
        · rintro H1 ⟨s1, hL1⟩
          refine ⟨L, List.replicate ys.length true, rfl, SqL.of hL1, ?_⟩
          rw [show (List.replicate ys.length true).all id = true from by simp]
          exact q _ s1
      | .bool _, _, _, hp, _, _ => nomatch hp
      | .list _, _, _, hp, _, _ => nomatch hp
      | .dict _, _, _, hp, _, _ => nomatch hp
theorem ok_never (T : Txt K mg) {f : Addr} {fd : FuncData} (F : FnP K "never" s_never f fd) : FnOk P w K mg base CX0 1 f fd ["mark"] (spNev K) := by
  refine F.ok sc_never (fun vs H Q E h => ?_) (fun cdv A outer s H vs Q E hr h => ?_)
  · obtain ⟨a, rfl, _⟩ := h
    rfl
  · obtain ⟨a, rfl, q⟩ := h
    refine ⟨_, PSs.nox (pss_one (ps_ret (pe_tup (pa_cons pe_str (pa_cons (pe_tup (pa_cons (pe_tup (pa_cons (pe_tup (pa_cons (pv 0) (pa_cons pe_int pa_nil))) (pa_cons (pe_tup (pa_cons pe_non (pa_cons pe_int pa_nil))) pa_nil))) (pa_cons (pe_tup (pa_cons (pe_tup (pa_cons pe_non (pa_cons pe_int pa_nil))) pa_nil)) pa_nil))) (pa_cons (pe_tup (pa_cons pe_int pa_nil)) pa_nil)))))), ?_⟩
    refine ⟨_, rfl, z2, fun p1 h1 => ⟨z2, fun p2 h2 => ⟨z2, fun p3 h3 => ⟨z2, fun p4 h4 => ⟨z1, fun p5 h5 => ⟨z2, fun p6 h6 => ⟨z1, fun p7 h7 => ⟨z3, fun p8 h8 => ?_⟩⟩⟩⟩⟩⟩⟩⟩
    obtain ⟨s1, d1⟩ := new_tup (K := K) (ds := [.str a, .int 1]) h1 (.cons (.str _) (.cons (.int _) .nil))
    obtain ⟨s2, d2⟩ := new_tup (K := K) (ds := [.none, .int 0]) h2 (.cons .non (.cons (.int _) .nil))
    obtain ⟨s3, d3⟩ := new_tup (K := K) h3 (.cons (dp_same s2 _ _ d1) (.cons d2 .nil))
    obtain ⟨s4, d4⟩ := new_tup (K := K) (ds := [.none, .int 1]) h4 (.cons .non (.cons (.int _) .nil))
    obtain ⟨s5, d5⟩ := new_tup (K := K) h5 (.cons d4 .nil)
    obtain ⟨s6, d6⟩ := new_tup (K := K) h6 (.cons (dp_same (s4.trans s5) _ _ d3) (.cons d5 .nil))
    obtain ⟨s7, d7⟩ := new_tup (K := K) (ds := [.int 1]) h7 (.cons (.int _) .nil)
    obtain ⟨s8, d8⟩ := new_tup (K := K) h8 (.cons (.str "watch") (.cons (dp_same s7 _ _ d6) (.cons d7 .nil)))
    exact q _ _ (s1.trans (s2.trans (s3.trans (s4.trans (s5.trans (s6.trans (s7.trans s8))))))) d8
theorem ok_order (T : Txt K mg) {f : Addr} {fd : FuncData} (F : FnP K "order" s_order f fd) : FnOk P w K mg base CX0 1 f fd ["first", "second"] (spOrd K) := by
  refine F.ok sc_order (fun vs H Q E h => ?_) (fun cdv A outer s H vs Q E hr h => ?_)
  · obtain ⟨a, b, rfl, _⟩ := h
    rfl
  · obtain ⟨a, b, rfl, q⟩ := h
    refine ⟨_, PSs.nox (pss_one (ps_ret (pe_tup (pa_cons pe_str (pa_cons (pe_tup (pa_cons (pe_tup (pa_cons (pe_tup (pa_cons (pv 0) (pa_cons pe_int pa_nil))) (pa_cons (pe_tup (pa_cons (pv 1) (pa_cons pe_int pa_nil))) (pa_cons (pe_tup (pa_cons pe_non (pa_cons pe_int pa_nil))) pa_nil)))) (pa_cons (pe_tup (pa_cons (pe_tup (pa_cons pe_non (pa_cons pe_int pa_nil))) pa_nil)) (pa_cons (pe_tup (pa_cons (pe_tup (pa_cons pe_non (pa_cons pe_int pa_nil))) pa_nil)) pa_nil)))) (pa_cons (pe_tup (pa_cons pe_int pa_nil)) pa_nil)))))), ?_⟩
    refine ⟨_, rfl, z2, fun p1 h1 => ⟨_, rfl, z2, fun p2 h2 => ⟨z2, fun p3 h3 => ⟨z3, fun p4 h4 => ⟨z2, fun p5 h5 => ⟨z1, fun p6 h6 => ⟨z2, fun p7 h7 => ⟨z1, fun p8 h8 => ⟨z3, fun p9 h9 => ⟨z1, fun pA hA => ⟨z3, fun pB hB => ?_⟩⟩⟩⟩⟩⟩⟩⟩⟩⟩⟩
    obtain ⟨s1, d1⟩ := new_tup (K := K) (ds := [.str a, .int 1]) h1 (.cons (.str _) (.cons (.int _) .nil))
    obtain ⟨s2, d2⟩ := new_tup (K := K) (ds := [.str b, .int 2]) h2 (.cons (.str _) (.cons (.int _) .nil))
    obtain ⟨s3, d3⟩ := new_tup (K := K) (ds := [.none, .int 0]) h3 (.cons .non (.cons (.int _) .nil))
    obtain ⟨s4, d4⟩ := new_tup (K := K) h4 (.cons (dp_same (s2.trans s3) _ _ d1) (.cons (dp_same s3 _ _ d2) (.cons d3 .nil)))
    obtain ⟨s5, d5⟩ := new_tup (K := K) (ds := [.none, .int 1]) h5 (.cons .non (.cons (.int _) .nil))
    obtain ⟨s6, d6⟩ := new_tup (K := K) h6 (.cons d5 .nil)
    obtain ⟨s7, d7⟩ := new_tup (K := K) (ds := [.none, .int 2]) h7 (.cons .non (.cons (.int _) .nil))
    obtain ⟨s8, d8⟩ := new_tup (K := K) h8 (.cons d7 .nil)
    have s58 := s5.trans (s6.trans (s7.trans s8))
    obtain ⟨s9, d9⟩ := new_tup (K := K) h9 (.cons (dp_same s58 _ _ d4) (.cons (dp_same (s7.trans s8) _ _ d6) (.cons d8 .nil)))
    obtain ⟨sA, dA⟩ := new_tup (K := K) (ds := [.int 2]) hA (.cons (.int _) .nil)
    obtain ⟨sB, dB⟩ := new_tup (K := K) hB (.cons (.str "watch") (.cons (dp_same sA _ _ d9) (.cons dA .nil)))
    exact q _ _ (s1.trans (s2.trans (s3.trans (s4.trans (s58.trans (s9.trans (sA.trans sB))))))) dB
end
end Mt
namespace Mt
open PySem PySem.Spec PyProof.Rows L2
section
variable {P : Program} {w : World} {K : PySem.W.Frag} {mg : Str → Option Value} {base : Heap}
theorem ok_within (T : Txt K mg) {f : Addr} {fd : FuncData} (F : FnP K "within" s_within f fd) : FnOk P w K mg base CX0 1 f fd ["cause", "effect", "n"] (spWin K) := by
  refine F.ok sc_within (fun vs H Q E h => ?_) (fun cdv A outer s H vs Q E hr h => ?_)
  · obtain ⟨a, b, n, rfl, _⟩ := h
    rfl
  · obtain ⟨a, b, n, rfl, n1, n12, q⟩ := h
    refine ⟨_, PSs.nox (pss_cons (ps_set (i := 3) sc_within.nd rfl (Or.inl rfl) (pe_lst (pa_cons (pe_tup (pa_cons (pe_tup (pa_cons (pv 0) (pa_cons pe_int pa_nil))) (pa_cons (pe_tup (pa_cons pe_non (pa_cons pe_int pa_nil))) pa_nil))) pa_nil)))
      (pss_cons (ps_for PassesOwn.never rfl (pi_range2 (by rfl) T.b_range (pa_cons pe_int (pa_cons (pe_op op_add (pv 2) pe_int) pa_nil))) (pg_name (i := 4) sc_within.nd rfl (Or.inl rfl)) (pss_one (ps_expr (pe_bm PySem.F.plainAttrs_list PySem.F.slot_list_append PySem.F.type_list_append mt_append (pv 3) (pa_cons (pe_tup (pa_cons (pe_tup (pa_cons (pv 1) (pa_cons pe_int pa_nil))) (pa_cons (pe_tup (pa_cons pe_non (pa_cons (pe_op op_add (pv 4) pe_int) pa_nil))) pa_nil))) pa_nil)))))
      (pss_cons (ps_expr (pe_bm PySem.F.plainAttrs_list PySem.F.slot_list_append PySem.F.type_list_append mt_append (pv 3) (pa_cons (pe_tup (pa_cons (pe_tup (pa_cons pe_non (pa_cons (pe_op op_add (pv 2) pe_int) pa_nil))) pa_nil)) pa_nil)))
      (pss_one (ps_ret (pe_tup (pa_cons pe_str (pa_cons (pe_callTy call_tuple_of (by rfl) T.b_tuple (by decide +kernel) (pa_cons (pv 3) pa_nil)) (pa_cons (pe_tup (pa_cons (pe_op op_add (pv 2) pe_int) pa_nil)) pa_nil))))))))), ?_⟩
    refine ⟨_, rfl, z2, fun p1 h1 => ⟨z2, fun p2 h2 => ⟨z2, fun p3 h3 => ⟨z1, fun L hL => ?_⟩⟩⟩⟩
    obtain ⟨s1, d1⟩ := new_tup (K := K) (ds := [.str a, .int 1]) h1 (.cons (.str _) (.cons (.int _) .nil))
    obtain ⟨s2, d2⟩ := new_tup (K := K) (ds := [.none, .int 0]) h2 (.cons .non (.cons (.int _) .nil))
    obtain ⟨s3, d3⟩ := new_tup (K := K) h3 (.cons (dp_same s2 _ _ d1) (.cons d2 .nil))
    have s13 := s1.trans (s2.trans s3)
    have L0 : H L = none := s13.free hL
    have s4 := same_new (o := .lst [.ref p3]) hL
    have e4 := upd_same (H := upd (upd (upd H p1 (.tup [.str a, .int 1])) p2 (.tup [.non, .int 0])) p3 (.tup [.ref p1, .ref p2])) (a := L) (o := .lst [.ref p3])
    have d4 := dp_same s4 _ _ d3
    have s14 := s13.trans s4
    generalize upd (upd (upd (upd H p1 (.tup [.str a, .int 1])) p2 (.tup [.non, .int 0])) p3 (.tup [.ref p1, .ref p2])) L (.lst [.ref p3]) = H4 at e4 d4 s14
    refine ⟨_, rfl, _, _, rfl, rfl, ?_⟩
    refine ⟨1, (n : Int) + 1, rfl, ⟨by omega, by omega, by omega, by omega⟩, ?_⟩
    rw [show ((n : Int) + 1 - 1).toNat = n by omega]
    have dfst : Dp K H4 (.ref p3) (dWr ([(a, 1)], 0)) := d4
    refine for_range (lo := 1) (n := n) (fun i σ H' => ∃ (y4 : Option V) (zs : List V), σ = [some (.str a), some (.str b), some (.int (n : Int)), some (.ref L), y4] ∧ Same H H' ∧ H' L = some (.lst zs) ∧ DpAll K H' zs (([([(a, 1)], 0)] ++ (List.range i).map fun k => ([(b, 0)], k + 2)).map dWr)) ⟨_, _, rfl, s14, e4, .cons dfst .nil⟩ ?_ ?_
    · rintro i σ H5 hi ⟨y4, zs, rfl, s5, hL5, hzs⟩
      have zl := dpA_len hzs
      rw [List.length_map, List.length_append, List.length_map, List.length_range] at zl
      refine ⟨_, rfl, .inl ⟨rfl, _, SqL.of hL5⟩, _, rfl, z2, fun p4 h4 => ⟨_, rfl, _, _, rfl, rfl, z2, fun p5 h5 => ⟨z2, fun p6 h6 => ?_⟩⟩⟩
      obtain ⟨t1, c1⟩ := new_tup (K := K) (ds := [.str b, .int 0]) h4 (.cons (.str _) (.cons (.int _) .nil))
      obtain ⟨t2, c2⟩ := new_tup (K := K) (ds := [.none, .int (1 + (i : Int) + 1)]) h5 (.cons .non (.cons (.int _) .nil))
      obtain ⟨t3, c3⟩ := new_tup (K := K) h6 (.cons (dp_same t2 _ _ c1) (.cons c2 .nil))
      have t13 := t1.trans (t2.trans t3)
      have ed : PyData.tuple [.tuple [.str b, .int 0], .tuple [.none, .int (1 + (i : Int) + 1)]] = dWr ([(b, 0)], i + 2) := by
        show _ = PyData.tuple [.tuple [.str b, .int ((0 : Nat) : Int)], .tuple [.none, .int ((i + 2 : Nat) : Int)]]
        rw [show ((i + 2 : Nat) : Int) = 1 + (i : Int) + 1 by omega]
        rfl
      rw [ed] at c3
      have hL6 := t13 _ _ hL5
      have hzs6 := dpA_same t13 _ _ hzs
      generalize upd (upd (upd H5 p4 _) p5 _) p6 _ = H6 at t13 c3 hL6 hzs6
      have kL := keepT_nt (o := .lst (zs ++ [.ref p6])) (nt_lst _) hL6
      refine ⟨L, zs, _, rfl, rfl, hL6, line6 (by show zs.length < _; rw [zl]; show 1 + i < _; omega), _, zs ++ [.ref p6], rfl, same_mut (s5.trans t13) L0, upd_same, ?_⟩
      have er : ([([(a, 1)], 0)] ++ (List.range (i + 1)).map fun k => ([(b, 0)], k + 2) : List (List (Str × Nat) × Nat)) = ([([(a, 1)], 0)] ++ (List.range i).map fun k => ([(b, 0)], k + 2)) ++ [([(b, 0)], i + 2)] := by
        rw [List.range_succ, List.map_append, List.append_assoc]
        rfl
      rw [er, List.map_append]
      exact dpA_snoc (dpA_keep kL _ _ (noLs_wr _) hzs6) (dp_keep kL _ _ (dWr_noL _) c3)
    · rintro σ H5 ⟨y4, zs, rfl, s5, hL5, hzs⟩
      have zl := dpA_len hzs
      rw [List.length_map, List.length_append, List.length_map, List.length_range] at zl
      refine ⟨_, rfl, .inl ⟨rfl, _, SqL.of hL5⟩, _, rfl, _, _, rfl, rfl, z2, fun p5 h5 => ⟨z1, fun p6 h6 => ?_⟩⟩
      obtain ⟨t2, c2⟩ := new_tup (K := K) (ds := [.none, .int ((n : Int) + 1)]) h5 (.cons .non (.cons (.int _) .nil))
      obtain ⟨t3, c3⟩ := new_tup (K := K) h6 (.cons c2 .nil)
      have t13 := t2.trans t3
      have ed : PyData.tuple [.tuple [.none, .int ((n : Int) + 1)]] = dWr ([], n + 1) := rfl
      rw [ed] at c3
      have hL6 := t13 _ _ hL5
      have hzs6 := dpA_same t13 _ _ hzs
      generalize upd (upd H5 p5 _) p6 _ = H6 at t13 c3 hL6 hzs6
      have kL := keepT_nt (o := .lst (zs ++ [.ref p6])) (nt_lst _) hL6
      refine ⟨L, zs, _, rfl, rfl, hL6, line6 (by rw [zl]; show 1 + n < _; omega), ?_⟩
      have hA7 : DpAll K (upd H6 L (.lst (zs ++ [.ref p6]))) (zs ++ [.ref p6]) ((W1 a b n).rows.map dWr) := by
        unfold W1
        rw [List.map_append (l₂ := [([], n + 1)])]
        exact dpA_snoc (dpA_keep kL _ _ (noLs_wr _) hzs6) (dp_keep kL _ _ (dWr_noL _) c3)
      have s7 : Same H (upd H6 L (.lst (zs ++ [.ref p6]))) := same_mut (s5.trans t13) L0
      refine ⟨_, rfl, L, _, rfl, .inl ⟨SqL.of upd_same, fun pq hpq => ⟨_, rfl, _, _, rfl, rfl, z1, fun pb hpb => ⟨z3, fun pw hpw => ?_⟩⟩⟩⟩
      obtain ⟨u1, f1⟩ := new_tup (K := K) hpq hA7
      obtain ⟨u2, f2⟩ := new_tup (K := K) (ds := [.int ((n : Int) + 1)]) hpb (.cons (.int _) .nil)
      obtain ⟨u3, f3⟩ := new_tup (K := K) hpw (.cons (.str "watch") (.cons (dp_same u2 _ _ f1) (.cons f2 .nil)))
      exact q _ _ (s7.trans (u1.trans (u2.trans u3))) f3
end
end Mt
namespace Mt
open PySem PySem.Spec PyProof.Rows L2
/-! ### a watch along rows of marks -/
def wgS (W : Wt) (st : Nat × Bool) (sh : List Str) : Nat × Bool := (wStep W st.1 sh, st.2 || decide (wStep W st.1 sh ∈ W.bad))
def wFS (W : Wt) (l : List (List Str)) : Nat × Bool := l.foldl (wgS W) (0, decide (0 ∈ W.bad))
theorem wFS_snoc {W : Wt} {l : List (List Str)} {i : Nat} {b : List Str} (h : l[i]? = some b) : wFS W (l.take (i + 1)) = wgS W (wFS W (l.take i)) b := by
  unfold wFS
  rw [take_snoc h, List.foldl_append]
  rfl
def dues (W : Wt) (sss : List (List Str)) : List Bool := (List.range sss.length).map fun k => (wFS W (sss.take (k + 1))).2
theorem dues_at {W : Wt} {sss : List (List Str)} {k : Nat} (h : k < sss.length) : (dues W sss)[k]? = some (wFS W (sss.take (k + 1))).2 := by
  unfold dues
  rw [List.getElem?_map, List.getElem?_range h]
  rfl
theorem dues_len (W : Wt) (sss : List (List Str)) : (dues W sss).length = sss.length := by
  unfold dues
  rw [List.length_map, List.length_range]
/-- rows of marks, a list -/
structure RowsAt (K : PySem.W.Frag) (H : Hp) (L : Addr) (sss : List (List Str)) : Prop where
  l : ∃ zs, SqL K H L zs ∧ DpAll K H zs (sss.map dSh)
  few : sss.length ≤ 100
  each : ∀ s ∈ sss, s.length ≤ 6
theorem RowsAt.same {K : PySem.W.Frag} {H H' : Hp} {L : Addr} {sss : List (List Str)} (s : Same H H') (h : RowsAt K H L sss) : RowsAt K H' L sss := by
  obtain ⟨zs, h1, h2⟩ := h.l
  exact ⟨⟨zs, same_l s h1, dpA_same s _ _ h2⟩, h.few, h.each⟩
theorem wF_lt {W : Wt} (ok : WtOk W) (l : List (List Str)) : (wFS W l).1 < W.rows.length := by
  have key : ∀ (l : List (List Str)) (st : Nat × Bool), st.1 < W.rows.length → (l.foldl (wgS W) st).1 < W.rows.length := by
    intro l
    induction l with
    | nil => exact fun st h => h
    | cons x r ih => exact fun st h => ih _ (wStep_lt ok h x)
  exact key l _ ok.pos
def spBrW (K : PySem.W.Frag) : Sp := fun vs H Q _ => ∃ (vw : V) (Lr Ld : Addr) (W : Wt) (sss : List (List Str)), vs = [vw, .ref Lr, .ref Ld] ∧ Dp K H vw (dWt W) ∧ WtOk W ∧ 0 ∉ W.bad ∧ RowsAt K H Lr sss ∧ SqL K H Ld ((dues W sss).map V.bl) ∧ ∀ H', Same H H' → Q (.bl true) H'
section
variable {P : Program} {w : World} {K : PySem.W.Frag} {mg : Str → Option Value} {base : Heap}
theorem ok__law_breaks_where (T : Txt K mg) (D__law_is_bool : Kept P w K mg base 1 "_law_is_bool" ["told", "due"] spIsBool) {Cw fI fC pB gB : Addr} {fdI fdB : FuncData} (Wc : Wch P w K mg base Cw fI fC pB gB fdI fdB) {f : Addr} {fd : FuncData} (F : FnP K "_law_breaks_where" s__law_breaks_where f fd) : FnOk P w K mg base CX0 3 f fd ["watch", "rows", "due"] (spBrW K) := by
  refine F.ok sc__law_breaks_where (fun vs H Q E h => ?_) (fun cdv A outer s H vs Q E hr h => ?_)
  · obtain ⟨vw, Lr, Ld, W, sss, rfl, _⟩ := h
    rfl
  · obtain ⟨vw, Lr, Ld, W, sss, rfl, hW, okw, n0, hR, hD, q⟩ := h
    refine ⟨_, PSs.nox (pss_cons (ps_set (i := 3) sc__law_breaks_where.nd rfl (Or.inl rfl) (pe_make Wc.mk_ Wc.fI_ hr (by rfl) Wc.mgC Wc.bI .nil pass0 (pa_cons (pv 0) pa_nil)))
      (pss_cons (ps_if (pt_not (pt_val (pe_d D__law_is_bool (hr.mono (by decide)) (by rfl) (pa_cons (pe_prop (pv 3) Wc.cl Wc.pr Wc.fB_ hr Wc.bB .nil pass0 rfl) (pa_cons pe_bl pa_nil))))) (pss_one (ps_ret pe_bl)) pss_nil)
      (pss_cons (ps_for PassesOwn.never rfl (pi_range1 (by rfl) T.b_range (pa_cons (pe_callB call_len (by rfl) T.b_len (by decide +kernel) (pa_cons (pv 1) pa_nil)) pa_nil)) (pg_name (i := 4) sc__law_breaks_where.nd rfl (Or.inl rfl)) (pss_cons (ps_expr (StX.pe_callO (pv 3) Wc.call Wc.fC_ hr pass0 (pa_cons (pe_ix ix_list (pv 1) (pv 4) (fun _ _ => rfl)) pa_nil)))
      (pss_one (ps_if (pt_not (pt_val (pe_d D__law_is_bool (hr.mono (by decide)) (by rfl) (pa_cons (pe_prop (pv 3) Wc.cl Wc.pr Wc.fB_ hr Wc.bB .nil pass0 rfl) (pa_cons (pe_ix ix_list (pv 2) (pv 4) (fun _ _ => rfl)) pa_nil))))) (pss_one (ps_ret pe_bl)) pss_nil))))
      (pss_one (ps_ret pe_bl))))), ?_⟩
    refine ⟨_, rfl, fun p dx hp hdx ne => ?_⟩
    have s2 : Same H (upd (upd H dx (.own p)) p (.ins Cw dx [])) := same_mut (same_new hdx) hp
    refine ⟨p, dx, vw, W, rfl, upd_same, dp_same s2 _ _ hW, fun H2 k2 hp2 => ⟨rfl, ?_⟩⟩
    have s12 : Same H H2 := fun x o e => k2 x o (s2 x o e) (ne_of_none e hp)
    refine ⟨_, rfl, p, dx, _, rfl, hp2, p, dx, _, _, rfl, hp2, wf_b _ _ _, _, _, rfl, ?_⟩
    rw [decide_eq_false n0]
    refine ⟨_, rfl, ite2 (fun h => (nomatch (show false = true from h))) (fun _ => ?_)⟩
    have n0' : decide (0 ∈ W.bad) = false := decide_eq_false n0
    obtain ⟨zs, hz, hA⟩ := hR.l
    have zl := dpA_len hA
    rw [List.length_map] at zl
    have few := hR.few
    refine ⟨_, rfl, _, _, rfl, .inl ⟨_, same_l s12 hz, rfl⟩, _, rfl, by omega, by omega, for_range (lo := 0) (n := zs.length) (fun i σ H' => ∃ y4 : Option V, σ = [some vw, some (.ref Lr), some (.ref Ld), some (.ref p), y4] ∧ Same H H' ∧ H' p = some (.ins Cw dx (wf vw (wFS W (sss.take i)).1 (wFS W (sss.take i)).2))) ⟨_, rfl, s12, hp2⟩ ?_ ?_⟩
    · rintro i σ H3 hi ⟨y4, rfl, s3, hp3⟩
      have hi' : i < sss.length := by omega
      have er : sss[i]? = some sss[i] := List.getElem?_eq_getElem hi'
      generalize sss[i] = sh at er
      obtain ⟨x, hx, dx'⟩ := dpA_get hA er
      refine ⟨_, rfl, p, rfl, _, rfl, _, rfl, Lr, _, _, _, rfl, rfl, same_l s3 hz, (by rw [Int.zero_add]; exact atI_nat hx), .inr ⟨_, _, hp3⟩, ?_⟩
      refine ⟨p, dx, vw, x, W, _, _, sh, rfl, hp3, dp_same s3 _ _ hW, okw, wF_lt okw _, dp_same s3 _ _ dx', fun H4 k4 hp4 => ?_⟩
      have s4 : Same H H4 := fun x o e => k4 x o (s3 x o e) (ne_of_none e hp)
      have e4 : wFS W (sss.take (i + 1)) = wgS W (wFS W (sss.take i)) sh := wFS_snoc er
      have hp4' : H4 p = some (.ins Cw dx (wf vw (wFS W (sss.take (i + 1))).1 (wFS W (sss.take (i + 1))).2)) := by
        rw [e4]
        exact hp4
      have hd : ((dues W sss).map V.bl)[i]? = some (V.bl (wFS W (sss.take (i + 1))).2) := by
        rw [List.getElem?_map, dues_at hi']
        rfl
      refine ⟨_, rfl, p, dx, _, rfl, hp4', p, dx, _, _, rfl, hp4', wf_b _ _ _, _, rfl, _, rfl, Ld, _, _, _, rfl, rfl, same_l s4 hD, (by rw [Int.zero_add]; exact atI_nat hd), _, _, rfl, ?_⟩
      rw [beq_self_eq_true]
      exact ⟨_, rfl, ite2 (fun h => (nomatch (show false = true from h))) (fun _ => ⟨_, rfl, s4, hp4'⟩)⟩
    · rintro σ H3 ⟨y4, rfl, s3, hp3⟩
      exact q _ s3
end
end Mt
namespace Mt
open PySem PySem.Spec PyProof.Rows L2
theorem wStep_of {W : Wt} {p : Nat} {r : List (Str × Nat) × Nat} (h : W.rows[p]? = some r) (sh : List Str) : wStep W p sh = wTo r sh := by
  unfold wStep wRow
  rw [h]
  rfl
theorem wTo0 (t : Nat) (sh : List Str) : wTo ([], t) sh = t := rfl
theorem wTo1 (m : Str) (t1 t : Nat) (sh : List Str) : wTo ([(m, t1)], t) sh = if m ∈ sh then t1 else t := by
  unfold wTo
  by_cases h : m ∈ sh
  · rw [if_pos h, List.find?_cons_of_pos (by show decide (m ∈ sh) = true; exact decide_eq_true h)]
  · rw [if_neg h, List.find?_cons_of_neg (by show ¬ decide (m ∈ sh) = true; simp [h]), List.find?_nil]
theorem wTo2 (m k : Str) (t1 t2 t : Nat) (sh : List Str) : wTo ([(m, t1), (k, t2)], t) sh = if m ∈ sh then t1 else if k ∈ sh then t2 else t := by
  unfold wTo
  by_cases h : m ∈ sh
  · rw [if_pos h, List.find?_cons_of_pos (by show decide (m ∈ sh) = true; exact decide_eq_true h)]
  · rw [if_neg h, List.find?_cons_of_neg (by show ¬ decide (m ∈ sh) = true; simp [h])]
    exact wTo1 k t2 t sh
/-- one sign met -/
theorem W0_st (a : Str) (b : Bool) (sh : List Str) : wgS (W0 a) (if b = true then 1 else 0, b) sh = (if (b || decide (a ∈ sh)) = true then 1 else 0, b || decide (a ∈ sh)) := by
  cases b with
  | true =>
    show (wStep (W0 a) 1 sh, true || _) = (1, true)
    rw [wStep_of (r := ([], 1)) rfl, wTo0]
    rfl
  | false =>
    show (wStep (W0 a) 0 sh, false || decide (wStep (W0 a) 0 sh ∈ [1])) = (if (false || decide (a ∈ sh)) = true then 1 else 0, false || decide (a ∈ sh))
    rw [wStep_of (r := ([(a, 1)], 0)) rfl, wTo1]
    by_cases h : a ∈ sh
    · rw [if_pos h, decide_eq_true h]
      rfl
    · rw [if_neg h, decide_eq_false h]
      rfl
theorem W1_at (a b : Str) {n j : Nat} (h : j < n) : (W1 a b n).rows[j + 1]? = some ([(b, 0)], j + 2) := by
  unfold W1
  rw [List.getElem?_append_left (by rw [List.length_append, List.length_map, List.length_range]; show j + 1 < 1 + n; omega), List.getElem?_append_right (by show 1 ≤ j + 1; omega)]
  show ((List.range n).map _)[j + 1 - 1]? = _
  rw [Nat.add_sub_cancel, List.getElem?_map, List.getElem?_range h]
  rfl
theorem W1_last (a b : Str) (n : Nat) : (W1 a b n).rows[n + 1]? = some ([], n + 1) := by
  unfold W1
  have e : ([([(a, 1)], 0)] ++ (List.range n).map (fun k => ([(b, 0)], k + 2)) : List (List (Str × Nat) × Nat)).length = n + 1 := by
    rw [List.length_append, List.length_map, List.length_range]
    show 1 + n = n + 1
    omega
  rw [List.getElem?_append_right (by rw [e]; exact Nat.le_refl _), e, Nat.sub_self]
  rfl
/-- waiting: the count, fell -/
def RL (n : Nat) (wt : Option Nat) (b : Bool) (st : Nat × Bool) : Prop := (b = true ∧ st = (n + 1, true)) ∨ (b = false ∧ ((wt = none ∧ st = (0, false)) ∨ ∃ j, wt = some j ∧ j < n ∧ st = (j + 1, false)))
theorem W1_in (a b : Str) (n : Nat) (k : Nat) : decide (k ∈ (W1 a b n).bad) = decide (k = n + 1) := by
  show decide (k ∈ [n + 1]) = _
  rw [Bool.eq_iff_iff, decide_eq_true_eq, decide_eq_true_eq, List.mem_singleton]
theorem RL_fell {a b : Str} {n : Nat} {wt wt' : Option Nat} {st : Nat × Bool} {sh : List Str} (h : RL n wt true st) : RL n wt' true (wgS (W1 a b n) st sh) := by
  rcases h with ⟨_, rfl⟩ | ⟨h, _⟩
  · refine .inl ⟨rfl, ?_⟩
    show (wStep (W1 a b n) (n + 1) sh, true || _) = _
    rw [wStep_of (W1_last a b n), wTo0]
    rfl
  · cases h
theorem RL_start {a b : Str} {n : Nat} {f : Bool} {st : Nat × Bool} {sh : List Str} (hn : 1 ≤ n) (h : RL n none f st) : RL n (if a ∈ sh then some 0 else none) f (wgS (W1 a b n) st sh) := by
  cases f with
  | true => exact RL_fell h
  | false =>
    rcases h with ⟨h, _⟩ | ⟨_, ⟨_, rfl⟩ | ⟨j, h, _⟩⟩
    · cases h
    · refine .inr ⟨rfl, ?_⟩
      have e : wgS (W1 a b n) (0, false) sh = (if a ∈ sh then 1 else 0, false) := by
        show (wStep (W1 a b n) 0 sh, false || decide (wStep (W1 a b n) 0 sh ∈ (W1 a b n).bad)) = _
        rw [W1_in, wStep_of (r := ([(a, 1)], 0)) rfl, wTo1]
        by_cases h : a ∈ sh
        · rw [if_pos h, decide_eq_false (by omega)]
          rfl
        · rw [if_neg h, decide_eq_false (by omega)]
          rfl
      rw [e]
      by_cases h : a ∈ sh
      · rw [if_pos h, if_pos h]
        exact .inr ⟨0, rfl, hn, rfl⟩
      · rw [if_neg h, if_neg h]
        exact .inl ⟨rfl, rfl⟩
    · cases h
theorem RL_back {a b : Str} {n j : Nat} {f : Bool} {st : Nat × Bool} {sh : List Str} (hb : b ∈ sh) (h : RL n (some j) f st) : RL n none f (wgS (W1 a b n) st sh) := by
  cases f with
  | true => exact RL_fell h
  | false =>
    rcases h with ⟨h, _⟩ | ⟨_, ⟨h, _⟩ | ⟨i, _, hi, rfl⟩⟩
    · cases h
    · cases h
    · refine .inr ⟨rfl, .inl ⟨rfl, ?_⟩⟩
      show (wStep (W1 a b n) (i + 1) sh, false || decide (wStep (W1 a b n) (i + 1) sh ∈ (W1 a b n).bad)) = _
      rw [W1_in, wStep_of (W1_at a b hi), wTo1, if_pos hb, decide_eq_false (by omega)]
      rfl
theorem RL_more {a b : Str} {n j : Nat} {f : Bool} {st : Nat × Bool} {sh : List Str} (hb : b ∉ sh) (h : RL n (some j) f st) : RL n (some (j + 1)) (f || decide (j + 1 = n)) (wgS (W1 a b n) st sh) := by
  cases f with
  | true => exact RL_fell h
  | false =>
    rcases h with ⟨h, _⟩ | ⟨_, ⟨h, _⟩ | ⟨i, hj, hi, rfl⟩⟩
    · cases h
    · cases h
    · cases hj
      have e : wgS (W1 a b n) (j + 1, false) sh = (j + 2, decide (j + 1 = n)) := by
        show (wStep (W1 a b n) (j + 1) sh, false || decide (wStep (W1 a b n) (j + 1) sh ∈ (W1 a b n).bad)) = _
        rw [W1_in, wStep_of (W1_at a b hi), wTo1, if_neg hb, Bool.false_or]
        congr 1
        rw [Bool.eq_iff_iff, decide_eq_true_eq, decide_eq_true_eq]
        omega
      rw [e]
      by_cases k : j + 1 = n
      · rw [decide_eq_true k]
        exact .inl ⟨rfl, by rw [← k]⟩
      · rw [decide_eq_false k]
        exact .inr ⟨rfl, .inr ⟨j + 1, rfl, by omega, rfl⟩⟩
/-- which comes first: undecided, fell -/
def RA (u b : Bool) (st : Nat × Bool) : Prop := (u = true ∧ b = false ∧ st = (0, false)) ∨ (u = false ∧ st = (if b = true then 2 else 1, b))
theorem W2_in (a b : Str) (k : Nat) : decide (k ∈ (W2 a b).bad) = decide (k = 2) := by
  show decide (k ∈ [2]) = _
  rw [Bool.eq_iff_iff, decide_eq_true_eq, decide_eq_true_eq, List.mem_singleton]
theorem RA_done {b a : Str} {f : Bool} {st : Nat × Bool} {sh : List Str} (h : RA false f st) : RA false f (wgS (W2 a b) st sh) := by
  rcases h with ⟨h, _⟩ | ⟨_, rfl⟩
  · cases h
  · refine .inr ⟨rfl, ?_⟩
    cases f with
    | true =>
      show (wStep (W2 a b) 2 sh, true || _) = _
      rw [wStep_of (r := ([], 2)) rfl, wTo0]
      rfl
    | false =>
      show (wStep (W2 a b) 1 sh, false || decide (wStep (W2 a b) 1 sh ∈ (W2 a b).bad)) = _
      rw [W2_in, wStep_of (r := ([], 1)) rfl, wTo0]
      rfl
theorem RA_open {b a : Str} {f : Bool} {st : Nat × Bool} {sh : List Str} (h : RA true f st) : RA (!(decide (b ∈ sh) || decide (a ∈ sh))) (!decide (b ∈ sh) && decide (a ∈ sh)) (wgS (W2 a b) st sh) ∧ f = false := by
  rcases h with ⟨_, rfl, rfl⟩ | ⟨h, _⟩
  · refine ⟨?_, rfl⟩
    have e : wgS (W2 a b) (0, false) sh = (if b ∈ sh then 1 else if a ∈ sh then 2 else 0, decide ((if b ∈ sh then 1 else if a ∈ sh then 2 else 0) = 2)) := by
      show (wStep (W2 a b) 0 sh, false || decide (wStep (W2 a b) 0 sh ∈ (W2 a b).bad)) = _
      rw [W2_in, wStep_of (r := ([(b, 1), (a, 2)], 0)) rfl, wTo2, Bool.false_or]
    rw [e]
    by_cases h1 : b ∈ sh
    · rw [if_pos h1, decide_eq_true h1]
      exact .inr ⟨rfl, rfl⟩
    · rw [if_neg h1, decide_eq_false h1]
      by_cases h2 : a ∈ sh
      · rw [if_pos h2, decide_eq_true h2]
        exact .inr ⟨rfl, rfl⟩
      · rw [if_neg h2, decide_eq_false h2]
        exact .inl ⟨rfl, rfl, rfl⟩
  · cases h
def vW : Option Nat → V
  | none => .non
  | some m => .int (m : Int)
def spMetL (K : PySem.W.Frag) : Sp := fun vs H Q _ => ∃ (a : Str) (Lr : Addr) (sss : List (List Str)), vs = [.str a, .ref Lr] ∧ RowsAt K H Lr sss ∧ ∀ (H' : Hp) (L : Addr), Same H H' → H' L = some (.lst ((dues (W0 a) sss).map V.bl)) → Q (.ref L) H'
def spLateL (K : PySem.W.Frag) : Sp := fun vs H Q _ => ∃ (a b : Str) (n : Nat) (Lr : Addr) (sss : List (List Str)), vs = [.str a, .str b, .int (n : Int), .ref Lr] ∧ 1 ≤ n ∧ n ≤ 12 ∧ RowsAt K H Lr sss ∧ ∀ (H' : Hp) (L : Addr), Same H H' → H' L = some (.lst ((dues (W1 a b n) sss).map V.bl)) → Q (.ref L) H'
def spAhL (K : PySem.W.Frag) : Sp := fun vs H Q _ => ∃ (a b : Str) (Lr : Addr) (sss : List (List Str)), vs = [.str a, .str b, .ref Lr] ∧ RowsAt K H Lr sss ∧ ∀ (H' : Hp) (L : Addr), Same H H' → H' L = some (.lst ((dues (W2 b a) sss).map V.bl)) → Q (.ref L) H'
theorem dues_take {W : Wt} {sss : List (List Str)} {i : Nat} (h : i < sss.length) : (dues W sss).take (i + 1) = (dues W sss).take i ++ [(wFS W (sss.take (i + 1))).2] := take_snoc (dues_at h)
section
variable {P : Program} {w : World} {K : PySem.W.Frag} {mg : Str → Option Value} {base : Heap}
theorem ok__law_met (T : Txt K mg) {f : Addr} {fd : FuncData} (F : FnP K "_law_met" s__law_met f fd) : FnOk P w K mg base CX0 1 f fd ["mark", "rows"] (spMetL K) := by
  refine F.ok sc__law_met (fun vs H Q E h => ?_) (fun cdv A outer s H vs Q E hr h => ?_)
  · obtain ⟨a, Lr, sss, rfl, _⟩ := h
    rfl
  · obtain ⟨a, Lr, sss, rfl, hR, q⟩ := h
    refine ⟨_, PSs.nox (pss_cons (ps_set (i := 2) sc__law_met.nd rfl (Or.inl rfl) (pe_lst pa_nil))
      (pss_cons (ps_set (i := 3) sc__law_met.nd rfl (Or.inl rfl) pe_bl)
      (pss_cons (ps_for PassesOwn.never rfl (pi_list (pv 1)) (pg_name (i := 4) sc__law_met.nd rfl (Or.inl rfl)) (pss_cons (ps_set (i := 3) sc__law_met.nd rfl (Or.inl rfl) (pe_or (pv 3) (pe_one (pe_cmpR op_in_seq (pv 0) (pv 4) (by rfl)))))
      (pss_one (ps_expr (pe_bm PySem.F.plainAttrs_list PySem.F.slot_list_append PySem.F.type_list_append mt_append (pv 2) (pa_cons (pv 3) pa_nil))))))
      (pss_one (ps_ret (pv 2)))))), ?_⟩
    refine ⟨Nat.zero_le _, fun L hL => ?_⟩
    obtain ⟨zs, hz, hA⟩ := hR.l
    have zl := dpA_len hA
    rw [List.length_map] at zl
    have few := hR.few
    have s1 := same_new (o := .lst []) hL
    refine ⟨_, rfl, Lr, rfl, ⟨_, same_l s1 hz⟩, for_list (K := K) (a := Lr) (xs := zs) (fun i σ H' => ∃ (b : Bool) (y4 : Option V), σ = [some (.str a), some (.ref Lr), some (.ref L), some (.bl b), y4] ∧ Same H H' ∧ H' L = some (.lst (((dues (W0 a) sss).take i).map V.bl)) ∧ wFS (W0 a) (sss.take i) = (if b = true then 1 else 0, b)) ⟨false, _, rfl, s1, upd_same, rfl⟩ (fun i σ H' _ e => by
      obtain ⟨_, _, _, s, _⟩ := e
      exact same_l s hz) ?_ ?_⟩
    · rintro i x σ H2 hi ⟨b, y4, rfl, s2, hL2, hw⟩
      obtain ⟨sh, hsh, dx⟩ := dpA_mem (dpA_same s2 _ _ hA) hi
      obtain ⟨ps, rfl, hps⟩ := sh_at dx
      have hi' := (List.getElem?_eq_some_iff.mp hsh).1
      have L0 : H L = none := hL
      have lenD := dues_len (W0 a) sss
      have fin : ∀ b', b' = (b || decide (a ∈ sh)) → wFS (W0 a) (sss.take (i + 1)) = (if b' = true then 1 else 0, b') := fun b' e => by
        rw [wFS_snoc hsh, hw, W0_st, e]
      refine ⟨_, rfl, _, rfl, ite2 (fun hb => ?_) (fun hb => ?_)⟩
      · have hf := fin true (by rw [hb]; rfl)
        refine ⟨_, rfl, .inl ⟨rfl, _, SqL.of hL2⟩, _, rfl, L, _, _, rfl, rfl, hL2, by rw [List.length_map, List.length_take]; exact line6 (by omega), true, _, rfl, same_mut s2 L0, ?_, hf⟩
        rw [upd_same, dues_take hi', List.map_append, hf]
        rfl
      · refine ⟨_, rfl, _, rfl, ps, _, rfl, .inr hps, rfl, flat_strs _, ?_⟩
        rw [inV_str]
        have hf := fin (decide (a ∈ sh)) (by rw [Bool.eq_false_iff.mpr hb]; rfl)
        refine ⟨_, rfl, .inl ⟨rfl, _, SqL.of hL2⟩, _, rfl, L, _, _, rfl, rfl, hL2, by rw [List.length_map, List.length_take]; exact line6 (by omega), _, _, rfl, same_mut s2 L0, ?_, hf⟩
        rw [upd_same, dues_take hi', List.map_append, hf]
        rfl
    · rintro σ H2 ⟨b, y4, rfl, s2, hL2, hw⟩
      rw [zl, ← dues_len (W0 a) sss, List.take_length] at hL2
      exact ⟨_, rfl, q _ L s2 hL2⟩
theorem ok__law_ahead (T : Txt K mg) {f : Addr} {fd : FuncData} (F : FnP K "_law_ahead" s__law_ahead f fd) : FnOk P w K mg base CX0 1 f fd ["one", "other", "rows"] (spAhL K) := by
  refine F.ok sc__law_ahead (fun vs H Q E h => ?_) (fun cdv A outer s H vs Q E hr h => ?_)
  · obtain ⟨a, b, Lr, sss, rfl, _⟩ := h
    rfl
  · obtain ⟨a, b, Lr, sss, rfl, hR, q⟩ := h
    refine ⟨_, PSs.nox (pss_cons (ps_set (i := 3) sc__law_ahead.nd rfl (Or.inl rfl) (pe_lst pa_nil))
      (pss_cons (ps_set (i := 4) sc__law_ahead.nd rfl (Or.inl rfl) pe_bl)
      (pss_cons (ps_set (i := 5) sc__law_ahead.nd rfl (Or.inl rfl) pe_bl)
      (pss_cons (ps_for PassesOwn.never rfl (pi_list (pv 2)) (pg_name (i := 6) sc__law_ahead.nd rfl (Or.inl rfl)) (pss_cons (ps_if (PW.pt (pw_and (pt_val (pv 4)) (pw_and1 (pt_cmpR op_in_seq (pv 0) (pv 6) (by rfl))))) (pss_one (ps_set (i := 4) sc__law_ahead.nd rfl (Or.inl rfl) pe_bl)) pss_nil)
      (pss_cons (ps_if (PW.pt (pw_and (pt_val (pv 4)) (pw_and1 (pt_cmpR op_in_seq (pv 1) (pv 6) (by rfl))))) (pss_cons (ps_set (i := 4) sc__law_ahead.nd rfl (Or.inl rfl) pe_bl)
      (pss_one (ps_set (i := 5) sc__law_ahead.nd rfl (Or.inl rfl) pe_bl))) pss_nil)
      (pss_one (ps_expr (pe_bm PySem.F.plainAttrs_list PySem.F.slot_list_append PySem.F.type_list_append mt_append (pv 3) (pa_cons (pv 5) pa_nil)))))))
      (pss_one (ps_ret (pv 3))))))), ?_⟩
    refine ⟨Nat.zero_le _, fun L hL => ?_⟩
    obtain ⟨zs, hz, hA⟩ := hR.l
    have zl := dpA_len hA
    rw [List.length_map] at zl
    have few := hR.few
    have s1 := same_new (o := .lst []) hL
    have lenD := dues_len (W2 b a) sss
    refine ⟨_, rfl, Lr, rfl, ⟨_, same_l s1 hz⟩, for_list (K := K) (a := Lr) (xs := zs) (fun i σ H' => ∃ (u f : Bool) (y6 : Option V), σ = [some (.str a), some (.str b), some (.ref Lr), some (.ref L), some (.bl u), some (.bl f), y6] ∧ Same H H' ∧ H' L = some (.lst (((dues (W2 b a) sss).take i).map V.bl)) ∧ RA u f (wFS (W2 b a) (sss.take i))) ⟨true, false, _, rfl, s1, upd_same, .inl ⟨rfl, rfl, rfl⟩⟩ (fun i σ H' _ e => by
      obtain ⟨_, _, _, _, s, _⟩ := e
      exact same_l s hz) ?_ ?_⟩
    · rintro i x σ H2 hi ⟨u, f, y6, rfl, s2, hL2, hw⟩
      obtain ⟨sh, hsh, dx⟩ := dpA_mem (dpA_same s2 _ _ hA) hi
      obtain ⟨ps, rfl, hps⟩ := sh_at dx
      have hi' := (List.getElem?_eq_some_iff.mp hsh).1
      have few2 : (((dues (W2 b a) sss).take i).map V.bl).length < sizeLine := by
        rw [List.length_map, List.length_take]
        exact line6 (by omega)
      have fin : ∀ (u' f' : Bool), RA u' f' (wFS (W2 b a) (sss.take (i + 1))) → (wFS (W2 b a) (sss.take (i + 1))).2 = f' := fun u' f' h => by
        rcases h with ⟨_, h1, h⟩ | ⟨_, h⟩
        · rw [h, h1]
        · rw [h]
      cases u with
      | false =>
        have hf : RA false f (wFS (W2 b a) (sss.take (i + 1))) := by
          rw [wFS_snoc hsh]
          exact RA_done hw
        refine ⟨_, rfl, _, rfl, ite2 (fun h => (nomatch h)) (fun _ => ite2 (fun h => (nomatch (show false = true from h))) (fun _ => ?_))⟩
        refine ⟨_, rfl, _, rfl, ite2 (fun h => (nomatch h)) (fun _ => ite2 (fun h => (nomatch (show false = true from h))) (fun _ => ?_))⟩
        refine ⟨_, rfl, .inl ⟨rfl, _, SqL.of hL2⟩, _, rfl, L, _, _, rfl, rfl, hL2, few2, false, f, _, rfl, same_mut s2 hL, ?_, hf⟩
        rw [upd_same, dues_take hi', List.map_append, fin _ _ hf]
        rfl
      | true =>
        obtain ⟨hf, rfl⟩ := RA_open (b := a) (a := b) (sh := sh) hw
        rw [← wFS_snoc hsh] at hf
        refine ⟨_, rfl, _, rfl, ite2 (fun _ => ?_) (fun h => absurd rfl h)⟩
        refine ⟨_, rfl, _, rfl, ps, _, rfl, .inr hps, rfl, flat_strs _, ?_⟩
        rw [inV_str]
        refine ⟨_, rfl, ite2 (fun h1 => ?_) (fun h1 => ?_)⟩
        · have h1 : decide (a ∈ sh) = true := h1
          rw [h1] at hf
          have hf : RA false false (wFS (W2 b a) (sss.take (i + 1))) := hf
          refine ⟨_, rfl, _, rfl, ite2 (fun h => (nomatch h)) (fun _ => ite2 (fun h => (nomatch (show false = true from h))) (fun _ => ?_))⟩
          refine ⟨_, rfl, .inl ⟨rfl, _, SqL.of hL2⟩, _, rfl, L, _, _, rfl, rfl, hL2, few2, false, false, _, rfl, same_mut s2 hL, ?_, hf⟩
          rw [upd_same, dues_take hi', List.map_append, fin _ _ hf]
          rfl
        · have h1 : decide (a ∈ sh) = false := Bool.eq_false_iff.mpr h1
          rw [h1] at hf
          refine ⟨_, rfl, _, rfl, ite2 (fun _ => ?_) (fun h => absurd rfl h)⟩
          refine ⟨_, rfl, _, rfl, ps, _, rfl, .inr hps, rfl, flat_strs _, ?_⟩
          rw [inV_str]
          refine ⟨_, rfl, ite2 (fun h2 => ?_) (fun h2 => ?_)⟩
          · have h2 : decide (b ∈ sh) = true := h2
            rw [h2] at hf
            have hf : RA false true (wFS (W2 b a) (sss.take (i + 1))) := hf
            refine ⟨_, rfl, .inl ⟨rfl, _, SqL.of hL2⟩, _, rfl, L, _, _, rfl, rfl, hL2, few2, false, true, _, rfl, same_mut s2 hL, ?_, hf⟩
            rw [upd_same, dues_take hi', List.map_append, fin _ _ hf]
            rfl
          · have h2 : decide (b ∈ sh) = false := Bool.eq_false_iff.mpr h2
            rw [h2] at hf
            have hf : RA true false (wFS (W2 b a) (sss.take (i + 1))) := hf
            refine ⟨_, rfl, .inl ⟨rfl, _, SqL.of hL2⟩, _, rfl, L, _, _, rfl, rfl, hL2, few2, true, false, _, rfl, same_mut s2 hL, ?_, hf⟩
            rw [upd_same, dues_take hi', List.map_append, fin _ _ hf]
            rfl
    · rintro σ H2 ⟨u, f, y6, rfl, s2, hL2, hw⟩
      rw [zl, ← dues_len (W2 b a) sss, List.take_length] at hL2
      exact ⟨_, rfl, q _ L s2 hL2⟩
theorem ok__law_late (T : Txt K mg) {f : Addr} {fd : FuncData} (F : FnP K "_law_late" s__law_late f fd) : FnOk P w K mg base CX0 1 f fd ["cause", "effect", "n", "rows"] (spLateL K) := by
  refine F.ok sc__law_late (fun vs H Q E h => ?_) (fun cdv A outer s H vs Q E hr h => ?_)
  · obtain ⟨a, b, n, Lr, sss, rfl, _⟩ := h
    rfl
  · obtain ⟨a, b, n, Lr, sss, rfl, n1, n12, hR, q⟩ := h
    refine ⟨_, PSs.nox (pss_cons (ps_set (i := 4) sc__law_late.nd rfl (Or.inl rfl) (pe_lst pa_nil))
      (pss_cons (ps_set (i := 5) sc__law_late.nd rfl (Or.inl rfl) pe_non)
      (pss_cons (ps_set (i := 6) sc__law_late.nd rfl (Or.inl rfl) pe_bl)
      (pss_cons (ps_for PassesOwn.never rfl (pi_list (pv 3)) (pg_name (i := 7) sc__law_late.nd rfl (Or.inl rfl)) (pss_cons (ps_if (pt_cmpR op_isN (pv 5) pe_non (nomark _)) (pss_one (ps_if (pt_cmpR op_in_seq (pv 0) (pv 7) (by rfl)) (pss_one (ps_set (i := 5) sc__law_late.nd rfl (Or.inl rfl) pe_int)) pss_nil)) (pss_one (ps_if (pt_cmpR op_in_seq (pv 1) (pv 7) (by rfl)) (pss_one (ps_set (i := 5) sc__law_late.nd rfl (Or.inl rfl) pe_non)) (pss_cons (ps_set (i := 5) sc__law_late.nd rfl (Or.inl rfl) (pe_op op_add (pv 5) pe_int))
      (pss_one (ps_set (i := 6) sc__law_late.nd rfl (Or.inl rfl) (pe_or (pv 6) (pe_one (pe_cmpR op_eq (pv 5) (pv 2) (nomark _))))))))))
      (pss_one (ps_expr (pe_bm PySem.F.plainAttrs_list PySem.F.slot_list_append PySem.F.type_list_append mt_append (pv 4) (pa_cons (pv 6) pa_nil))))))
      (pss_one (ps_ret (pv 4))))))), ?_⟩
    refine ⟨Nat.zero_le _, fun L hL => ?_⟩
    obtain ⟨zs, hz, hA⟩ := hR.l
    have zl := dpA_len hA
    rw [List.length_map] at zl
    have few := hR.few
    have s1 := same_new (o := .lst []) hL
    have lenD := dues_len (W1 a b n) sss
    have st0 : wFS (W1 a b n) [] = (0, false) := by
      show (0, decide (0 ∈ (W1 a b n).bad)) = _
      rw [W1_in, decide_eq_false (by omega)]
    refine ⟨_, rfl, Lr, rfl, ⟨_, same_l s1 hz⟩, for_list (K := K) (a := Lr) (xs := zs) (fun i σ H' => ∃ (wt : Option Nat) (f : Bool) (y7 : Option V), σ = [some (.str a), some (.str b), some (.int (n : Int)), some (.ref Lr), some (.ref L), some (vW wt), some (.bl f), y7] ∧ Same H H' ∧ H' L = some (.lst (((dues (W1 a b n) sss).take i).map V.bl)) ∧ RL n wt f (wFS (W1 a b n) (sss.take i))) ⟨none, false, _, rfl, s1, upd_same, .inr ⟨rfl, .inl ⟨rfl, st0⟩⟩⟩ (fun i σ H' _ e => by
      obtain ⟨_, _, _, _, s, _⟩ := e
      exact same_l s hz) ?_ ?_⟩
    · rintro i x σ H2 hi ⟨wt, f, y7, rfl, s2, hL2, hw⟩
      obtain ⟨sh, hsh, dx⟩ := dpA_mem (dpA_same s2 _ _ hA) hi
      obtain ⟨ps, rfl, hps⟩ := sh_at dx
      have hi' := (List.getElem?_eq_some_iff.mp hsh).1
      have few2 : (((dues (W1 a b n) sss).take i).map V.bl).length < sizeLine := by
        rw [List.length_map, List.length_take]
        exact line6 (by omega)
      have fin : ∀ (wt' : Option Nat) (f' : Bool), RL n wt' f' (wFS (W1 a b n) (sss.take (i + 1))) → (wFS (W1 a b n) (sss.take (i + 1))).2 = f' := fun wt' f' h => by
        rcases h with ⟨h1, h⟩ | ⟨h1, ⟨_, h⟩ | ⟨j, _, _, h⟩⟩ <;> rw [h, h1]
      cases wt with
      | none =>
        have hf := RL_start (a := a) (b := b) (sh := sh) n1 hw
        rw [← wFS_snoc hsh] at hf
        refine ⟨_, rfl, rfl, _, rfl, ite2 (fun _ => ?_) (fun h => absurd rfl h)⟩
        refine ⟨_, rfl, _, rfl, ps, _, rfl, .inr hps, rfl, flat_strs _, ?_⟩
        rw [inV_str]
        refine ⟨_, rfl, ite2 (fun h1 => ?_) (fun h1 => ?_)⟩
        · have h1 : a ∈ sh := of_decide_eq_true h1
          rw [if_pos h1] at hf
          refine ⟨_, rfl, .inl ⟨rfl, _, SqL.of hL2⟩, _, rfl, L, _, _, rfl, rfl, hL2, few2, some 0, f, _, rfl, same_mut s2 hL, ?_, hf⟩
          rw [upd_same, dues_take hi', List.map_append, fin _ _ hf]
          rfl
        · have h1 : a ∉ sh := of_decide_eq_false (Bool.eq_false_iff.mpr h1)
          rw [if_neg h1] at hf
          refine ⟨_, rfl, .inl ⟨rfl, _, SqL.of hL2⟩, _, rfl, L, _, _, rfl, rfl, hL2, few2, none, f, _, rfl, same_mut s2 hL, ?_, hf⟩
          rw [upd_same, dues_take hi', List.map_append, fin _ _ hf]
          rfl
      | some m =>
        refine ⟨_, rfl, rfl, _, rfl, ite2 (fun h => (nomatch (show false = true from h))) (fun _ => ?_)⟩
        refine ⟨_, rfl, _, rfl, ps, _, rfl, .inr hps, rfl, flat_strs _, ?_⟩
        rw [inV_str]
        refine ⟨_, rfl, ite2 (fun h1 => ?_) (fun h1 => ?_)⟩
        · have h1 : b ∈ sh := of_decide_eq_true h1
          have hf := RL_back (a := a) h1 hw
          rw [← wFS_snoc hsh] at hf
          refine ⟨_, rfl, .inl ⟨rfl, _, SqL.of hL2⟩, _, rfl, L, _, _, rfl, rfl, hL2, few2, none, f, _, rfl, same_mut s2 hL, ?_, hf⟩
          rw [upd_same, dues_take hi', List.map_append, fin _ _ hf]
          rfl
        · have h1 : b ∉ sh := of_decide_eq_false (Bool.eq_false_iff.mpr h1)
          have hf := RL_more (a := a) h1 hw
          rw [← wFS_snoc hsh] at hf
          have em : V.int ((m : Int) + 1) = vW (some (m + 1)) := by
            show _ = V.int ((m + 1 : Nat) : Int)
            rw [show ((m + 1 : Nat) : Int) = (m : Int) + 1 by omega]
          have ed : decide (V.int ((m : Int) + 1) = V.int (n : Int)) = decide (m + 1 = n) := by
            rw [Bool.eq_iff_iff, decide_eq_true_eq, decide_eq_true_eq]
            constructor
            · intro h
              have := V.int.inj h
              omega
            · intro h
              rw [← h, Int.natCast_add]
              rfl
          refine ⟨_, rfl, _, _, rfl, rfl, ?_⟩
          refine ⟨_, rfl, _, rfl, ite2 (fun hb => ?_) (fun hb => ?_)⟩
          · rw [hb] at hf
            have hf : RL n (some (m + 1)) true (wFS (W1 a b n) (sss.take (i + 1))) := hf
            refine ⟨_, rfl, .inl ⟨rfl, _, SqL.of hL2⟩, _, rfl, L, _, _, rfl, rfl, hL2, few2, some (m + 1), true, _, by rw [← em]; rfl, same_mut s2 hL, ?_, hf⟩
            rw [upd_same, dues_take hi', List.map_append, fin _ _ hf]
            rfl
          · have hb : f = false := Bool.eq_false_iff.mpr hb
            subst hb
            rw [Bool.false_or] at hf
            refine ⟨_, rfl, _, rfl, rfl, ?_⟩
            refine ⟨_, rfl, .inl ⟨rfl, _, SqL.of hL2⟩, _, rfl, L, _, _, rfl, rfl, hL2, few2, some (m + 1), decide (m + 1 = n), some (.ref ps), ?_, same_mut s2 hL, ?_, hf⟩
            · show [some (V.str a), some (V.str b), some (V.int (n : Int)), some (V.ref Lr), some (V.ref L), some (V.int ((m : Int) + 1)), some (V.bl (decide (V.int ((m : Int) + 1) = V.int (n : Int)))), some (V.ref ps)] = _
              rw [ed, em]
            · rw [upd_same, dues_take hi', List.map_append, fin _ _ hf]
              show some (HO.lst (_ ++ [V.bl (decide (V.int ((m : Int) + 1) = V.int (n : Int)))])) = _
              rw [ed]
              rfl
    · rintro σ H2 ⟨wt, f, y7, rfl, s2, hL2, hw⟩
      rw [zl, ← dues_len (W1 a b n) sss, List.take_length] at hL2
      exact ⟨_, rfl, q _ L s2 hL2⟩
end
end Mt
namespace Mt
open PySem PySem.Spec PyProof.Rows L2
/-! ### watches of any shape -/
abbrev OP : Type := Option Str × Int
def vO : Option Str → V
  | none => .non
  | some s => .str s
def dO : Option Str → PyData
  | none => .none
  | some s => .str s
def dOp (p : OP) : PyData := .tuple [dO p.1, .int p.2]
def dGr (r : List OP) : PyData := .tuple (r.map dOp)
def dGw (z : Str) (R : List (List OP)) (B : List Int) : PyData := .tuple [.str z, .tuple (R.map dGr), dI B]
theorem dO_noL (o : Option Str) : noL (dO o) = true := by cases o <;> rfl
theorem dOp_noL (p : OP) : noL (dOp p) = true := by
  show (noL (dO p.1) && (true && true)) = true
  rw [dO_noL]
  rfl
theorem dGr_noL (r : List OP) : noL (dGr r) = true := noLs_map _ _ fun p _ => dOp_noL p
theorem dGw_noL (z : Str) (R : List (List OP)) (B : List Int) : noL (dGw z R B) = true := by
  show (true && (noLs (R.map dGr) && (noL (dI B) && true))) = true
  rw [noLs_map _ _ fun r _ => dGr_noL r, dI_noL]
  rfl
theorem dO_at {K : PySem.W.Frag} {H : Hp} {v : V} {o : Option Str} (h : Dp K H v (dO o)) : v = vO o := by
  cases o with
  | none => exact dp_non h
  | some s => exact dp_str h
theorem op_at {K : PySem.W.Frag} {H : Hp} {v : V} {q : OP} (h : Dp K H v (dOp q)) : ∃ p, v = .ref p ∧ SqT K H p [vO q.1, .int q.2] := by
  obtain ⟨p, us, rfl, h1, hA⟩ := dp_tup h
  obtain ⟨x0, r0, rfl, h0, hA⟩ := dpA_cons hA
  obtain ⟨x1, r1, rfl, h2, hA⟩ := dpA_cons hA
  cases dpA_nil hA
  rw [dO_at h0, dp_int h2] at h1
  exact ⟨p, rfl, h1⟩
/-- a row of a watch -/
def GoodR (m : Int) (r : List OP) : Prop := ∃ init t, r = init ++ [(none, t)] ∧ (none : Option Str) ∉ init.map (·.1) ∧ (init.map (·.1)).Nodup ∧ ∀ p ∈ r, 0 ≤ p.2 ∧ p.2 < m
noncomputable def gB (p : Prop) : Bool := @decide p (Classical.propDecidable _)
theorem gB_t {p : Prop} (h : p) : gB p = true := @decide_eq_true _ (Classical.propDecidable _) h
theorem gB_f {p : Prop} (h : ¬ p) : gB p = false := @decide_eq_false _ (Classical.propDecidable _) h
theorem gB_eq {p : Prop} {b : Bool} (h : p ↔ b = true) : gB p = b := by
  cases b with
  | true => exact gB_t (h.mpr rfl)
  | false => exact gB_f fun k => Bool.false_ne_true (h.mp k)
def spIsRow (K : PySem.W.Frag) : Sp := fun vs H Q _ => ∃ (v : V) (m : Int) (r : List OP), vs = [v, .int m] ∧ Dp K H v (dGr r) ∧ r.length ≤ 1000 ∧ ∀ H', Same H H' → Q (.bl (gB (GoodR m r))) H'
theorem vO_flat (o : Option Str) : flatV (vO o) = true := by cases o <;> rfl
theorem scK_it {J : It} {n : Nat} {G : Hp → Prop} {Y : Nat → Hp → V → Hp → Prop} (w : Walk J n G Y) {g : TG} {te : TE} {P : Program} {w0 : World} {vs : List Nat} {σ : L2.St} {H1 : Hp} {D : Addr} {Qd : Hp → Prop} (Pv : Nat → Hp → Prop) (h0 : Pv 0 (upd H1 D (SCT.SE P w0 D))) (hG : ∀ i H, i ≤ n → Pv i H → G H)
    (hs : ∀ i x H H', i < n → Pv i H → Y i H x H' → g x (wipe σ vs) H' fun σ3 H3 => wipe σ3 vs = wipe σ vs ∧ te σ3 H3 fun y H4 => ∃ (k : L2.Key) (S : L2.Key → Bool) (m : Nat), y = kV k ∧ H4 D = some (SetK P w0 D S m) ∧ m + 1 < scanBound ∧ Pv (i + 1) (upd H4 D (SetK P w0 D (fun j => S j || decide (j = k)) (if S k = true then m else m + 1)))) (hd : ∀ H, Pv n H → Qd H) :
    ∃ W : Nat → Nat → Hp → Prop, (∃ m, W 0 m (upd H1 D (SCT.SE P w0 D))) ∧ ∀ i m H, W i m H →
      (J.stop i H ∧ Qd H) ∨ (J.go i H ∧ ∃ Nx : Hp → Prop, (∀ H2, Nx H2 → ∃ m2, m2 < m ∧ W (i + 1) m2 H2) ∧
        ∀ x H2, J.yld i H x H2 → g x (wipe σ vs) H2 fun σ3 H3 => wipe σ3 vs = wipe σ vs ∧ te σ3 H3 fun y H4 => ∃ (k : L2.Key) (S : L2.Key → Bool) (m : Nat), y = kV k ∧ H4 D = some (SetK P w0 D S m) ∧ m + 1 < scanBound ∧ Nx (upd H4 D (SetK P w0 D (fun j => S j || decide (j = k)) (if S k = true then m else m + 1)))) := by
  refine ⟨fun i m H => m = n - i ∧ i ≤ n ∧ Pv i H, ⟨n, by simp, Nat.zero_le _, h0⟩, ?_⟩
  rintro i m H ⟨rfl, hi, p⟩
  have q := hG i H hi p
  by_cases hlt : i < n
  · refine .inr ⟨w.goes i H hlt q, Pv (i + 1), fun H' p' => ⟨n - (i + 1), by omega, rfl, hlt, p'⟩, fun x H' y => hs i x H H' hlt p (w.yields i H x H' hlt q y)⟩
  · have e : i = n := by omega
    subst e
    exact .inl ⟨w.stops H q, hd H p⟩
theorem dpA_take {K : PySem.W.Frag} {H : Hp} : ∀ {ds : List PyData} {xs : List V} (i : Nat), DpAll K H xs ds → DpAll K H (xs.take i) (ds.take i)
  | _, _, 0, _ => by
    rw [List.take_zero, List.take_zero]
    exact .nil
  | _, _, _ + 1, .nil => .nil
  | _, _, i + 1, .cons a h => .cons a (dpA_take i h)
theorem all_some : ∀ {l : List (Option Str)}, (none : Option Str) ∉ l → ∃ ss : List Str, l = ss.map some
  | [], _ => ⟨[], rfl⟩
  | none :: _, h => absurd List.mem_cons_self h
  | some s :: r, h => by
    obtain ⟨ss, e⟩ := all_some (l := r) fun k => h (List.mem_cons_of_mem _ k)
    exact ⟨s :: ss, by rw [e]; rfl⟩
theorem nodup_some {ss : List Str} : (ss.map (some : Str → Option Str)).Nodup ↔ ss.Nodup := by
  unfold List.Nodup
  rw [List.pairwise_map]
  constructor
  · exact fun h => h.imp fun k e => k (by rw [e])
  · exact fun h => h.imp fun k e => k (Option.some.inj e)
/-- the set of what stands so far -/
structure SetT (S : L2.Key → Bool) (n : Nat) (l : List Str) : Prop where
  mem : ∀ s, S (.inr s) = decide (s ∈ l)
  le : n ≤ l.length
  nd : n = l.length ↔ l.Nodup
theorem SetT.nil : SetT (fun _ => false) 0 [] := ⟨fun s => by simp, Nat.le_refl _, by simp⟩
theorem SetT.add {S : L2.Key → Bool} {n : Nat} {l : List Str} (h : SetT S n l) (s : Str) : SetT (fun j => S j || decide (j = .inr s)) (if S (.inr s) = true then n else n + 1) (l ++ [s]) := by
  refine ⟨fun z => ?_, ?_, ?_⟩
  · show (S (.inr z) || decide ((Sum.inr z : L2.Key) = .inr s)) = _
    rw [h.mem z, Bool.eq_iff_iff, Bool.or_eq_true, decide_eq_true_eq, decide_eq_true_eq, decide_eq_true_eq, List.mem_append, List.mem_singleton]
    constructor
    · rintro (k | k)
      · exact .inl k
      · exact .inr (Sum.inr.inj k)
    · rintro (k | k)
      · exact .inl k
      · exact .inr (by rw [k])
  · have := h.le
    rw [List.length_append, List.length_singleton]
    split <;> omega
  · rw [List.length_append, List.length_singleton, List.nodup_append]
    have hs := h.mem s
    have le := h.le
    by_cases k : s ∈ l
    · rw [decide_eq_true k] at hs
      rw [if_pos hs]
      constructor
      · intro e
        omega
      · rintro ⟨_, _, h3⟩
        exact absurd rfl (h3 s k s (List.mem_singleton.mpr rfl))
    · rw [decide_eq_false k] at hs
      rw [if_neg (by rw [hs]; exact Bool.false_ne_true)]
      constructor
      · intro e
        refine ⟨h.nd.mp (by omega), List.nodup_cons.mpr ⟨List.not_mem_nil, List.nodup_nil⟩, fun a ha b hb e2 => ?_⟩
        rw [List.mem_singleton.mp hb] at e2
        exact k (e2 ▸ ha)
      · rintro ⟨h1, _, _⟩
        have := h.nd.mpr h1
        omega
theorem inV_non (l : List (Option Str)) : inV .non (l.map vO) = decide ((none : Option Str) ∈ l) := by
  unfold inV
  rw [List.any_map, Bool.eq_iff_iff, List.any_eq_true, decide_eq_true_iff]
  constructor
  · rintro ⟨s, hs, h⟩
    cases s with
    | none => exact hs
    | some z => cases (show false = true from h)
  · intro h
    exact ⟨none, h, rfl⟩
theorem flat_O (l : List (Option Str)) : (l.map vO).all flatV = true := by
  rw [List.all_map]
  exact List.all_eq_true.mpr fun x _ => vO_flat x
def rgB (m : Int) (r : List OP) : Bool := r.all fun p => decide (0 ≤ p.2) && decide (p.2 < m)
theorem goodR_snoc {m : Int} {init : List OP} {t : Int} : GoodR m (init ++ [(none, t)]) ↔ (rgB m (init ++ [(none, t)]) = true ∧ (none : Option Str) ∉ init.map (·.1) ∧ (init.map (·.1)).Nodup) := by
  have rg : ∀ r : List OP, rgB m r = true ↔ ∀ p ∈ r, 0 ≤ p.2 ∧ p.2 < m := fun r => by
    unfold rgB
    rw [List.all_eq_true]
    constructor
    · intro h p hp
      have := h p hp
      rw [Bool.and_eq_true, decide_eq_true_eq, decide_eq_true_eq] at this
      exact this
    · intro h p hp
      rw [Bool.and_eq_true, decide_eq_true_eq, decide_eq_true_eq]
      exact h p hp
  constructor
  · rintro ⟨i2, t2, e, h1, h2, h3⟩
    obtain ⟨e1, e2⟩ := List.append_inj' e rfl
    subst e1
    exact ⟨(rg _).mpr h3, h1, h2⟩
  · rintro ⟨h3, h1, h2⟩
    exact ⟨init, t, rfl, h1, h2, (rg _).mp h3⟩
theorem not_goodR {m : Int} {init : List OP} {s : Str} {t : Int} : ¬ GoodR m (init ++ [(some s, t)]) := by
  rintro ⟨i2, t2, e, _⟩
  obtain ⟨_, e2⟩ := List.append_inj' e rfl
  cases e2
section
variable {P : Program} {w : World} {K : PySem.W.Frag} {mg : Str → Option Value} {base : Heap}
theorem ok_is_watching (T : Txt K mg) {f : Addr} {fd : FuncData} (F : FnP K "is_watching" s_is_watching f fd) : FnOk P w K mg base CX0 1 f fd ["row", "many"] (spIsRow K) := by
  refine F.ok sc_is_watching (fun vs H Q E h => ?_) (fun cdv A outer s H vs Q E hr h => ?_)
  · obtain ⟨v, m, r, rfl, _⟩ := h
    rfl
  · obtain ⟨v, m, r, rfl, hv, rl, q⟩ := h
    refine ⟨_, PSs.nox (pss_cons (ps_if (PW.pt (pw_or (pt_not (pt_truth (pv 0) (by intro _; rfl))) (pw_or (pt_cmpR op_notN (pe_ix ix_tup (pe_ix ix_tup (pv 0) (pe_un un_neg pe_int) (fun _ _ => rfl)) pe_int (fun _ _ => rfl)) pe_non (nomark _)) (pw_or1 (pt_not (pt_val (pe_callB (cr_all rfl) (by rfl) T.b_all (by decide +kernel) (pa_cons (pe_lc (own := [("_", 2), ("to", 3)]) (g := (gTup K 2 (gCons (gName 2) (gCons (gName 3) gNil)))) (tt := tYes) rfl sc_is_watching.nd (pi_tup (pv 0)) (blkOk_by (N := N_is_watching) (sc := defScope s_is_watching) (by decide +kernel)) (fun _ _ _ _ _ => (pg_tup rfl (pgs_cons (pg_name (i := 2) sc_is_watching.nd rfl (Or.inl rfl)) (pgs_cons (pg_name (i := 3) sc_is_watching.nd rfl (Or.inl rfl)) pgs_nil)))) (fun _ _ _ _ _ => pts_nil) (fun _ _ _ _ _ => (pe_chain op_le op_lt pe_int (pv 3) (pv 1)))) pa_nil)))))))) (pss_one (ps_ret pe_bl)) pss_nil)
      (pss_cons (ps_setLc (i := 4) (own := [("mark", 5), ("_", 2)]) (g := (gTup K 2 (gCons (gName 5) (gCons (gName 2) gNil)))) (tt := tYes) rfl sc_is_watching.nd rfl rfl (sw_true rfl rfl rfl (by decide +kernel)) (pi_tup (pe_slice sl_tupA (pv 0) po_none (po_some (pe_un un_neg pe_int)))) (blkOk_by (N := N_is_watching) (sc := defScope s_is_watching) (by decide +kernel)) (fun _ _ _ _ _ => (pg_tup rfl (pgs_cons (pg_name (i := 5) sc_is_watching.nd rfl (Or.inl rfl)) (pgs_cons (pg_name (i := 2) sc_is_watching.nd rfl (Or.inl rfl)) pgs_nil)))) (fun _ _ _ _ _ => pts_nil) (fun _ _ _ _ _ => (pv 5)))
      (pss_one (ps_ret (pe_and (pe_cmpR op_notIn_seq pe_non (pv 4) (by rfl)) (pe_one (pe_cmpR op_eq (pe_callB SCT.call_lenK (by rfl) T.b_len (by decide +kernel) (pa_cons (SCT.pe_scK (own := [("mark", 5)]) (g := (gName 5)) rfl sc_is_watching.nd (pi_list (pv 4)) (blkOk_by (N := N_is_watching) (sc := defScope s_is_watching) (by decide +kernel)) (fun _ => (pg_name (i := 5) sc_is_watching.nd rfl (Or.inl rfl))) (fun _ => (pv 5))) pa_nil)) (pe_callB call_len (by rfl) T.b_len (by decide +kernel) (pa_cons (pv 4) pa_nil)) (nomark _)))))))), ?_⟩
    obtain ⟨p, xs, rfl, hp, hA⟩ := dp_tup hv
    have xl := dpA_len hA
    rw [List.length_map] at xl
    rcases List.eq_nil_or_concat r with rfl | ⟨init, ⟨o, t⟩, rfl⟩
    · have ng : ¬ GoodR m [] := fun ⟨i, t, e, _⟩ => by
        have := congrArg List.length e
        rw [List.length_append] at this
        cases this
      have e0 : xs = [] := List.length_eq_zero_iff.mp xl
      subst e0
      refine ⟨_, rfl, _, .inr (.inl ⟨_, hp, rfl⟩), ite2 (fun _ => ?_) (fun h => absurd rfl h)⟩
      rw [gB_f ng] at q
      exact q _ (Same.refl _)
    · rw [List.concat_eq_append] at *
      have rlen : (init ++ [(o, t)]).length = init.length + 1 := by rw [List.length_append, List.length_singleton]
      have gl : (init ++ [(o, t)])[init.length]? = some (o, t) := by
        rw [List.getElem?_append_right (Nat.le_refl _), Nat.sub_self]
        rfl
      obtain ⟨y, hy, dy⟩ := dpA_get hA gl
      obtain ⟨py, rfl, hpy⟩ := op_at dy
      have hlast : xs.getLast? = some (.ref py) := by
        rw [List.getLast?_eq_getElem?, xl, rlen, Nat.add_sub_cancel]
        exact hy
      have ne : xs.isEmpty = false := by
        cases xs with
        | nil => cases hlast
        | cons _ _ => rfl
      refine ⟨_, rfl, _, .inr (.inl ⟨_, hp, rfl⟩), ?_⟩
      rw [ne]
      refine ite2 (fun h => (nomatch (show false = true from h))) (fun _ => ?_)
      refine ⟨_, rfl, _, rfl, p, _, _, _, rfl, rfl, hp, atI_m1 hlast, py, _, _, _, rfl, rfl, hpy, atI_nat (j := 0) rfl, rfl, _, rfl, ?_⟩
      cases o with
      | some z =>
        refine ite2 (fun _ => ?_) (fun h => absurd rfl h)
        rw [gB_f not_goodR] at q
        exact q _ (Same.refl _)
      | none =>
        refine ite2 (fun h => (nomatch (show false = true from h))) (fun _ => ?_)
        generalize hr : init ++ [((none : Option Str), t)] = r at *
        refine ⟨_, rfl, p, rfl, ⟨_, hp⟩, fun M hM => lc_tup (K := K) (a := p) (xs := xs) (fun i H' => Same H H' ∧ H' M = some (.lst (((r.take i).map fun q : OP => decide (0 ≤ q.2) && decide (q.2 < m)).map V.bl))) ⟨same_new hM, upd_same⟩ (fun i H' _ e => same_t e.1 hp) ?_ ?_⟩
        · rintro i x H1 hi ⟨s1, hM1⟩
          obtain ⟨u, hu, dx⟩ := dpA_mem (dpA_same s1 _ _ hA) hi
          obtain ⟨pu, rfl, hpu⟩ := op_at dx
          have hu' := (List.getElem?_eq_some_iff.mp hu).1
          refine ⟨pu, _, rfl, hpu, rfl, _, _, rfl, _, _, rfl, rfl, rfl, ?_⟩
          have rlen' : r.length ≤ 1000 := rl
          have step : ∀ b : Bool, b = (decide (0 ≤ u.2) && decide (u.2 < m)) → Same H (upd H1 M (.lst (((r.take i).map fun q : OP => decide (0 ≤ q.2) && decide (q.2 < m)).map V.bl ++ [V.bl b]))) ∧ (upd H1 M (.lst (((r.take i).map fun q : OP => decide (0 ≤ q.2) && decide (q.2 < m)).map V.bl ++ [V.bl b]))) M = some (.lst (((r.take (i + 1)).map fun q : OP => decide (0 ≤ q.2) && decide (q.2 < m)).map V.bl)) := fun b e => by
            refine ⟨same_mut s1 hM, ?_⟩
            rw [upd_same, take_snoc hu, List.map_append, List.map_append, e]
            rfl
          have len : (((r.take i).map fun q : OP => decide (0 ≤ q.2) && decide (q.2 < m)).map V.bl).length < sizeLine := by
            rw [List.length_map, List.length_map, List.length_take]
            exact line6 (by omega)
          refine ⟨_, rfl, _, _, rfl, rfl, _, rfl, ite2 (fun h0 => ?_) (fun h0 => ?_)⟩
          · have h0 : decide (0 ≤ u.2) = true := h0
            exact ⟨_, rfl, _, _, rfl, rfl, _, hM1, len, step _ (by rw [h0]; rfl)⟩
          · have h0 : decide (0 ≤ u.2) = false := Bool.eq_false_iff.mpr h0
            exact ⟨_, hM1, len, step _ (by rw [h0]; rfl)⟩
        · rintro H1 ⟨s1, hM1⟩
          rw [xl, List.take_length] at hM1
          refine ⟨M, r.map fun q : OP => decide (0 ≤ q.2) && decide (q.2 < m), rfl, SqL.of hM1, ?_⟩
          have er : (r.map fun q : OP => decide (0 ≤ q.2) && decide (q.2 < m)).all id = rgB m r := by
            unfold rgB
            rw [List.all_map]
            rfl
          rw [er]
          obtain ⟨ys, exs⟩ := List.getLast?_eq_some_iff.mp hlast
          cases hg : rgB m r with
          | false =>
            have ng : ¬ GoodR m r := fun k => by
              rw [← hr] at k hg
              rw [(goodR_snoc.mp k).1] at hg
              cases hg
            rw [gB_f ng] at q
            exact ⟨_, rfl, ite2 (fun _ => q _ s1) (fun h => absurd rfl h)⟩
          | true =>
            refine ⟨_, rfl, ite2 (fun h => (nomatch (show false = true from h))) (fun _ => ?_)⟩
            have ylen : ys.length = init.length := by
              have := xl
              rw [exs, ← hr, List.length_append, List.length_append, List.length_singleton, List.length_singleton] at this
              omega
            have hB : DpAll K H ys (init.map dOp) := by
              have h := dpA_take init.length hA
              rw [exs, ← hr, List.map_append, List.take_left' (by rw [ylen]), List.take_left' (by rw [List.length_map])] at h
              exact h
            have il : init.length ≤ 1000 := by
              have := rl
              rw [← hr, List.length_append, List.length_singleton] at this
              omega
            refine ⟨_, rfl, _, rfl, _, rfl, p, xs, rfl, same_t s1 hp, fun e => ?_, fun _ pn hpn => ?_⟩
            · exfalso
              have e1 : HT.sIx xs.length xs.length (some (-1)) = ys.length := by
                rw [exs, List.length_append, List.length_singleton]
                show (if (-1 : Int) < 0 then ((-1 : Int) + ((ys.length + 1 : Nat) : Int)).toNat else min (-1 : Int).toNat (ys.length + 1)) = ys.length
                rw [if_pos (by decide)]
                omega
              have e2 := e.2
              rw [e1, exs, List.length_append, List.length_singleton] at e2
              omega
            · rw [exs, cut_last]
              have t1 := same_new (o := .tup ys) hpn
              have e1 := upd_same (H := H1) (a := pn) (o := .tup ys)
              generalize upd H1 pn (.tup ys) = H2 at t1 e1
              have s2 := s1.trans t1
              refine ⟨pn, rfl, ⟨_, SqT.of e1⟩, fun M2 hM2 => lc_tup (K := K) (a := pn) (xs := ys) (fun i H' => Same H2 H' ∧ H' M2 = some (.lst (((init.take i).map (·.1)).map vO))) ⟨same_new hM2, upd_same⟩ (fun i H' _ e => same_t e.1 (SqT.of e1)) ?_ ?_⟩
              · rintro i x H3 hi ⟨s3, hM3⟩
                obtain ⟨u, hu, dx⟩ := dpA_mem (dpA_same (s2.trans s3) _ _ hB) hi
                obtain ⟨pu, rfl, hpu⟩ := op_at dx
                have hu' := (List.getElem?_eq_some_iff.mp hu).1
                refine ⟨pu, _, rfl, hpu, rfl, _, _, rfl, _, _, rfl, rfl, rfl, _, rfl, _, hM3, by rw [List.length_map, List.length_map, List.length_take]; exact line6 (by omega), same_mut s3 hM2, ?_⟩
                rw [upd_same, take_snoc hu, List.map_append, List.map_append]
                rfl
              · rintro H3 ⟨s3, hM3⟩
                rw [ylen, List.take_length] at hM3
                have s13 := s2.trans s3
                refine ⟨_, rfl, M2, _, rfl, .inl (SqL.of hM3), rfl, flat_O _, ?_⟩
                show ∃ c, V.bl (!inV .non ((init.map (·.1)).map vO)) = V.bl c ∧ _
                rw [inV_non]
                by_cases hno : (none : Option Str) ∈ init.map (·.1)
                · have ng : ¬ GoodR m r := fun k => by
                    rw [← hr] at k
                    exact (goodR_snoc.mp k).2.1 hno
                  rw [gB_f ng] at q
                  rw [decide_eq_true hno]
                  exact ⟨_, rfl, iteF (q _ s13)⟩
                · rw [decide_eq_false hno]
                  refine ⟨_, rfl, iteT ?_⟩
                  obtain ⟨ss, ess⟩ := all_some hno
                  have sl : ss.length = init.length := by
                    have := congrArg List.length ess
                    rw [List.length_map, List.length_map] at this
                    omega
                  rw [ess, List.map_map] at hM3
                  have few : ss.length + 1 < scanBound := Nat.lt_of_le_of_lt (show ss.length + 1 ≤ 1001 by omega) (by decide)
                  refine ⟨_, rfl, M2, rfl, ⟨_, SqL.of hM3⟩, fun Ds hDs => scK_it (walk_list (K := K) (a := M2) (xs := ss.map (vO ∘ some))) (fun i H' => ∃ (S : L2.Key → Bool) (n : Nat), Same H3 H' ∧ H' Ds = some (SetK P w Ds S n) ∧ SetT S n (ss.take i)) ⟨_, _, same_new hDs, upd_same, SetT.nil⟩ (fun i H' _ ⟨_, _, s, _⟩ => same_l s (SqL.of hM3)) ?_ ?_⟩
                  · rintro i x H4 H5 hi ⟨S, n, s4, hD4, st⟩ ⟨rfl, hx⟩
                    rw [List.getElem?_map] at hx
                    obtain ⟨z, hz, rfl⟩ := Option.map_eq_some_iff.mp hx
                    refine ⟨rfl, _, rfl, .inr z, S, n, rfl, hD4, ?_, _, _, same_mut s4 hDs, upd_same, ?_⟩
                    · have := st.le
                      rw [List.length_take] at this
                      omega
                    · rw [take_snoc hz]
                      exact st.add z
                  · rintro H4 ⟨S, n, s4, hD4, st⟩
                    rw [List.length_map, List.take_length] at st
                    refine ⟨Ds, S, n, rfl, hD4, _, rfl, _, _, rfl, .inl ⟨_, SqL.of (s4 _ _ hM3), rfl⟩, rfl, ?_⟩
                    have eg : gB (GoodR m r) = decide (V.int (n : Int) = V.int ((ss.map (vO ∘ some)).length : Nat)) := by
                      refine gB_eq ?_
                      rw [decide_eq_true_eq, ← hr, goodR_snoc, hr, hg, ess, nodup_some, ← st.nd, List.length_map]
                      constructor
                      · rintro ⟨_, _, h⟩
                        rw [h]
                      · intro h
                        have := V.int.inj h
                        refine ⟨rfl, ?_, by omega⟩
                        rw [← ess]
                        exact hno
                    rw [← eg]
                    exact q _ (s13.trans s4)
end
end Mt
namespace Mt
open PySem PySem.Spec PyProof.Rows L2
theorem pe_gi {X : Cx} {x : Str} {i : Int} {pos : Pos} (h : ∃ t, X.mg x = some (.int i t)) (hg : Gl X x) (hd : (x == ("__debug__" : Str)) = false := by decide) : PE X (.Name x pos) (tC (.int i)) := by
  obtain ⟨t, h⟩ := h
  exact pe_glob hg h ⟨_, rfl⟩ hd
def Asc (B : List Int) : Prop := ∀ i x y, B[i]? = some x → B[i + 1]? = some y → x < y
def GoodW (z : Str) (R : List (List OP)) (B : List Int) : Prop := z = "watch" ∧ 1 ≤ R.length ∧ R.length ≤ 12 ∧ (∀ r ∈ R, GoodR (R.length : Int) r) ∧ (∀ x ∈ B, 0 ≤ x ∧ x < (R.length : Int)) ∧ Asc B
def ascA (B : List Int) (i : Nat) : Bool := match B[i]?, B[i + 1]? with
  | some x, some y => decide (x < y)
  | _, _ => true
theorem asc_all (B : List Int) : ((List.range ((B.length : Int) - 1).toNat).map (ascA B)).all id = true ↔ Asc B := by
  rw [List.all_map, List.all_eq_true]
  constructor
  · intro h i x y hx hy
    have hi := (List.getElem?_eq_some_iff.mp hy).1
    have := h i (List.mem_range.mpr (by omega))
    have this : ascA B i = true := this
    unfold ascA at this
    rw [hx, hy] at this
    exact of_decide_eq_true this
  · intro h i hi
    have hi := List.mem_range.mp hi
    show ascA B i = true
    unfold ascA
    cases hx : B[i]? with
    | none => rfl
    | some x =>
      cases hy : B[i + 1]? with
      | none => rfl
      | some y => exact decide_eq_true (h i x y hx hy)
structure FewW (R : List (List OP)) (B : List Int) : Prop where
  r : R.length ≤ 100
  e : ∀ r ∈ R, r.length ≤ 1000
  b : B.length ≤ 1000
def spIsW (K : PySem.W.Frag) : Sp := fun vs H Q _ => ∃ (v : V) (z : Str) (R : List (List OP)) (B : List Int), vs = [v] ∧ Dp K H v (dGw z R B) ∧ FewW R B ∧ ∀ H', Same H H' → Q (.bl (gB (GoodW z R B))) H'
theorem gw_at {K : PySem.W.Frag} {H : Hp} {v : V} {z : Str} {R : List (List OP)} {B : List Int} (h : Dp K H v (dGw z R B)) : ∃ p q b xs, v = .ref p ∧ SqT K H p [.str z, .ref q, .ref b] ∧ SqT K H q xs ∧ DpAll K H xs (R.map dGr) ∧ SqT K H b (B.map V.int) := by
  obtain ⟨p, us, rfl, h1, hA⟩ := dp_tup h
  obtain ⟨x0, r0, rfl, h0, hA⟩ := dpA_cons hA
  obtain ⟨x1, r1, rfl, h2, hA⟩ := dpA_cons hA
  obtain ⟨x2, r2, rfl, h3, hA⟩ := dpA_cons hA
  cases dpA_nil hA
  obtain rfl := dp_str h0
  obtain ⟨q, xs, rfl, h4, h5⟩ := dp_tup h2
  obtain ⟨b, rfl, h6⟩ := i_at h3
  exact ⟨p, q, b, xs, rfl, h1, h4, h5, h6⟩
section
variable {P : Program} {w : World} {K : PySem.W.Frag} {mg : Str → Option Value} {base : Heap}
theorem ok_is_watch (T : Txt K mg) (D_is_watching : Kept P w K mg base 1 "is_watching" ["row", "many"] (spIsRow K)) {f : Addr} {fd : FuncData} (F : FnP K "is_watch" s_is_watch f fd) : FnOk P w K mg base CX0 2 f fd ["watch"] (spIsW K) := by
  refine F.ok sc_is_watch (fun vs H Q E h => ?_) (fun cdv A outer s H vs Q E hr h => ?_)
  · obtain ⟨v, z, R, B, rfl, _⟩ := h
    rfl
  · obtain ⟨v, z, R, B, rfl, hv, few, q⟩ := h
    refine ⟨_, PSs.nox (pss_cons (ps_asg (pv 0) (pg_tup rfl (pgs_cons (pg_name (i := 1) sc_is_watch.nd rfl (Or.inl rfl)) (pgs_cons (pg_name (i := 2) sc_is_watch.nd rfl (Or.inl rfl)) (pgs_cons (pg_name (i := 3) sc_is_watch.nd rfl (Or.inr rfl)) pgs_nil)))))
      (pss_cons (ps_set (i := 4) sc_is_watch.nd rfl (Or.inr rfl) (pe_callB call_len (by rfl) T.b_len (by decide +kernel) (pa_cons (pv 2) pa_nil)))
      (pss_cons (ps_if (PW.pt (pw_or (pt_cmpR op_ne (pv 1) pe_str (nomark _)) (pw_or1 (pt_not (pt_chain op_le op_le pe_int (pv 4) (pe_gi T.g_MOST_PLACES (by rfl))))))) (pss_one (ps_ret pe_bl)) pss_nil)
      (pss_cons (ps_if (pt_not (pt_val (pe_callB (cr_all rfl) (by rfl) T.b_all (by decide +kernel) (pa_cons (pe_lc (own := [("row", 5)]) (g := (gName 5)) (tt := tYes) rfl sc_is_watch.nd (pi_tup (pv 2)) (blkOk_by (N := N_is_watch) (sc := defScope s_is_watch) (by decide +kernel)) (fun _ _ _ _ _ => (pg_name (i := 5) sc_is_watch.nd rfl (Or.inl rfl))) (fun _ _ _ _ _ => pts_nil) (fun _ _ _ _ _ => (pe_d D_is_watching (hr.mono (by decide)) (by rfl) (pa_cons (pv 5) (pa_cons (pv 4) pa_nil))))) pa_nil)))) (pss_one (ps_ret pe_bl)) pss_nil)
      (pss_cons (ps_if (pt_not (pt_val (pe_callB (cr_all rfl) (by rfl) T.b_all (by decide +kernel) (pa_cons (pe_lc (own := [("place", 6)]) (g := (gName 6)) (tt := tYes) rfl sc_is_watch.nd (pi_tup (pv 3)) (blkOk_by (N := N_is_watch) (sc := defScope s_is_watch) (by decide +kernel)) (fun _ _ _ _ _ => (pg_name (i := 6) sc_is_watch.nd rfl (Or.inl rfl))) (fun _ _ _ _ _ => pts_nil) (fun _ _ _ _ _ => (pe_chain op_le op_lt pe_int (pv 6) (pv 4)))) pa_nil)))) (pss_one (ps_ret pe_bl)) pss_nil)
      (pss_one (ps_ret (pe_callB (cr_all rfl) (by rfl) T.b_all (by decide +kernel) (pa_cons (pe_lc (own := [("at", 7)]) (g := (gName 7)) (tt := tYes) rfl sc_is_watch.nd (pi_range1 (by rfl) T.b_range (pa_cons (pe_op op_sub (pe_callB call_len (by rfl) T.b_len (by decide +kernel) (pa_cons (pv 3) pa_nil)) pe_int) pa_nil)) (blkOk_by (N := N_is_watch) (sc := defScope s_is_watch) (by decide +kernel)) (fun _ _ _ _ _ => (pg_name (i := 7) sc_is_watch.nd rfl (Or.inl rfl))) (fun _ _ _ _ _ => pts_nil) (fun _ _ _ _ _ => (pe_cmpR op_lt (pe_ix (ixT (K := K) rfl) (pv 3) (pv 7) (fun _ _ => rfl)) (pe_ix (ixT (K := K) rfl) (pv 3) (pe_op op_add (pv 7) pe_int) (fun _ _ => rfl)) (nomark _)))) pa_nil))))))))), ?_⟩
    obtain ⟨p, pq, pb, xs, rfl, hp, hpq, hA, hpb⟩ := gw_at hv
    have xl := dpA_len hA
    rw [List.length_map] at xl
    have rl := few.r
    have bl := few.b
    refine ⟨_, rfl, p, _, rfl, hp, rfl, _, _, rfl, _, _, rfl, _, _, rfl, rfl, ?_⟩
    refine ⟨_, rfl, _, _, rfl, .inr ⟨_, hpq, rfl⟩, ?_⟩
    rw [xl]
    refine ⟨_, rfl, rfl, ?_⟩
    by_cases ez : z = "watch"
    case neg =>
      have ne : ¬ (V.str z = V.str "watch") := fun h => ez (V.str.inj h)
      rw [decide_eq_false ne]
      refine ⟨_, rfl, ite2 (fun _ => ite2 (fun _ => ?_) (fun h => absurd rfl h)) (fun h => absurd rfl h)⟩
      rw [gB_f fun k => ez k.1] at q
      exact q _ (Same.refl _)
    rw [ez, decide_eq_true rfl]
    refine ⟨_, rfl, ite2 (fun h => (nomatch (show false = true from h))) (fun _ => ?_)⟩
    have bad : ¬ GoodW z R B → Q (.bl false) H := fun k => by
      have := q H (Same.refl _)
      rw [gB_f k] at this
      exact this
    refine ⟨_, rfl, _, _, rfl, rfl, _, rfl, ite2 (fun h1 => ?_) (fun h1 => ?_)⟩
    case _ => 
      have h1 : 1 ≤ R.length := by
        have : (1 : Int) ≤ (R.length : Int) := of_decide_eq_true h1
        omega
      refine ⟨_, _, rfl, rfl, _, rfl, ?_⟩
      by_cases h2 : R.length ≤ 12
      case neg =>
        have e2 : decide ((R.length : Int) ≤ 12) = false := decide_eq_false (by omega)
        rw [e2]
        exact ite2 (fun _ => bad fun k => h2 k.2.2.1) (fun h => absurd rfl h)
      have e2 : decide ((R.length : Int) ≤ 12) = true := decide_eq_true (by omega)
      rw [e2]
      refine ite2 (fun h => (nomatch (show false = true from h))) (fun _ => ?_)
      refine ⟨_, rfl, pq, rfl, ⟨_, hpq⟩, fun M hM => lc_tup (K := K) (a := pq) (xs := xs) (fun i H' => Same H H' ∧ H' M = some (.lst (((R.take i).map fun r => gB (GoodR (R.length : Int) r)).map V.bl))) ⟨same_new hM, upd_same⟩ (fun i H' _ e => same_t e.1 hpq) ?_ ?_⟩
      · rintro i x H1 hi ⟨s1, hM1⟩
        obtain ⟨r, hr, dx⟩ := dpA_mem (dpA_same s1 _ _ hA) hi
        have hr' := (List.getElem?_eq_some_iff.mp hr).1
        refine ⟨rfl, _, rfl, _, rfl, x, _, r, rfl, dx, few.e r (List.mem_of_getElem? hr), fun H2 s2 => ⟨_, s2 _ _ hM1, by rw [List.length_map, List.length_map, List.length_take]; exact line6 (by omega), same_mut (s1.trans s2) hM, ?_⟩⟩
        rw [upd_same, take_snoc hr, List.map_append, List.map_append]
        rfl
      · rintro H1 ⟨s1, hM1⟩
        rw [xl, List.take_length] at hM1
        refine ⟨M, R.map fun r => gB (GoodR (R.length : Int) r), rfl, SqL.of hM1, ?_⟩
        have er : ((R.map fun r => gB (GoodR (R.length : Int) r)).all id = true) ↔ ∀ r ∈ R, GoodR (R.length : Int) r := by
          rw [List.all_map, List.all_eq_true]
          exact ⟨fun h r hr => @of_decide_eq_true _ (Classical.propDecidable _) (h r hr), fun h r hr => gB_t (h r hr)⟩
        cases h3 : (R.map fun r => gB (GoodR (R.length : Int) r)).all id with
        | false =>
          have ng : ¬ GoodW z R B := fun k => by
            rw [er.mpr k.2.2.2.1] at h3
            cases h3
          refine ⟨_, rfl, ite2 (fun _ => ?_) (fun h => absurd rfl h)⟩
          have := q H1 s1
          rw [gB_f ng] at this
          exact this
        | true =>
          refine ⟨_, rfl, ite2 (fun h => (nomatch (show false = true from h))) (fun _ => ?_)⟩
          have h3' := er.mp h3
          refine ⟨_, rfl, pb, rfl, ⟨_, same_t s1 hpb⟩, fun M2 hM2 => lc_tup (K := K) (a := pb) (xs := B.map V.int) (fun i H' => Same H1 H' ∧ H' M2 = some (.lst (((B.take i).map fun x => decide (0 ≤ x) && decide (x < (R.length : Int))).map V.bl))) ⟨same_new hM2, upd_same⟩ (fun i H' _ e => same_t (s1.trans e.1) hpb) ?_ ?_⟩
          · rintro i x H2 hi ⟨s2, hM3⟩
            obtain ⟨u, rfl, hu⟩ := getV hi
            have hu' := (List.getElem?_eq_some_iff.mp hu).1
            have step : ∀ b : Bool, b = (decide (0 ≤ u) && decide (u < (R.length : Int))) → Same H1 (upd H2 M2 (.lst (((B.take i).map fun x => decide (0 ≤ x) && decide (x < (R.length : Int))).map V.bl ++ [V.bl b]))) ∧ (upd H2 M2 (.lst (((B.take i).map fun x => decide (0 ≤ x) && decide (x < (R.length : Int))).map V.bl ++ [V.bl b]))) M2 = some (.lst (((B.take (i + 1)).map fun x => decide (0 ≤ x) && decide (x < (R.length : Int))).map V.bl)) := fun b e => by
              refine ⟨same_mut s2 hM2, ?_⟩
              rw [upd_same, take_snoc hu, List.map_append, List.map_append, e]
              rfl
            have len : (((B.take i).map fun x => decide (0 ≤ x) && decide (x < (R.length : Int))).map V.bl).length < sizeLine := by
              rw [List.length_map, List.length_map, List.length_take]
              exact line6 (by omega)
            refine ⟨rfl, _, rfl, _, _, rfl, rfl, _, rfl, ite2 (fun h0 => ?_) (fun h0 => ?_)⟩
            · have h0 : decide (0 ≤ u) = true := h0
              exact ⟨_, rfl, _, _, rfl, rfl, _, hM3, len, step _ (by rw [h0]; rfl)⟩
            · have h0 : decide (0 ≤ u) = false := Bool.eq_false_iff.mpr h0
              exact ⟨_, hM3, len, step _ (by rw [h0]; rfl)⟩
          · rintro H2 ⟨s2, hM3⟩
            rw [List.length_map, List.take_length] at hM3
            have s12 := s1.trans s2
            refine ⟨M2, B.map fun x => decide (0 ≤ x) && decide (x < (R.length : Int)), rfl, SqL.of hM3, ?_⟩
            have eb : ((B.map fun x => decide (0 ≤ x) && decide (x < (R.length : Int))).all id = true) ↔ ∀ x ∈ B, 0 ≤ x ∧ x < (R.length : Int) := by
              rw [List.all_map, List.all_eq_true]
              constructor
              · intro h x hx
                have := h x hx
                have : (decide (0 ≤ x) && decide (x < (R.length : Int))) = true := this
                rw [Bool.and_eq_true, decide_eq_true_eq, decide_eq_true_eq] at this
                exact this
              · intro h x hx
                show (decide (0 ≤ x) && decide (x < (R.length : Int))) = true
                rw [Bool.and_eq_true, decide_eq_true_eq, decide_eq_true_eq]
                exact h x hx
            cases h4 : (B.map fun x => decide (0 ≤ x) && decide (x < (R.length : Int))).all id with
            | false =>
              have ng : ¬ GoodW z R B := fun k => by
                rw [eb.mpr k.2.2.2.2.1] at h4
                cases h4
              refine ⟨_, rfl, ite2 (fun _ => ?_) (fun h => absurd rfl h)⟩
              have := q H2 s12
              rw [gB_f ng] at this
              exact this
            | true =>
              refine ⟨_, rfl, ite2 (fun h => (nomatch (show false = true from h))) (fun _ => ?_)⟩
              have h4' := eb.mp h4
              have hpb2 := same_t s12 hpb
              refine ⟨_, rfl, _, _, rfl, .inr ⟨_, hpb2, rfl⟩, ?_⟩
              rw [List.length_map]
              refine ⟨_, _, rfl, rfl, _, rfl, by omega, by omega, fun M3 hM4 => lc_range (lo := 0) (n := ((B.length : Int) - 1).toNat) (fun i H' => Same H2 H' ∧ H' M3 = some (.lst (((List.range i).map (ascA B)).map V.bl))) ⟨same_new hM4, upd_same⟩ ?_ ?_⟩
              · rintro i H3 hi ⟨s3, hM5⟩
                have hb := same_t s3 hpb2
                have e1 : B[i]? = some (B[i]'(by omega)) := List.getElem?_eq_getElem _
                have e2 : B[i + 1]? = some (B[i + 1]'(by omega)) := List.getElem?_eq_getElem _
                generalize B[i]'(by omega) = x at e1
                generalize B[i + 1]'(by omega) = y at e2
                have g1 : (B.map V.int)[i]? = some (.int x) := by
                  rw [List.getElem?_map, e1]
                  rfl
                have g2 : (B.map V.int)[i + 1]? = some (.int y) := by
                  rw [List.getElem?_map, e2]
                  rfl
                have ea : ascA B i = decide (x < y) := by
                  unfold ascA
                  rw [e1, e2]
                refine ⟨rfl, _, rfl, _, rfl, pb, _, _, _, rfl, rfl, hb, (by rw [Int.zero_add]; exact atI_nat g1), _, rfl, _, rfl, _, _, rfl, rfl, pb, _, _, _, rfl, rfl, hb, (by rw [show (0 : Int) + (i : Int) + 1 = ((i + 1 : Nat) : Int) by omega]; exact atI_nat g2), _, _, rfl, rfl, _, hM5, by rw [List.length_map, List.length_map, List.length_range]; exact line6 (by omega), same_mut s3 hM4, ?_⟩
                rw [upd_same, List.range_succ, List.map_append, List.map_append]
                show some (HO.lst (_ ++ [V.bl (decide (x < y))])) = some (HO.lst (_ ++ [V.bl (ascA B i)]))
                rw [ea]
              · rintro H3 ⟨s3, hM5⟩
                refine ⟨M3, (List.range ((B.length : Int) - 1).toNat).map (ascA B), rfl, SqL.of hM5, ?_⟩
                have eg : gB (GoodW z R B) = ((List.range ((B.length : Int) - 1).toNat).map (ascA B)).all id := by
                  refine gB_eq ?_
                  rw [asc_all]
                  constructor
                  · exact fun k => k.2.2.2.2.2
                  · exact fun k => ⟨ez, h1, h2, h3', h4', k⟩
                rw [← eg]
                exact q H3 (s12.trans s3)
    case _ =>
      have h1 : ¬ 1 ≤ R.length := by
        have : ¬ (1 : Int) ≤ (R.length : Int) := of_decide_eq_false (Bool.eq_false_iff.mpr h1)
        omega
      refine ⟨_, rfl, ?_⟩
      refine ite2 (fun _ => bad fun k => h1 k.2.1) (fun h => absurd rfl h)
end
end Mt
namespace Mt
open PySem PySem.Spec PyProof.Rows L2
theorem cut_to {xs : List V} {k : Nat} : cutV xs none (some (k : Int)) = xs.take k := by
  unfold cutV
  rw [HT.sIx_none, HT.sIx_nat]
  by_cases e : k ≤ xs.length
  · rw [Nat.min_eq_left e]
    rfl
  · rw [Nat.min_eq_right (by omega)]
    show (xs.drop 0).take (xs.length - 0) = _
    rw [List.drop_zero, List.take_of_length_le (by omega), List.take_of_length_le (by omega)]
theorem nodup_take {α : Type} {l : List α} : l.Nodup ↔ ∀ k x, l[k]? = some x → x ∉ l.take k := by
  constructor
  · intro h k x hx hm
    obtain ⟨hk, ek⟩ := List.getElem?_eq_some_iff.mp hx
    obtain ⟨j, hj, ej⟩ := List.mem_take_iff_getElem.mp hm
    have lt : j < k := by omega
    exact List.pairwise_iff_getElem.mp h j k (by omega) hk lt (by rw [ej, ek])
  · intro h
    refine List.pairwise_iff_getElem.mpr fun i j hi hj lt e => ?_
    exact h j l[j] (List.getElem?_eq_getElem hj) (List.mem_take_iff_getElem.mpr ⟨i, by omega, e⟩)
def noN (l : List (Option Str)) : List (Option Str) := l.filter fun o => o.isNone
theorem noN_snoc (l : List (Option Str)) : noN (l ++ [none]) = noN l ++ [none] := by
  unfold noN
  rw [List.filter_append]
  rfl
theorem noN_nil {l : List (Option Str)} : (noN l).length = 0 ↔ none ∉ l := by
  rw [List.length_eq_zero_iff]
  unfold noN
  rw [List.filter_eq_nil_iff]
  constructor
  · intro h k
    exact h none k rfl
  · intro h o ho e
    cases o with
    | none => exact h ho
    | some s => cases e
/-- what is looked at in a row -/
theorem goodR_iff {m : Int} {r : List OP} : GoodR m r ↔ ((noN (r.map (·.1))).length = 1 ∧ (r.map (·.1)).getLast? = some none) ∧ ∀ k p, r[k]? = some p → p.1 ∉ (r.map (·.1)).take k ∧ 0 ≤ p.2 ∧ p.2 < m := by
  constructor
  · rintro ⟨init, t, rfl, h1, h2, h3⟩
    have e : (init ++ [((none : Option Str), t)]).map (·.1) = init.map (·.1) ++ [none] := by rw [List.map_append]; rfl
    have nd : (init.map (·.1) ++ [(none : Option Str)]).Nodup := List.nodup_append.mpr ⟨h2, List.nodup_cons.mpr ⟨List.not_mem_nil, List.nodup_nil⟩, fun a ha b hb eab => by
      rw [List.mem_singleton.mp hb] at eab
      exact h1 (eab ▸ ha)⟩
    refine ⟨⟨?_, ?_⟩, fun k p hp => ⟨?_, h3 p (List.mem_of_getElem? hp)⟩⟩
    · rw [e, noN_snoc, List.length_append, noN_nil.mpr h1]
      rfl
    · rw [e, List.getLast?_append]
      rfl
    · rw [e]
      refine nodup_take.mp nd k p.1 ?_
      rw [← e, List.getElem?_map, hp]
      rfl
  · rintro ⟨⟨h1, h2⟩, h3⟩
    have hl : r.getLast?.map (·.1) = some none := by
      rw [← List.getLast?_map]
      exact h2
    obtain ⟨⟨o, t⟩, hq, ho⟩ := Option.map_eq_some_iff.mp hl
    obtain ⟨init, rfl⟩ := List.getLast?_eq_some_iff.mp hq
    have ho : o = none := ho
    subst ho
    have e : (init ++ [((none : Option Str), t)]).map (·.1) = init.map (·.1) ++ [none] := by rw [List.map_append]; rfl
    rw [e, noN_snoc, List.length_append] at h1
    have h1 : (noN (init.map (·.1))).length = 0 := by
      have : (noN (init.map (·.1))).length + 1 = 1 := h1
      omega
    have nd : (init.map (·.1) ++ [(none : Option Str)]).Nodup := nodup_take.mpr fun k x hx => by
      rw [← e, List.getElem?_map] at hx
      obtain ⟨p, hp, rfl⟩ := Option.map_eq_some_iff.mp hx
      have := (h3 k p hp).1
      rw [e] at this
      exact this
    refine ⟨init, t, rfl, noN_nil.mp h1, (List.nodup_append.mp nd).1, fun p hp => ?_⟩
    obtain ⟨k, hk⟩ := List.mem_iff_getElem?.mp hp
    exact (h3 k p hk).2
theorem inV_O (o : Option Str) (l : List (Option Str)) : inV (vO o) (l.map vO) = decide (o ∈ l) := by
  unfold inV
  rw [List.any_map, Bool.eq_iff_iff, List.any_eq_true, decide_eq_true_iff]
  constructor
  · rintro ⟨s, hs, h⟩
    cases s with
    | none =>
      cases o with
      | none => exact hs
      | some z => cases (show false = true from h)
    | some y =>
      cases o with
      | none => cases (show false = true from h)
      | some z =>
        have h : (y == z) = true := h
        rw [← eq_of_beq h]
        exact hs
  · intro h
    refine ⟨o, h, ?_⟩
    cases o with
    | none => rfl
    | some z => exact (beq_self_eq_true z : (z == z) = true)
section
variable {P : Program} {w : World} {K : PySem.W.Frag} {mg : Str → Option Value} {base : Heap}
theorem ok__law_is_watch (T : Txt K mg) {f : Addr} {fd : FuncData} (F : FnP K "_law_is_watch" s__law_is_watch f fd) : FnOk P w K mg base CX0 1 f fd ["watch"] (spIsW K) := by
  refine F.ok sc__law_is_watch (fun vs H Q E h => ?_) (fun cdv A outer s H vs Q E hr h => ?_)
  · obtain ⟨v, z, R, B, rfl, _⟩ := h
    rfl
  · obtain ⟨v, z, R, B, rfl, hv, few, q⟩ := h
    refine ⟨_, PSs.nox (pss_cons (ps_set (i := 1) sc__law_is_watch.nd rfl (Or.inl rfl) (pe_callB call_len (by rfl) T.b_len (by decide +kernel) (pa_cons (pe_ix ix_tup (pv 0) pe_int (fun _ _ => rfl)) pa_nil)))
      (pss_cons (ps_if (PW.pt (pw_or (pt_cmpR op_ne (pe_ix ix_tup (pv 0) pe_int (fun _ _ => rfl)) pe_str (nomark _)) (pw_or (pt_cmpR op_lt (pv 1) pe_int (nomark _)) (pw_or1 (pt_cmpR op_gt (pv 1) pe_int (nomark _)))))) (pss_one (ps_ret pe_bl)) pss_nil)
      (pss_cons (ps_for PassesOwn.never rfl (pi_tup (pe_ix ix_tup (pv 0) pe_int (fun _ _ => rfl))) (pg_name (i := 2) sc__law_is_watch.nd rfl (Or.inl rfl)) (pss_cons (ps_setLc (i := 3) (own := [("pair", 4)]) (g := (gName 4)) (tt := tYes) rfl sc__law_is_watch.nd rfl rfl (sw_true rfl rfl rfl (by decide +kernel)) (pi_tup (pv 2)) (blkOk_by (N := N__law_is_watch) (sc := defScope s__law_is_watch) (by decide +kernel)) (fun _ _ _ _ _ => (pg_name (i := 4) sc__law_is_watch.nd rfl (Or.inl rfl))) (fun _ _ _ _ _ => pts_nil) (fun _ _ _ _ _ => (pe_ix (ixT (K := K) rfl) (pv 4) pe_int (fun _ _ => rfl))))
      (pss_cons (ps_if (PW.pt (pw_or (pt_cmpR op_ne (pe_callB call_len (by rfl) T.b_len (by decide +kernel) (pa_cons (pe_lc (own := [("mark", 5)]) (g := (gName 5)) rfl sc__law_is_watch.nd (pi_list (pv 3)) (blkOk_by (N := N__law_is_watch) (sc := defScope s__law_is_watch) (by decide +kernel)) (fun _ _ _ _ _ => (pg_name (i := 5) sc__law_is_watch.nd rfl (Or.inl rfl))) (fun _ _ _ _ _ => (pts_one (pt_cmpR op_isN (pv 5) pe_non (nomark _)))) (fun _ _ _ _ _ => (pv 5))) pa_nil)) pe_int (nomark _)) (pw_or1 (pt_cmpR op_notN (pe_ix ix_list (pv 3) (pe_un un_neg pe_int) (fun _ _ => rfl)) pe_non (nomark _))))) (pss_one (ps_ret pe_bl)) pss_nil)
      (pss_one (ps_for PassesOwn.never rfl (pi_range1 (by rfl) T.b_range (pa_cons (pe_callB call_len (by rfl) T.b_len (by decide +kernel) (pa_cons (pv 2) pa_nil)) pa_nil)) (pg_name (i := 6) sc__law_is_watch.nd rfl (Or.inl rfl)) (pss_one (ps_if (PW.pt (pw_or (pt_cmpR op_in_seq (pe_ix ix_list (pv 3) (pv 6) (fun _ _ => rfl)) (pe_slice sl_list (pv 3) po_none (po_some (pv 6))) (by rfl)) (pw_or1 (pt_not (pt_chain op_le op_lt pe_int (pe_ix ix_tup (pe_ix ix_tup (pv 2) (pv 6) (fun _ _ => rfl)) pe_int (fun _ _ => rfl)) (pv 1)))))) (pss_one (ps_ret pe_bl)) pss_nil)))))))
      (pss_cons (ps_for PassesOwn.never rfl (pi_range1 (by rfl) T.b_range (pa_cons (pe_callB call_len (by rfl) T.b_len (by decide +kernel) (pa_cons (pe_ix ix_tup (pv 0) pe_int (fun _ _ => rfl)) pa_nil)) pa_nil)) (pg_name (i := 6) sc__law_is_watch.nd rfl (Or.inl rfl)) (pss_one (ps_if (PW.pt (pw_or (pt_not (pt_chain op_le op_lt pe_int (pe_ix ix_tup (pe_ix ix_tup (pv 0) pe_int (fun _ _ => rfl)) (pv 6) (fun _ _ => rfl)) (pv 1))) (pw_or1 (PW.pt (pw_and (pt_cmpR op_gt (pv 6) pe_int (nomark _)) (pw_and1 (pt_cmpR op_ge (pe_ix ix_tup (pe_ix ix_tup (pv 0) pe_int (fun _ _ => rfl)) (pe_op op_sub (pv 6) pe_int) (fun _ _ => rfl)) (pe_ix ix_tup (pe_ix ix_tup (pv 0) pe_int (fun _ _ => rfl)) (pv 6) (fun _ _ => rfl)) (nomark _)))))))) (pss_one (ps_ret pe_bl)) pss_nil)))
      (pss_one (ps_ret pe_bl)))))), ?_⟩
    obtain ⟨p, pq, pb, xs, rfl, hp, hpq, hA, hpb⟩ := gw_at hv
    have xl := dpA_len hA
    rw [List.length_map] at xl
    have rl := few.r
    have bl := few.b
    have bad : ∀ H', Same H H' → ¬ GoodW z R B → Q (.bl false) H' := fun H' s k => by
      have := q H' s
      rw [gB_f k] at this
      exact this
    refine ⟨_, rfl, p, _, _, _, rfl, rfl, hp, atI_nat (j := 1) rfl, _, _, rfl, .inr ⟨_, hpq, rfl⟩, ?_⟩
    rw [xl]
    refine ⟨_, rfl, p, _, _, _, rfl, rfl, hp, atI_nat (j := 0) rfl, rfl, ?_⟩
    by_cases ez : z = "watch"
    case neg =>
      have ne : ¬ (V.str z = V.str "watch") := fun h => ez (V.str.inj h)
      rw [decide_eq_false ne]
      exact ⟨_, rfl, ite2 (fun _ => ite2 (fun _ => bad _ (Same.refl _) fun k => ez k.1) (fun h => absurd rfl h)) (fun h => absurd rfl h)⟩
    rw [ez, decide_eq_true rfl]
    refine ⟨_, rfl, ite2 (fun h => (nomatch (show false = true from h))) (fun _ => ?_)⟩
    by_cases h1 : 1 ≤ R.length
    case neg =>
      have e1 : decide ((R.length : Int) < 1) = true := decide_eq_true (by omega)
      refine ⟨_, rfl, _, _, rfl, rfl, _, rfl, ite2 (fun _ => ite2 (fun _ => bad _ (Same.refl _) fun k => h1 k.2.1) (fun h => absurd rfl h)) (fun h => absurd e1 h)⟩
    have e1 : decide ((R.length : Int) < 1) = false := decide_eq_false (by omega)
    refine ⟨_, rfl, _, _, rfl, rfl, _, rfl, ite2 (fun h => ?_) (fun _ => ?_)⟩
    · rw [e1] at h
      cases h
    by_cases h2 : R.length ≤ 12
    case neg =>
      have e2 : decide ((12 : Int) < (R.length : Int)) = true := decide_eq_true (by omega)
      refine ⟨_, rfl, _, _, rfl, rfl, _, rfl, ite2 (fun _ => bad _ (Same.refl _) fun k => h2 k.2.2.1) (fun h => absurd e2 h)⟩
    have e2 : decide ((12 : Int) < (R.length : Int)) = false := decide_eq_false (by omega)
    refine ⟨_, rfl, _, _, rfl, rfl, _, rfl, ite2 (fun h => ?_) (fun _ => ?_)⟩
    · rw [e2] at h
      cases h
    refine ⟨_, rfl, p, _, _, _, rfl, rfl, hp, atI_nat (j := 1) rfl, pq, rfl, ⟨_, hpq⟩, for_tup (K := K) (a := pq) (xs := xs) (fun i σ H' => ∃ (y2 y3 y4 y5 y6 : Option V), σ = [some (.ref p), some (.int R.length), y2, y3, y4, y5, y6] ∧ Same H H' ∧ ∀ r ∈ R.take i, GoodR (R.length : Int) r) ⟨_, _, _, _, _, rfl, Same.refl _, fun _ h => absurd h List.not_mem_nil⟩ (fun i σ H' _ e => by
      obtain ⟨_, _, _, _, _, _, s, _⟩ := e
      exact same_t s hpq) ?_ ?_⟩
    · rintro i x σ H1 hi ⟨y2, y3, y4, y5, y6, rfl, s1, gs⟩
      obtain ⟨r, hr, dx⟩ := dpA_mem (dpA_same s1 _ _ hA) hi
      obtain ⟨pr, us, rfl, hpr, hus⟩ := dp_tup dx
      have ul := dpA_len hus
      rw [List.length_map] at ul
      have r1000 := few.e r (List.mem_of_getElem? hr)
      have badr : ∀ H', Same H1 H' → ¬ GoodR (R.length : Int) r → Q (.bl false) H' := fun H' s k => bad H' (s1.trans s) fun g => k (g.2.2.2.1 r (List.mem_of_getElem? hr))
      refine ⟨_, rfl, pr, rfl, ⟨_, hpr⟩, fun M hM => lc_tup (K := K) (a := pr) (xs := us) (fun i H' => Same H1 H' ∧ H' M = some (.lst (((r.take i).map (·.1)).map vO))) ⟨same_new hM, upd_same⟩ (fun i H' _ e => same_t e.1 hpr) ?_ ?_⟩
      · rintro j x H2 hj ⟨s2, hM2⟩
        obtain ⟨u, hu, du⟩ := dpA_mem (dpA_same s2 _ _ hus) hj
        obtain ⟨pu, rfl, hpu⟩ := op_at du
        have hu' := (List.getElem?_eq_some_iff.mp hu).1
        refine ⟨rfl, _, rfl, pu, _, _, _, rfl, rfl, hpu, atI_nat (j := 0) rfl, _, hM2, by rw [List.length_map, List.length_map, List.length_take]; exact line6 (by omega), same_mut s2 hM, ?_⟩
        rw [upd_same, take_snoc hu, List.map_append, List.map_append]
        rfl
      · rintro H2 ⟨s2, hM2⟩
        rw [ul, List.take_length] at hM2
        have ml : (r.map (·.1)).length = r.length := List.length_map _
        refine ⟨_, rfl, M, rfl, ⟨_, SqL.of hM2⟩, fun M2 hM3 => lc_list (K := K) (a := M) (xs := (r.map (·.1)).map vO) (fun i H' => Same H2 H' ∧ H' M2 = some (.lst ((noN ((r.map (·.1)).take i)).map vO))) ⟨same_new hM3, upd_same⟩ (fun i H' _ e => same_l e.1 (SqL.of hM2)) ?_ ?_⟩
        · rintro j x H3 hj ⟨s3, hM4⟩
          rw [List.getElem?_map] at hj
          obtain ⟨o, ho, rfl⟩ := Option.map_eq_some_iff.mp hj
          have jl := (List.getElem?_eq_some_iff.mp ho).1
          have nl : (noN ((r.map (·.1)).take j)).length ≤ j := by
            have h := List.length_filter_le (fun o : Option Str => o.isNone) ((r.map (·.1)).take j)
            rw [List.length_take] at h
            have h : (noN ((r.map (·.1)).take j)).length ≤ _ := h
            omega
          refine ⟨rfl, _, rfl, rfl, _, rfl, ?_⟩
          cases o with
          | none =>
            refine ite2 (fun _ => ?_) (fun h => absurd rfl h)
            refine ⟨_, rfl, _, hM4, by rw [List.length_map]; exact line6 (by omega), same_mut s3 hM3, ?_⟩
            rw [upd_same, take_snoc ho, noN_snoc, List.map_append]
            rfl
          | some z =>
            refine ite2 (fun h => (nomatch (show false = true from h))) (fun _ => ?_)
            refine ⟨s3, ?_⟩
            rw [hM4, take_snoc ho]
            unfold noN
            rw [List.filter_append]
            show _ = some (HO.lst (List.map vO (_ ++ [])))
            rw [List.append_nil]
        · rintro H3 ⟨s3, hM4⟩
          rw [List.length_map, List.take_length] at hM4
          have s23 := s2.trans s3
          refine ⟨_, _, rfl, .inl ⟨_, SqL.of hM4, rfl⟩, rfl, ?_⟩
          rw [List.length_map]
          by_cases hc : (noN (r.map (·.1))).length = 1
          case neg =>
            have e : ¬ (V.int (((noN (r.map (·.1))).length : Nat) : Int) = V.int 1) := fun h => hc (by
              have := V.int.inj h
              omega)
            rw [decide_eq_false e]
            exact ⟨_, rfl, ite2 (fun _ => ite2 (fun _ => badr _ s23 fun g => hc (goodR_iff.mp g).1.1) (fun h => absurd rfl h)) (fun h => absurd rfl h)⟩
          rw [hc]
          refine ⟨_, rfl, ite2 (fun h => (nomatch (show false = true from h))) (fun _ => ?_)⟩
          have hM5 := s3 _ _ hM2
          obtain ⟨o, hlo⟩ : ∃ o, (r.map (·.1)).getLast? = some o := by
            cases e : (r.map (·.1)).getLast? with
            | some o => exact ⟨o, rfl⟩
            | none =>
              rw [List.getLast?_eq_none_iff.mp e] at hc
              cases hc
          have hlo' : ((r.map (·.1)).map vO).getLast? = some (vO o) := by
            rw [List.getLast?_map, hlo]
            rfl
          refine ⟨_, rfl, _, rfl, M, _, _, _, rfl, rfl, SqL.of hM5, atI_m1 hlo', rfl, _, rfl, ?_⟩
          cases o with
          | some z =>
            refine ite2 (fun _ => ?_) (fun h => absurd rfl h)
            refine badr _ s23 fun g => ?_
            have := (goodR_iff.mp g).1.2
            rw [hlo] at this
            cases this
          | none =>
            refine ite2 (fun h => (nomatch (show false = true from h))) (fun _ => ?_)
            have hpr3 := same_t s23 hpr
            have hus3 := dpA_same s23 _ _ hus
            refine ⟨_, rfl, _, _, rfl, .inr ⟨_, hpr3, rfl⟩, _, rfl, by omega, by omega, for_range (lo := 0) (n := us.length) (fun j σ H' => ∃ (y4 y5 y6 : Option V), σ = [some (.ref p), some (.int R.length), some (.ref pr), some (.ref M), y4, y5, y6] ∧ Same H3 H' ∧ ∀ k q, k < j → r[k]? = some q → q.1 ∉ (r.map (·.1)).take k ∧ 0 ≤ q.2 ∧ q.2 < (R.length : Int)) ⟨_, _, _, rfl, Same.refl _, fun _ _ h => absurd h (Nat.not_lt_zero _)⟩ ?_ ?_⟩
            · rintro j σ H4 hj ⟨y4, y5, y6, rfl, s4, gk⟩
              have hM6 := s4 _ _ hM5
              have hjr : j < r.length := by omega
              have er : r[j]? = some r[j] := List.getElem?_eq_getElem hjr
              generalize r[j] = u at er
              obtain ⟨x, hx, du⟩ := dpA_get (dpA_same s4 _ _ hus3) er
              obtain ⟨pu, rfl, hpu⟩ := op_at du
              have em : ((r.map (·.1)).map vO)[j]? = some (vO u.1) := by
                rw [List.getElem?_map, List.getElem?_map, er]
                rfl
              refine ⟨_, rfl, _, rfl, M, _, _, _, rfl, rfl, SqL.of hM6, (by rw [Int.zero_add]; exact atI_nat em), _, rfl, _, rfl, _, rfl, M, _, rfl, SqL.of hM6, fun pc hpc => ?_⟩
              rw [Int.zero_add, cut_to, ← List.map_take]
              have t1 := same_new (o := .lst (((r.map (·.1)).take j).map vO)) hpc
              have e1 := upd_same (H := H4) (a := pc) (o := .lst (((r.map (·.1)).take j).map vO))
              generalize upd H4 pc (.lst (((r.map (·.1)).take j).map vO)) = H5 at t1 e1
              have s45 := s4.trans t1
              have s15 := s23.trans s45
              refine ⟨pc, _, rfl, .inl (SqL.of e1), vO_flat _, flat_O _, ?_⟩
              show ∃ c, V.bl (inV (vO u.1) (((r.map (·.1)).take j).map vO)) = V.bl c ∧ _
              rw [inV_O]
              by_cases hd : u.1 ∈ (r.map (·.1)).take j
              case pos =>
                rw [decide_eq_true hd]
                exact ⟨_, rfl, ite2 (fun _ => ite2 (fun _ => badr _ s15 fun g => ((goodR_iff.mp g).2 j u er).1 hd) (fun h => absurd rfl h)) (fun h => absurd rfl h)⟩
              rw [decide_eq_false hd]
              refine ⟨_, rfl, ite2 (fun h => (nomatch (show false = true from h))) (fun _ => ?_)⟩
              have hpr5 := same_t s45 hpr3
              have hpu5 := same_t t1 hpu
              refine ⟨_, rfl, _, rfl, pr, _, _, _, rfl, rfl, hpr5, atI_nat hx, pu, _, _, _, rfl, rfl, hpu5, atI_nat (j := 1) rfl, _, _, rfl, rfl, _, rfl, ite2 (fun h0 => ?_) (fun h0 => ?_)⟩
              · have h0 : 0 ≤ u.2 := of_decide_eq_true h0
                refine ⟨_, rfl, _, _, rfl, rfl, _, rfl, ?_⟩
                by_cases hm : u.2 < (R.length : Int)
                · rw [decide_eq_true hm]
                  refine ite2 (fun h => (nomatch (show false = true from h))) (fun _ => ?_)
                  refine ⟨_, _, _, rfl, s45, fun k q hk hq => ?_⟩
                  by_cases ek : k = j
                  · subst ek
                    rw [er] at hq
                    cases hq
                    exact ⟨hd, h0, hm⟩
                  · exact gk k q (by omega) hq
                · rw [decide_eq_false hm]
                  exact ite2 (fun _ => badr _ s15 fun g => hm ((goodR_iff.mp g).2 j u er).2.2) (fun h => absurd rfl h)
              · have h0 : ¬ 0 ≤ u.2 := of_decide_eq_false (Bool.eq_false_iff.mpr h0)
                refine ⟨_, rfl, ?_⟩
                refine ite2 (fun _ => badr _ s15 fun g => h0 ((goodR_iff.mp g).2 j u er).2.1) (fun h => absurd rfl h)
            · rintro σ H4 ⟨y4, y5, y6, rfl, s4, gk⟩
              refine ⟨_, _, _, _, _, rfl, s1.trans (s23.trans s4), fun x hx => ?_⟩
              rw [take_snoc hr] at hx
              rcases List.mem_append.mp hx with h | h
              · exact gs x h
              · rw [List.mem_singleton.mp h]
                exact goodR_iff.mpr ⟨⟨hc, hlo⟩, fun k q hq => gk k q (by
                  have := (List.getElem?_eq_some_iff.mp hq).1
                  omega) hq⟩
    · rintro σ H1 ⟨y2, y3, y4, y5, y6, rfl, s1, gs⟩
      rw [xl, List.take_length] at gs
      have hp1 := same_t s1 hp
      have hb1 := same_t s1 hpb
      refine ⟨_, rfl, p, _, _, _, rfl, rfl, hp1, atI_nat (j := 2) rfl, _, _, rfl, .inr ⟨_, hb1, rfl⟩, ?_⟩
      rw [List.length_map]
      refine ⟨_, rfl, by omega, by omega, for_range (lo := 0) (n := B.length) (fun j σ H' => ∃ (y2 y3 y4 y5 y6 : Option V), σ = [some (.ref p), some (.int R.length), y2, y3, y4, y5, y6] ∧ Same H H' ∧ (∀ k x, k < j → B[k]? = some x → 0 ≤ x ∧ x < (R.length : Int)) ∧ ∀ k x y, k + 1 < j → B[k]? = some x → B[k + 1]? = some y → x < y) ⟨_, _, _, _, _, rfl, s1, fun _ _ h => absurd h (Nat.not_lt_zero _), fun _ _ _ h => absurd h (Nat.not_lt_zero _)⟩ ?_ ?_⟩
      · rintro j σ H2 hj ⟨y2, y3, y4, y5, y6, rfl, s2, g1, g2⟩
        have hp2 := same_t s2 hp
        have hb2 := same_t s2 hpb
        have er : B[j]? = some B[j] := List.getElem?_eq_getElem hj
        generalize B[j] = u at er
        have hx : (B.map V.int)[j]? = some (.int u) := by
          rw [List.getElem?_map, er]
          rfl
        refine ⟨_, rfl, p, _, _, _, rfl, rfl, hp2, atI_nat (j := 2) rfl, _, rfl, pb, _, _, _, rfl, rfl, hb2, (by rw [Int.zero_add]; exact atI_nat hx), _, _, rfl, rfl, _, rfl, ite2 (fun h0 => ?_) (fun h0 => ?_)⟩
        · have h0 : 0 ≤ u := of_decide_eq_true h0
          refine ⟨_, rfl, _, _, rfl, rfl, _, rfl, ?_⟩
          by_cases hm : u < (R.length : Int)
          case neg =>
            rw [decide_eq_false hm]
            exact ite2 (fun _ => ite2 (fun _ => bad _ s2 fun g => hm (g.2.2.2.2.1 u (List.mem_of_getElem? er)).2) (fun h => absurd rfl h)) (fun h => absurd rfl h)
          rw [decide_eq_true hm]
          refine ite2 (fun h => (nomatch (show false = true from h))) (fun _ => ?_)
          have g1' : ∀ k x, k < j + 1 → B[k]? = some x → 0 ≤ x ∧ x < (R.length : Int) := fun k x hk hx' => by
            by_cases ek : k = j
            · subst ek
              rw [er] at hx'
              cases hx'
              exact ⟨h0, hm⟩
            · exact g1 k x (by omega) hx'
          refine ⟨_, rfl, _, _, rfl, rfl, _, rfl, ite2 (fun hk => ?_) (fun hk => ?_)⟩
          · have hj0 : 0 < j := by
              have := of_decide_eq_true hk
              omega
            obtain ⟨i, rfl⟩ : ∃ i, j = i + 1 := ⟨j - 1, by omega⟩
            have ep : B[i]? = some (B[i]'(by omega)) := List.getElem?_eq_getElem _
            generalize B[i]'(by omega) = w' at ep
            have hy : (B.map V.int)[i]? = some (.int w') := by
              rw [List.getElem?_map, ep]
              rfl
            refine ⟨_, rfl, p, _, _, _, rfl, rfl, hp2, atI_nat (j := 2) rfl, _, rfl, _, _, rfl, rfl, pb, _, _, _, rfl, rfl, hb2, (by rw [show (0 : Int) + ((i + 1 : Nat) : Int) - 1 = (i : Int) by omega]; exact atI_nat hy), _, rfl, p, _, _, _, rfl, rfl, hp2, atI_nat (j := 2) rfl, _, rfl, pb, _, _, _, rfl, rfl, hb2, (by rw [Int.zero_add]; exact atI_nat hx), _, _, rfl, rfl, _, rfl, ite2 (fun hge => ?_) (fun hge => ?_)⟩
            · have hge : u ≤ w' := of_decide_eq_true hge
              refine bad _ s2 fun g => ?_
              have := g.2.2.2.2.2 i w' u ep er
              omega
            · have hge : ¬ u ≤ w' := of_decide_eq_false (Bool.eq_false_iff.mpr hge)
              refine ⟨_, _, _, _, _, rfl, s2, g1', fun k x y hk hx' hy' => ?_⟩
              by_cases ek : k = i
              · subst ek
                rw [ep] at hx'
                rw [er] at hy'
                cases hx'
                cases hy'
                omega
              · exact g2 k x y (by omega) hx' hy'
          · have hj0 : ¬ 0 < j := by
              have := of_decide_eq_false (Bool.eq_false_iff.mpr hk)
              omega
            refine ite2 (fun h => (nomatch (show false = true from h))) (fun _ => ?_)
            exact ⟨_, _, _, _, _, rfl, s2, g1', fun k x y hk => absurd hk (by omega)⟩
        · have h0 : ¬ 0 ≤ u := of_decide_eq_false (Bool.eq_false_iff.mpr h0)
          refine ⟨_, rfl, ?_⟩
          exact ite2 (fun _ => ite2 (fun _ => bad _ s2 fun g => h0 (g.2.2.2.2.1 u (List.mem_of_getElem? er)).1) (fun h => absurd rfl h)) (fun h => absurd rfl h)
      · rintro σ H2 ⟨y2, y3, y4, y5, y6, rfl, s2, g1, g2⟩
        have good : GoodW z R B := ⟨ez, h1, h2, gs, fun x hx => by
          obtain ⟨k, hk⟩ := List.mem_iff_getElem?.mp hx
          exact g1 k x (List.getElem?_eq_some_iff.mp hk).1 hk, fun i x y hx hy => g2 i x y (List.getElem?_eq_some_iff.mp hy).1 hx hy⟩
        have := q H2 s2
        rw [gB_t good] at this
        exact this
end
end Mt
namespace Mt
open PySem PySem.Spec PyProof.Rows L2
def spWith (K : PySem.W.Frag) : Sp := fun vs H Q _ => ∃ (x y : V) (k : Nat) (ds : List PyData) (e : PyData), vs = [x, .int (k : Int), y] ∧ Dp K H x (.tuple ds) ∧ Dp K H y e ∧ k < ds.length ∧ ds.length ≤ 100 ∧
  ∀ (H' : Hp) (v : V), Same H H' → Dp K H' v (.tuple (ds.take k ++ [e] ++ ds.drop (k + 1))) → Q v H'
theorem slA_mono {K : PySem.W.Frag} {x : V} {lo hi : Option Int} {H : Hp} {Q Q' : VK} (h : rSlA K x lo hi H Q) (m : ∀ v H', Q v H' → Q' v H') : rSlA K x lo hi H Q' := by
  obtain ⟨a, xs, e, hx, q1, q2⟩ := h
  exact ⟨a, xs, e, hx, fun w => m _ _ (q1 w), fun w p hp => m _ _ (q2 w p hp)⟩
theorem dpA_drop {K : PySem.W.Frag} {H : Hp} : ∀ {ds : List PyData} {xs : List V} (i : Nat), DpAll K H xs ds → DpAll K H (xs.drop i) (ds.drop i)
  | [], xs, i, h => by
    rw [dpA_nil h, List.drop_nil, List.drop_nil]
    rw [dpA_nil h] at h
    exact h
  | _ :: _, _, 0, h => h
  | d :: ds, xs, i + 1, h => by
    obtain ⟨x, r, rfl, _, h2⟩ := dpA_cons h
    exact dpA_drop i h2
theorem sl_to {K : PySem.W.Frag} {H : Hp} {x : V} {ds : List PyData} (hx : Dp K H x (.tuple ds)) (k : Nat) : rSlA K x none (some (k : Int)) H (fun v H' => Same H H' ∧ Dp K H' v (.tuple (ds.take k))) := by
  obtain ⟨a, xs, rfl, ha, h1⟩ := dp_tup hx
  have l := dpA_len h1
  refine ⟨a, xs, rfl, ha, fun hw => ⟨Same.refl _, ?_⟩, fun _ p hp => ⟨same_new hp, ?_⟩⟩
  · have h := hw.2
    rw [HT.sIx_nat] at h
    rw [List.take_of_length_le (by omega)]
    exact .tup ha h1
  · rw [cut_to]
    exact .tup (SqT.of upd_same) (dpA_same (same_new hp) _ _ (dpA_take k h1))
theorem cut_from {xs : List V} {k : Nat} (h : k ≤ xs.length) : cutV xs (some (k : Int)) none = xs.drop k := by
  unfold cutV
  rw [HT.sIx_none, HT.sIx_nat, Nat.min_eq_left h]
  exact List.take_of_length_le (by rw [List.length_drop]; omega)
theorem sl_from {K : PySem.W.Frag} {H : Hp} {x : V} {ds : List PyData} (hx : Dp K H x (.tuple ds)) {k : Nat} (hk : k ≤ ds.length) : rSlA K x (some (k : Int)) none H (fun v H' => Same H H' ∧ Dp K H' v (.tuple (ds.drop k))) := by
  obtain ⟨a, xs, rfl, ha, h1⟩ := dp_tup hx
  have l := dpA_len h1
  refine ⟨a, xs, rfl, ha, fun hw => ⟨Same.refl _, ?_⟩, fun _ p hp => ⟨same_new hp, ?_⟩⟩
  · have h := hw.1
    rw [HT.sIx_nat] at h
    have : k = 0 := by omega
    subst this
    exact .tup ha h1
  · rw [cut_from (by omega)]
    exact .tup (SqT.of upd_same) (dpA_same (same_new hp) _ _ (dpA_drop k h1))
section
variable {P : Program} {w : World} {K : PySem.W.Frag} {mg : Str → Option Value} {base : Heap}
theorem ok__law_with (T : Txt K mg) {f : Addr} {fd : FuncData} (F : FnP K "_law_with" s__law_with f fd) : FnOk P w K mg base CX0 1 f fd ["row", "k", "thing"] (spWith K) := by
  refine F.ok sc__law_with (fun vs H Q E h => ?_) (fun cdv A outer s H vs Q E hr h => ?_)
  · obtain ⟨x, y, k, ds, e, rfl, _⟩ := h
    rfl
  · obtain ⟨x, y, k, ds, e, rfl, hx, hy, hk, hl, q⟩ := h
    refine ⟨_, PSs.nox (pss_one (ps_ret (pe_op op_catA (pe_op op_catA (pe_slice sl_tupA (pv 0) po_none (po_some (pv 1))) (pe_tup (pa_cons (pv 2) pa_nil))) (pe_slice sl_tupA (pv 0) (po_some (pe_op op_add (pv 1) pe_int)) po_none)))), ?_⟩
    refine ⟨_, rfl, _, rfl, _, rfl, slA_mono (sl_to hx k) fun v1 H1 hh => ?_⟩
    obtain ⟨s1, d1⟩ := hh
    refine ⟨_, rfl, by show 1 ≤ sizeLine; decide, fun p2 hp2 => ?_⟩
    have t1 := same_new (o := .tup [y]) hp2
    have s2 := s1.trans t1
    have d2 : Dp K (upd H1 p2 (.tup [y])) (.ref p2) (.tuple [e]) := .tup (SqT.of upd_same) (.cons (dp_same s2 _ _ hy) .nil)
    have d1 := dp_same t1 _ _ d1
    generalize upd H1 p2 (.tup [y]) = H2 at s2 d2 d1
    refine catA_mono (cat_W d1 d2 (by rw [List.length_take]; show _ + 1 ≤ _; omega)) fun v3 H3 hh => ?_
    obtain ⟨s3, d3⟩ := hh
    have s3 := s2.trans s3
    refine ⟨_, rfl, _, rfl, _, _, rfl, rfl, _, rfl, ?_⟩
    have hs : rSlA K x (some ((k : Int) + 1)) none H3 (fun v H' => Same H3 H' ∧ Dp K H' v (.tuple (ds.drop (k + 1)))) := sl_from (dp_same s3 _ _ hx) (k := k + 1) (by omega)
    dsimp only [tNoPart]
    refine slA_mono hs fun v4 H4 hh => ?_
    obtain ⟨s4, d4⟩ := hh
    refine catA_mono (cat_W (dp_same s4 _ _ d3) d4 (by rw [List.length_append, List.length_take, List.length_drop]; show _ + 1 + _ ≤ _; omega)) fun v5 H5 hh => ?_
    obtain ⟨s5, d5⟩ := hh
    exact q H5 v5 ((s3.trans s4).trans s5) d5
end
end Mt
namespace Mt
open PySem PySem.Spec PyProof.Rows L2
abbrev s_wp : Stmt := inClass (topS 8) 2
theorem sc_wp : FnScope ["self"] ["self"] (defScope s_wp) := ⟨rfl, rfl, rfl, by decide +kernel, rfl, by decide +kernel, by decide +kernel⟩
def spLook (C : Addr) : Sp := fun vs H Q _ => ∃ (p dx : Addr) (vw : V) (h : Nat) (b : Bool), vs = [.ref p, .int (h : Int), .bl b] ∧ H p = some (.ins C dx (wf vw h b)) ∧ ∀ H', Same H H' → Q (.bl true) H'
/-- the second thing that a watcher shows -/
structure WchP (P : Program) (w : World) (K : PySem.W.Frag) (mg : Str → Option Value) (base : Heap) (C pA gA : Addr) (fdA : FuncData) : Prop where
  pr : PropOf K C "place" pA gA
  fA_ : FnOk P w K mg base CX0 1 gA fdA ["self"] (getSp C "here")
  bA : Binds K fdA ["self"] []
section
variable {P : Program} {w : World} {K : PySem.W.Frag} {mg : Str → Option Value} {base : Heap} {C : Addr}
theorem ok_wp (X : WTx K C) {f : Addr} {fd : FuncData} (F : FnM K "place" "Watcher.place" s_wp f fd) : FnOk P w K mg base CX0 1 f fd ["self"] (getSp C "here") := by
  refine F.ok sc_wp (fun vs H Q E h => ?_) (fun cdv A outer s H vs Q E hr h => ?_)
  · obtain ⟨a, dx, fs, v, rfl, _⟩ := h
    rfl
  · obtain ⟨a, dx, fs, v, rfl, ha, hl, q⟩ := h
    refine ⟨_, pss_one (ps_ret (pe_fld (pv 0) rfl)), ?_⟩
    exact ⟨_, rfl, a, C, dx, fs, v, rfl, ha, X.cl, X.nH, hl, q⟩
theorem ok__law_looked (T : Txt K mg) (D__law_same : Kept P w K mg base 7 "_law_same" ["told", "due"] (spSm K 5)) (D__law_is_bool : Kept P w K mg base 1 "_law_is_bool" ["told", "due"] spIsBool) {Cw fI fC pB gB pA gA : Addr} {fdI fdB fdA : FuncData} (Wc : Wch P w K mg base Cw fI fC pB gB fdI fdB) (Wp : WchP P w K mg base Cw pA gA fdA) {f : Addr} {fd : FuncData} (F : FnP K "_law_looked" s__law_looked f fd) : FnOk P w K mg base CX0 8 f fd ["watcher", "here", "fell"] (spLook Cw) := by
  refine F.ok sc__law_looked (fun vs H Q E h => ?_) (fun cdv A outer s H vs Q E hr h => ?_)
  · obtain ⟨p, dx, vw, h, b, rfl, _⟩ := h
    rfl
  · obtain ⟨p, dx, vw, h, b, rfl, hp, q⟩ := h
    refine ⟨_, PSs.nox (pss_cons (ps_if (PW.pt (pw_or (pt_not (pt_val (pe_d D__law_same (hr.mono (by decide)) (by rfl) (pa_cons (pe_prop (pv 0) Wc.cl Wp.pr Wp.fA_ (hr.mono (by decide)) Wp.bA .nil pass0 rfl) (pa_cons (pv 1) pa_nil))))) (pw_or1 (pt_not (pt_val (pe_d D__law_is_bool (hr.mono (by decide)) (by rfl) (pa_cons (pe_prop (pv 0) Wc.cl Wc.pr Wc.fB_ (hr.mono (by decide)) Wc.bB .nil pass0 rfl) (pa_cons (pv 2) pa_nil)))))))) (pss_one (ps_ret pe_bl)) pss_nil)
      (pss_one (ps_ret (pe_and (pe_d D__law_same (hr.mono (by decide)) (by rfl) (pa_cons (pe_prop (pv 0) Wc.cl Wp.pr Wp.fA_ (hr.mono (by decide)) Wp.bA .nil pass0 rfl) (pa_cons (pv 1) pa_nil))) (pe_one (pe_d D__law_is_bool (hr.mono (by decide)) (by rfl) (pa_cons (pe_prop (pv 0) Wc.cl Wc.pr Wc.fB_ (hr.mono (by decide)) Wc.bB .nil pass0 rfl) (pa_cons (pv 2) pa_nil)))))))), ?_⟩
    refine ⟨_, rfl, p, dx, _, rfl, hp, p, dx, _, _, rfl, hp, wf_h _ _ _, _, rfl, _, _, .int (h : Int), rfl, .int _, .int _, rfl, by show 0 < 5; decide, fun H1 s1 => ?_⟩
    have hp1 := s1 _ _ hp
    refine ⟨_, rfl, ite2 (fun h => (nomatch (show false = true from h))) (fun _ => ?_)⟩
    refine ⟨_, rfl, p, dx, _, rfl, hp1, p, dx, _, _, rfl, hp1, wf_b _ _ _, _, rfl, _, _, rfl, ?_⟩
    rw [beq_self_eq_true]
    refine ⟨_, rfl, ite2 (fun h => (nomatch (show false = true from h))) (fun _ => ?_)⟩
    refine ⟨_, rfl, p, dx, _, rfl, hp1, p, dx, _, _, rfl, hp1, wf_h _ _ _, _, rfl, _, _, .int (h : Int), rfl, .int _, .int _, rfl, by show 0 < 5; decide, fun H2 s2 => ?_⟩
    have hp2 := s2 _ _ hp1
    refine ⟨_, rfl, ite2 (fun _ => ?_) (fun h => absurd rfl h)⟩
    refine ⟨_, rfl, p, dx, _, rfl, hp2, p, dx, _, _, rfl, hp2, wf_b _ _ _, _, rfl, _, _, rfl, ?_⟩
    rw [beq_self_eq_true]
    exact q _ (s1.trans s2)
end
end Mt
namespace Mt
open PySem PySem.Spec PyProof.Rows L2
def spTurns (K : PySem.W.Frag) : Sp := fun vs H Q _ => ∃ (S D Lw m : Addr) (ws : List V) (Ws : List Wt) (ms : List Str), vs = [.ref D, .ref Lw, .ref m] ∧ DrawAt S D H ∧ Lw ≠ D ∧ m ≠ D ∧ H Lw = some (.lst ws) ∧ DpAll K H ws (Ws.map dWt) ∧ Ws.length = 2 ∧ (∀ W ∈ Ws, WtOk W) ∧
  H m = some (.lst (ms.map V.str)) ∧ 0 < ms.length ∧ ms.length ≤ 100 ∧ ∀ H', Go S D H H' → Q (.bl true) H'
/-- the watchers made, each at its beginning -/
def Tws (C : Addr) (H H' : Hp) (ws : List V) (Ws : List Wt) (M : Addr) (ps : List (Addr × Addr)) : Prop :=
  (ps.map (·.1)).Nodup ∧ ∀ (k : Nat) (z : Addr × Addr), ps[k]? = some z → H z.1 = none ∧ z.1 ≠ M ∧ ∃ (vw : V) (W : Wt), ws[k]? = some vw ∧ Ws[k]? = some W ∧ H' z.1 = some (.ins C z.2 (wf vw 0 (decide (0 ∈ W.bad))))
theorem Tws.snoc {C : Addr} {H H1 H2 : Hp} {ws : List V} {Ws : List Wt} {M p dx : Addr} {ps : List (Addr × Addr)} (t : Tws C H H1 ws Ws M ps) (s : Same H H1) (s2 : Same H1 H2) (hp : H1 p = none) {vw : V} {W : Wt} (e1 : ws[ps.length]? = some vw) (e2 : Ws[ps.length]? = some W)
    (hq : H2 p = some (.ins C dx (wf vw 0 (decide (0 ∈ W.bad))))) (pM : p ≠ M) (o : HO) : Tws C H (upd H2 M o) ws Ws M (ps ++ [(p, dx)]) := by
  refine ⟨?_, fun k z hz => ?_⟩
  · rw [List.map_append]
    refine List.nodup_append.mpr ⟨t.1, List.nodup_cons.mpr ⟨List.not_mem_nil, List.nodup_nil⟩, fun a ha b hb e => ?_⟩
    have hb : b = p := List.mem_singleton.mp hb
    obtain ⟨k, hk⟩ := List.mem_iff_getElem?.mp ha
    rw [List.getElem?_map] at hk
    obtain ⟨z, hz, rfl⟩ := Option.map_eq_some_iff.mp hk
    obtain ⟨_, _, vw', W', _, _, h⟩ := t.2 k z hz
    rw [e, hb, hp] at h
    cases h
  · by_cases hk : k < ps.length
    · rw [List.getElem?_append_left hk] at hz
      obtain ⟨h1, h2, vw', W', h3, h4, h5⟩ := t.2 k z hz
      exact ⟨h1, h2, vw', W', h3, h4, by rw [upd_ne h2]; exact s2 _ _ h5⟩
    · have hl := (List.getElem?_eq_some_iff.mp hz).1
      rw [List.length_append] at hl
      have hl : k < ps.length + 1 := hl
      have ek : k = ps.length := by omega
      subst ek
      rw [List.getElem?_append_right (Nat.le_refl _), Nat.sub_self] at hz
      cases hz
      refine ⟨?_, pM, vw, W, e1, e2, by rw [upd_ne pM]; exact hq⟩
      cases e : H p with
      | none => rfl
      | some o' =>
        have := s _ _ e
        rw [hp] at this
        cases this
theorem none_back {H H' : Hp} {a : Addr} (s : Same H H') (h : H' a = none) : H a = none := by
  cases e : H a with
  | none => rfl
  | some o =>
    rw [s _ _ e] at h
    cases h
theorem Tws.on {C : Addr} {H H1 H2 : Hp} {ws : List V} {Ws : List Wt} {M : Addr} {ps : List (Addr × Addr)} (t : Tws C H H1 ws Ws M ps) (s : Same H1 H2) : Tws C H H2 ws Ws M ps :=
  ⟨t.1, fun k z hz => by
    obtain ⟨h1, h2, vw, W, h3, h4, h5⟩ := t.2 k z hz
    exact ⟨h1, h2, vw, W, h3, h4, s _ _ h5⟩⟩
/-- two watchers at work: what the law's lists hold of them -/
def Twn (C : Addr) (H : Hp) (ws : List V) (Ws : List Wt) (ps : List (Addr × Addr)) (hs : List Nat) (bs : List Bool) : Prop :=
  ∀ (k : Nat) (z : Addr × Addr), ps[k]? = some z → ∃ (vw : V) (W : Wt) (h : Nat) (b : Bool), ws[k]? = some vw ∧ Ws[k]? = some W ∧ hs[k]? = some h ∧ bs[k]? = some b ∧ h < W.rows.length ∧ H z.1 = some (.ins C z.2 (wf vw h b))
theorem Tws.begin {C : Addr} {H H' : Hp} {ws : List V} {Ws : List Wt} {M : Addr} {ps : List (Addr × Addr)} (t : Tws C H H' ws Ws M ps) (n2 : Ws.length = 2) (ok : ∀ W ∈ Ws, WtOk W) : Twn C H' ws Ws ps [0, 0] (Ws.map fun W => decide (0 ∈ W.bad)) := fun k z hz => by
  obtain ⟨_, _, vw, W, h3, h4, h5⟩ := t.2 k z hz
  have hk := (List.getElem?_eq_some_iff.mp h4).1
  refine ⟨vw, W, 0, _, h3, h4, ?_, by rw [List.getElem?_map, h4]; rfl, (ok W (List.mem_of_getElem? h4)).1, h5⟩
  match k, hk with
  | 0, _ => rfl
  | 1, _ => rfl
  | k + 2, hk => omega
theorem Twn.same {C : Addr} {H H' : Hp} {ws : List V} {Ws : List Wt} {ps : List (Addr × Addr)} {hs : List Nat} {bs : List Bool} (t : Twn C H ws Ws ps hs bs) (k : ∀ z ∈ ps, ∀ o, H z.1 = some o → H' z.1 = some o) : Twn C H' ws Ws ps hs bs := fun i z hz => by
  obtain ⟨vw, W, h, b, h1, h2, h3, h4, h5, h6⟩ := t i z hz
  exact ⟨vw, W, h, b, h1, h2, h3, h4, h5, k z (List.mem_of_getElem? hz) _ h6⟩
/-- one of them goes on by a step -/
theorem Twn.step {C : Addr} {H H' : Hp} {ws : List V} {Ws : List Wt} {ps : List (Addr × Addr)} {hs : List Nat} {bs : List Bool} (t : Twn C H ws Ws ps hs bs) (nd : (ps.map (·.1)).Nodup) {k : Nat} {z : Addr × Addr} (hz : ps[k]? = some z) {vw : V} {W : Wt} (e1 : ws[k]? = some vw) (e2 : Ws[k]? = some W) {h : Nat} {b : Bool}
    (lt : h < W.rows.length) (hp : H' z.1 = some (.ins C z.2 (wf vw h b))) (kp : ∀ x o, H x = some o → x ≠ z.1 → H' x = some o) : Twn C H' ws Ws ps (hs.set k h) (bs.set k b) := fun i y hy => by
  obtain ⟨vw', W', h', b', h1, h2, h3, h4, h5, h6⟩ := t i y hy
  by_cases e : i = k
  · subst e
    rw [hz] at hy
    cases hy
    refine ⟨vw, W, h, b, e1, e2, ?_, ?_, lt, hp⟩
    · rw [List.getElem?_set_self (List.getElem?_eq_some_iff.mp h3).1]
    · rw [List.getElem?_set_self (List.getElem?_eq_some_iff.mp h4).1]
  · refine ⟨vw', W', h', b', h1, h2, by rw [List.getElem?_set_ne (Ne.symm e)]; exact h3, by rw [List.getElem?_set_ne (Ne.symm e)]; exact h4, h5, kp _ _ h6 fun ez => ?_⟩
    have a1 : (ps.map (·.1))[i]? = some y.1 := by rw [List.getElem?_map, hy]; rfl
    have a2 : (ps.map (·.1))[k]? = some y.1 := by rw [List.getElem?_map, hz, ez]; rfl
    obtain ⟨l1, q1⟩ := List.getElem?_eq_some_iff.mp a1
    obtain ⟨l2, q2⟩ := List.getElem?_eq_some_iff.mp a2
    rcases Nat.lt_or_gt_of_ne e with g | g
    · exact List.pairwise_iff_getElem.mp nd i k l1 l2 g (q1.trans q2.symm)
    · exact List.pairwise_iff_getElem.mp nd k i l2 l1 g (q2.trans q1.symm)
theorem ixNnat {n k : Nat} (h : k < n) : ixN n (k : Int) = some k := by
  unfold ixN
  simp
  omega
theorem mapAt {α β : Type} {f : α → β} {l : List α} {k : Nat} {a : α} (h : l[k]? = some a) : (l.map f)[k]? = some (f a) := by
  rw [List.getElem?_map, h]
  rfl
theorem Twn.at {C : Addr} {H : Hp} {ws : List V} {Ws : List Wt} {ps : List (Addr × Addr)} {hs : List Nat} {bs : List Bool} (t : Twn C H ws Ws ps hs bs) {k : Nat} (hk : k < ps.length) : ∃ (z : Addr × Addr) (vw : V) (W : Wt) (h : Nat) (b : Bool), ps[k]? = some z ∧ ws[k]? = some vw ∧ Ws[k]? = some W ∧ hs[k]? = some h ∧ bs[k]? = some b ∧ h < W.rows.length ∧ H z.1 = some (.ins C z.2 (wf vw h b)) := by
  have e : ps[k]? = some ps[k] := List.getElem?_eq_getElem hk
  obtain ⟨vw, W, h, b, h1⟩ := t k _ e
  exact ⟨_, vw, W, h, b, e, h1⟩
section
variable {P : Program} {w : World} {K : PySem.W.Frag} {mg : Str → Option Value} {base : Heap} {C : Addr}
theorem ok__law_by_turns (T : Txt K mg) (D__law_draw : Kept P w K mg base 1 "_law_draw" ["d", "many"] spDraw) (D__law_watch_step : Kept P w K mg base 1 "_law_watch_step" ["watch", "state", "shown"] (spPlace K)) (D__law_same : Kept P w K mg base 7 "_law_same" ["told", "due"] (spSm K 5)) (D__law_wide_shown : Kept P w K mg base 3 "_law_wide_shown" ["d", "marks"] (spShown K)) {Cw fI fC pB gB : Addr} {fdI fdB : FuncData} (Wc : Wch P w K mg base Cw fI fC pB gB fdI fdB) (D__law_looked : Kept P w K mg base 8 "_law_looked" ["watcher", "here", "fell"] (spLook Cw)) {f : Addr} {fd : FuncData} (F : FnP K "_law_by_turns" s__law_by_turns f fd) : FnOk P w K mg base CX0 9 f fd ["d", "watches", "marks"] (spTurns K) := by
  refine F.ok sc__law_by_turns (fun vs H Q E h => ?_) (fun cdv A outer s H vs Q E hr h => ?_)
  · obtain ⟨S, D, Lw, m, ws, Ws, ms, rfl, _⟩ := h
    rfl
  · obtain ⟨S, D, Lw, m, ws, Ws, ms, rfl, d, LwD, mD, hLw, hws, n2, okW, hm, m0, m1, q⟩ := h
    refine ⟨_, PSs.nox (pss_cons (ps_setLc (i := 3) (own := [("watch", 4)]) (g := (gName 4)) (tt := tYes) rfl sc__law_by_turns.nd rfl rfl (sw_true rfl rfl rfl (by decide +kernel)) (pi_list (pv 1)) (blkOk_by (N := N__law_by_turns) (sc := defScope s__law_by_turns) (by decide +kernel)) (fun _ _ _ _ _ => (pg_name (i := 4) sc__law_by_turns.nd rfl (Or.inl rfl))) (fun _ _ _ _ _ => pts_nil) (fun _ _ _ _ _ => (pe_make Wc.mk_ Wc.fI_ (hr.mono (by decide)) (by rfl) Wc.mgC Wc.bI .nil pass0 (pa_cons (pv 4) pa_nil))))
      (pss_cons (ps_set (i := 5) sc__law_by_turns.nd rfl (Or.inl rfl) (pe_lst (pa_cons pe_int (pa_cons pe_int pa_nil))))
      (pss_cons (ps_setLc (i := 6) (own := [("watch", 4)]) (g := (gName 4)) (tt := tYes) rfl sc__law_by_turns.nd rfl rfl (sw_true rfl rfl rfl (by decide +kernel)) (pi_list (pv 1)) (blkOk_by (N := N__law_by_turns) (sc := defScope s__law_by_turns) (by decide +kernel)) (fun _ _ _ _ _ => (pg_name (i := 4) sc__law_by_turns.nd rfl (Or.inl rfl))) (fun _ _ _ _ _ => pts_nil) (fun _ _ _ _ _ => (pe_cmpR (inK (K := K) rfl) pe_int (pe_ix (ixT (K := K) rfl) (pv 4) pe_int (fun _ _ => rfl)) (by rfl))))
      (pss_cons (ps_for PassesOwn.never rfl (pi_range1 (by rfl) T.b_range (pa_cons (pe_op op_add pe_int (pe_d D__law_draw (hr.mono (by decide)) (by rfl) (pa_cons (pv 0) (pa_cons pe_int pa_nil)))) pa_nil)) (pg_name (i := 7) sc__law_by_turns.nd rfl (Or.inl rfl)) (pss_cons (ps_set (i := 8) sc__law_by_turns.nd rfl (Or.inl rfl) (pe_d D__law_draw (hr.mono (by decide)) (by rfl) (pa_cons (pv 0) (pa_cons pe_int pa_nil))))
      (Evl.pss_cut (ps_if (PW.pt (pw_and (pt_cmpR op_eq (pe_d D__law_draw (hr.mono (by decide)) (by rfl) (pa_cons (pv 0) (pa_cons pe_int pa_nil))) pe_int (nomark _)) (pw_and1 (pt_not (pt_val (pe_d D__law_looked (hr.mono (by decide)) (by rfl) (pa_cons (pe_ix ix_list (pv 3) (pv 8) (fun _ _ => rfl)) (pa_cons (pe_ix ix_list (pv 5) (pv 8) (fun _ _ => rfl)) (pa_cons (pe_ix ix_list (pv 6) (pv 8) (fun _ _ => rfl)) pa_nil))))))))) (pss_one (ps_ret pe_bl)) pss_nil)
      (pss_cons (ps_set (i := 9) sc__law_by_turns.nd rfl (Or.inl rfl) (pe_ix ix_list (pv 3) (pv 8) (fun _ _ => rfl)))
      (pss_cons (ps_set (i := 10) sc__law_by_turns.nd rfl (Or.inl rfl) (pe_d D__law_wide_shown (hr.mono (by decide)) (by rfl) (pa_cons (pv 0) (pa_cons (pv 2) pa_nil))))
      (pss_cons (ps_asg (pe_d D__law_watch_step (hr.mono (by decide)) (by rfl) (pa_cons (pe_ix ix_list (pv 1) (pv 8) (fun _ _ => rfl)) (pa_cons (pe_ix ix_list (pv 5) (pv 8) (fun _ _ => rfl)) (pa_cons (pv 10) pa_nil)))) (pg_sub (pv 5) (pv 8) set_list))
      (pss_cons (ps_asg (pe_or (pe_ix ix_list (pv 6) (pv 8) (fun _ _ => rfl)) (pe_one (pe_cmpR op_in_seq (pe_ix ix_list (pv 5) (pv 8) (fun _ _ => rfl)) (pe_ix ix_tup (pe_ix ix_list (pv 1) (pv 8) (fun _ _ => rfl)) pe_int (fun _ _ => rfl)) (by rfl)))) (pg_sub (pv 6) (pv 8) set_list))
      (pss_one (ps_if (pt_not (pt_val (pe_d D__law_same (hr.mono (by decide)) (by rfl) (pa_cons (StX.pe_callO (pv 9) Wc.call Wc.fC_ (hr.mono (by decide)) pass0 (pa_cons (pv 10) pa_nil)) (pa_cons (pe_ix ix_list (pv 5) (pv 8) (fun _ _ => rfl)) pa_nil))))) (pss_one (ps_ret pe_bl)) pss_nil)))))))))
      (pss_one (ps_ret (pe_and (pe_d D__law_looked (hr.mono (by decide)) (by rfl) (pa_cons (pe_ix ix_list (pv 3) pe_int (fun _ _ => rfl)) (pa_cons (pe_ix ix_list (pv 5) pe_int (fun _ _ => rfl)) (pa_cons (pe_ix ix_list (pv 6) pe_int (fun _ _ => rfl)) pa_nil)))) (pe_one (pe_d D__law_looked (hr.mono (by decide)) (by rfl) (pa_cons (pe_ix ix_list (pv 3) pe_int (fun _ _ => rfl)) (pa_cons (pe_ix ix_list (pv 5) pe_int (fun _ _ => rfl)) (pa_cons (pe_ix ix_list (pv 6) pe_int (fun _ _ => rfl)) pa_nil)))))))))))), ?_⟩
    have wl := dpA_len hws
    rw [List.length_map] at wl
    refine ⟨_, rfl, Lw, rfl, ⟨_, SqL.of hLw⟩, fun M hM => lc_list (K := K) (a := Lw) (xs := ws) (fun i H' => ∃ ps : List (Addr × Addr), ps.length = i ∧ Same H H' ∧ H' M = some (.lst (ps.map fun z => V.ref z.1)) ∧ Tws Cw H H' ws Ws M ps) ⟨[], rfl, same_new hM, upd_same, .nil, fun k z h => by cases h⟩ (fun i H' _ e => same_l e.choose_spec.2.1 (SqL.of hLw)) ?_ ?_⟩
    · rintro i x H1 hi ⟨ps, pl, s1, hM1, tw⟩
      obtain ⟨W, hW, dx0⟩ := dpA_mem hws hi
      have il := (List.getElem?_eq_some_iff.mp hW).1
      refine ⟨rfl, _, rfl, fun p dx hp hdx ne => ?_⟩
      have s2 : Same H1 (upd (upd H1 dx (.own p)) p (.ins Cw dx [])) := same_mut (same_new hdx) hp
      refine ⟨p, dx, x, W, rfl, upd_same, dp_same (s1.trans s2) _ _ dx0, fun H2 k2 hp2 => ?_⟩
      have s12 : Same H1 H2 := fun y o e => k2 y o (s2 y o e) (ne_of_none e hp)
      have hM2 := s12 _ _ hM1
      refine ⟨rfl, _, hM2, by rw [List.length_map]; exact line6 (by omega), ps ++ [(p, dx)], by rw [List.length_append, pl]; rfl, same_mut (s1.trans s12) hM, ?_, ?_⟩
      · rw [upd_same, List.map_append]
        rfl
      · have pM : p ≠ M := fun e => by
          rw [e, hM1] at hp
          cases hp
        subst pl
        exact tw.snoc s1 s12 hp hi hW hp2 pM _
    · rintro H1 ⟨ps, pl, s1, hM1, tw⟩
      refine ⟨by show 2 ≤ sizeLine; decide, fun Lp hLp => ?_⟩
      have t1 := same_new (o := .lst [V.int 0, .int 0]) hLp
      have LpM : M ≠ Lp := ne_of_none hM1 hLp
      have hP := upd_same (H := H1) (a := Lp) (o := .lst [V.int 0, .int 0])
      have LpN : H Lp = none := none_back s1 hLp
      have tw := tw.on t1
      have hM1 := t1 _ _ hM1
      have s1 := s1.trans t1
      generalize upd H1 Lp (.lst [V.int 0, .int 0]) = H2 at hP s1 hM1 tw
      refine ⟨_, rfl, Lw, rfl, ⟨_, same_l s1 (SqL.of hLw)⟩, fun M2 hM2 => lc_list (K := K) (a := Lw) (xs := ws) (fun i H' => Same H2 H' ∧ H' M2 = some (.lst ((Ws.take i).map fun W => V.bl (decide (0 ∈ W.bad))))) ⟨same_new hM2, upd_same⟩ (fun i H' _ e => same_l (s1.trans e.1) (SqL.of hLw)) ?_ ?_⟩
      · rintro i x H3 hi ⟨s3, hM3⟩
        obtain ⟨W, hW, dx0⟩ := dpA_mem hws hi
        have il := (List.getElem?_eq_some_iff.mp hW).1
        obtain ⟨pw, pq, pb, us, rfl, hpw, hpq, hA, hpb⟩ := wt_at (dp_same (s1.trans s3) _ _ dx0)
        refine ⟨rfl, _, rfl, pw, _, _, _, rfl, rfl, hpw, atI_nat (j := 2) rfl, ?_⟩
        refine ⟨pb, _, rfl, .inr hpb, rfl, flat_nats _, ?_⟩
        rw [show inV (.int 0) (W.bad.map vN) = decide (0 ∈ W.bad) from inV_nat 0 W.bad]
        refine ⟨_, hM3, by rw [List.length_map, List.length_take]; exact line6 (by omega), same_mut s3 hM2, ?_⟩
        rw [upd_same, take_snoc hW, List.map_append]
        rfl
      · rintro H3 ⟨s3, hM3⟩
        rw [wl, List.take_length] at hM3
        have M2p : H Lp = none ∧ Lp ≠ M2 := ⟨LpN, ne_of_none hP hM2⟩
        have MM2 : M ≠ M2 := ne_of_none hM1 hM2
        have M2N : H M2 = none := none_back s1 hM2
        have tw := tw.on s3
        have hP := s3 _ _ hP
        have hMN := hM
        have hM := s3 _ _ hM1
        have s := s1.trans s3
        have g := Go.same d s
        refine ⟨_, rfl, S, D, 11, rfl, divW_of (by decide) (by decide), g.1, fun H4 v v0 v1 g4 => ⟨_, _, rfl, rfl, ?_⟩⟩
        have pl : ps.length = 2 := by omega
        have g4 := g.trans g4
        have k4 := g4
        have MD : M ≠ D := (d.free hMN).1
        have LpD : Lp ≠ D := (d.free LpN).1
        have M2D : M2 ≠ D := (d.free M2N).1
        have zN : ∀ z ∈ ps, H z.1 = none := fun z hz => by
          obtain ⟨k, hk⟩ := List.mem_iff_getElem?.mp hz
          exact (tw.2 k z hk).1
        have gs : Go S D H3 H4 := ‹Go S D H3 H4›
        have hM4 := gs.2 _ _ hM MD
        have hP4 := gs.2 _ _ hP LpD
        have hF4 := gs.2 _ _ hM3 M2D
        have tn : Twn Cw H4 ws Ws ps [0, 0] (Ws.map fun W => decide (0 ∈ W.bad)) := (tw.begin n2 okW).same fun z hz o e => gs.2 _ _ e (d.free (zN z hz)).1
        refine ⟨_, rfl, by omega, by omega, for_range (lo := 0) (n := (2 + v).toNat) (fun i σ H' => ∃ (y4 y7 y8 y9 y10 : Option V) (hs : List Nat) (bs : List Bool), σ = [some (.ref D), some (.ref Lw), some (.ref m), some (.ref M), y4, some (.ref Lp), some (.ref M2), y7, y8, y9, y10] ∧ Go S D H H' ∧ H' M = some (.lst (ps.map fun z => V.ref z.1)) ∧ H' Lp = some (.lst (hs.map vN)) ∧ H' M2 = some (.lst (bs.map V.bl)) ∧ Twn Cw H' ws Ws ps hs bs ∧ hs.length = 2 ∧ bs.length = 2) ⟨_, _, _, _, _, [0, 0], _, rfl, g4, hM4, hP4, (by rw [List.map_map]; exact hF4), tn, rfl, by rw [List.length_map]; exact n2⟩ ?_ ?_⟩
        · rintro i σ H5 hi ⟨y4, y7, y8, y9, y10, hs, bs, rfl, g5, hM5, hP5, hF5, tn, hl, bl⟩
          refine ⟨_, rfl, S, D, 2, rfl, divW_of (by decide) (by decide), g5.1, fun H6 u u0 u1 g6 => ?_⟩
          have hM6 := g6.2 _ _ hM5 MD
          have hP6 := g6.2 _ _ hP5 LpD
          have hF6 := g6.2 _ _ hF5 M2D
          have tn := tn.same fun z hz o e => g6.2 _ _ e (d.free (zN z hz)).1
          have g6 := g5.trans g6
          obtain ⟨k, rfl⟩ : ∃ k : Nat, u = (k : Int) := ⟨u.toNat, by omega⟩
          obtain ⟨z, vw, W, h, b, a1, a2, a3, a4, a5, a6, a7⟩ := tn.at (k := k) (by omega)
          refine ⟨fun σ' H' => σ' = [some (.ref D), some (.ref Lw), some (.ref m), some (.ref M), y4, some (.ref Lp), some (.ref M2), some (.int (0 + (i : Int))), some (.int (k : Int)), y9, y10] ∧ Go S D H6 H', ?_, ?_⟩
          · refine ⟨_, rfl, S, D, 2, rfl, divW_of (by decide) (by decide), g6.1, fun H7 x x0 x1 g7 => ⟨rfl, _, rfl, ite2 (fun _ => ?_) (fun _ => ?_)⟩⟩
            · refine ⟨_, rfl, _, rfl, M, _, _, _, rfl, rfl, SqL.of (g7.2 _ _ hM6 MD), atI_nat (mapAt a1), _, rfl, _, rfl, Lp, _, _, _, rfl, rfl, SqL.of (g7.2 _ _ hP6 LpD), atI_nat (mapAt a4), _, rfl, _, rfl, M2, _, _, _, rfl, rfl, SqL.of (g7.2 _ _ hF6 M2D), atI_nat (mapAt a5), z.1, z.2, vw, h, b, rfl, g7.2 _ _ a7 (d.free (zN z (List.mem_of_getElem? a1))).1, fun H8 s8 => ?_⟩
              exact ⟨_, rfl, ite2 (fun h => (nomatch (show false = true from h))) (fun _ => ⟨rfl, g7.trans (Go.same g7.1 s8)⟩)⟩
            · exact ite2 (fun h => (nomatch (show false = true from h))) (fun _ => ⟨rfl, g7⟩)
          · rintro σ' H7 ⟨rfl, g7⟩
            have hM7 := g7.2 _ _ hM6 MD
            have hP7 := g7.2 _ _ hP6 LpD
            have hF7 := g7.2 _ _ hF6 M2D
            have tn := tn.same fun z hz o e => g7.2 _ _ e (d.free (zN z hz)).1
            have g7 := g6.trans g7
            refine ⟨_, rfl, _, rfl, M, _, _, _, rfl, rfl, SqL.of hM7, atI_nat (mapAt a1), _, rfl, _, rfl, S, D, m, ms, rfl, g7.1, mD, g7.2 _ _ hm mD, m0, m1, fun H8 psh ss g8 psN hps hss ssl => ?_⟩
            have hM8 := g8.2 _ _ hM7 MD
            have hP8 := g8.2 _ _ hP7 LpD
            have hF8 := g8.2 _ _ hF7 M2D
            have tn := tn.same fun z hz o e => g8.2 _ _ e (d.free (zN z hz)).1
            have g8 := g7.trans g8
            obtain ⟨vx, ex, dx0⟩ := dpA_get hws a3
            rw [a2] at ex
            cases ex
            have kT := Go.keepT d g8
            have dW := dp_keep kT _ _ (dWt_noL W) dx0
            have okw := okW W (List.mem_of_getElem? a3)
            have dS : Dp K H8 (.ref psh) (dSh ss) := sh_of (SqT.of hps)
            refine ⟨_, rfl, _, rfl, Lw, _, _, _, rfl, rfl, SqL.of (g8.2 _ _ hLw LwD), atI_nat a2, _, rfl, _, rfl, Lp, _, _, _, rfl, rfl, SqL.of hP8, atI_nat (mapAt a4), _, rfl, vw, .ref psh, h, W, ss, rfl, dW, okw, a6, dS, fun H9 s9 => ?_⟩
            refine ⟨_, rfl, _, rfl, Lp, _, _, k, rfl, rfl, s9 _ _ hP8, ixNnat (by rw [List.length_map]; omega), ?_⟩
            have eP : (hs.map vN).set k (.int (wStep W h ss : Nat)) = (hs.set k (wStep W h ss)).map vN := List.map_set.symm
            rw [eP]
            have MLp : M ≠ Lp := LpM
            have M2Lp : M2 ≠ Lp := Ne.symm M2p.2
            have hM10 : upd H9 Lp (.lst ((hs.set k (wStep W h ss)).map vN)) M = some (.lst (ps.map fun z => V.ref z.1)) := by rw [upd_ne MLp]; exact s9 _ _ hM8
            have hF10 : upd H9 Lp (.lst ((hs.set k (wStep W h ss)).map vN)) M2 = some (.lst (bs.map V.bl)) := by rw [upd_ne M2Lp]; exact s9 _ _ hF8
            have hP10 := upd_same (H := H9) (a := Lp) (o := .lst ((hs.set k (wStep W h ss)).map vN))
            have g9 := g8.trans (Go.same g8.1 s9)
            have g10 : Go S D H (upd H9 Lp (.lst ((hs.set k (wStep W h ss)).map vN))) := ⟨g9.1.upd LpD (d.free LpN).2, fun x o e n => by rw [upd_ne (ne_of_none e LpN)]; exact g9.2 x o e n⟩
            have dW10 := dp_keep (Go.keepT d g10) _ _ (dWt_noL W) dx0
            have zP : ∀ z ∈ ps, z.1 ≠ Lp := fun z hz e => by
              obtain ⟨j, hj⟩ := List.mem_iff_getElem?.mp hz
              obtain ⟨_, _, _, _, _, h5⟩ := tw.2 j z hj
              rw [e, hP] at h5
              cases h5.2
            refine ⟨_, rfl, _, rfl, M2, _, _, _, rfl, rfl, SqL.of hF10, atI_nat (mapAt a5), b, rfl, ?_⟩
            have hbl : k < bs.length := by omega
            have eF1 : b = true → (bs.map V.bl).set k (.bl true) = (bs.set k (b || decide (wStep W h ss ∈ W.bad))).map V.bl := fun e => by
              rw [e, Bool.true_or]
              exact List.map_set.symm
            have eF2 : b = false → (bs.map V.bl).set k (.bl (decide (wStep W h ss ∈ W.bad))) = (bs.set k (b || decide (wStep W h ss ∈ W.bad))).map V.bl := fun e => by
              rw [e, Bool.false_or]
              exact List.map_set.symm
            obtain ⟨vwz, Wz, hz', bz, b2, b3, b4, b5, b6, Z8⟩ := tn k z a1
            have E2 := a2.symm.trans b2
            have E4 := a4.symm.trans b4
            have E5 := a5.symm.trans b5
            cases E2
            cases E4
            cases E5
            refine ite2 (fun e => ?_) (fun e => ?_)
            · refine ⟨_, rfl, _, rfl, M2, _, _, k, rfl, rfl, hF10, ixNnat (by rw [List.length_map]; omega), ?_⟩
              rw [eF1 e]
              have zm : z ∈ ps := List.mem_of_getElem? a1
              have zM2 : z.1 ≠ M2 := fun e => by
                have h5 := a7
                rw [e, hF6] at h5
                cases h5
              have hz11 : upd (upd H9 Lp (.lst ((hs.set k (wStep W h ss)).map vN))) M2 (.lst ((bs.set k (b || decide (wStep W h ss ∈ W.bad))).map V.bl)) z.1 = some (.ins Cw z.2 (wf vw h b)) := by
                rw [upd_ne zM2, upd_ne (zP z zm)]
                exact s9 _ _ (Z8)
              have pshM2 : psh ≠ M2 := fun e => by
                rw [e, hF8] at hps
                cases hps
              have pshP : psh ≠ Lp := fun e => by
                rw [e, hP8] at hps
                cases hps
              have hsh11 : upd (upd H9 Lp (.lst ((hs.set k (wStep W h ss)).map vN))) M2 (.lst ((bs.set k (b || decide (wStep W h ss ∈ W.bad))).map V.bl)) psh = some (.tup (ss.map V.str)) := by
                rw [upd_ne pshM2, upd_ne pshP]
                exact s9 _ _ hps
              have hM11 : upd (upd H9 Lp (.lst ((hs.set k (wStep W h ss)).map vN))) M2 (.lst ((bs.set k (b || decide (wStep W h ss ∈ W.bad))).map V.bl)) M = some (.lst (ps.map fun z => V.ref z.1)) := by
                rw [upd_ne MM2]
                exact hM10
              have hP11 : upd (upd H9 Lp (.lst ((hs.set k (wStep W h ss)).map vN))) M2 (.lst ((bs.set k (b || decide (wStep W h ss ∈ W.bad))).map V.bl)) Lp = some (.lst ((hs.set k (wStep W h ss)).map vN)) := by
                rw [upd_ne M2p.2]
                exact hP10
              have hF11 := upd_same (H := upd H9 Lp (.lst ((hs.set k (wStep W h ss)).map vN))) (a := M2) (o := .lst ((bs.set k (b || decide (wStep W h ss ∈ W.bad))).map V.bl))
              have tn11 : ∀ y ∈ ps, ∀ o, H8 y.1 = some o → upd (upd H9 Lp (.lst ((hs.set k (wStep W h ss)).map vN))) M2 (.lst ((bs.set k (b || decide (wStep W h ss ∈ W.bad))).map V.bl)) y.1 = some o := fun y hy o eo => by
                have yM2 : y.1 ≠ M2 := fun ey => by
                  obtain ⟨j, hj⟩ := List.mem_iff_getElem?.mp hy
                  obtain ⟨_, _, _, _, _, _, _, _, _, h5⟩ := tn j y hj
                  rw [ey, hF8] at h5
                  cases h5
                rw [upd_ne yM2, upd_ne (zP y hy)]
                exact s9 _ _ eo
              have g11 : Go S D H (upd (upd H9 Lp (.lst ((hs.set k (wStep W h ss)).map vN))) M2 (.lst ((bs.set k (b || decide (wStep W h ss ∈ W.bad))).map V.bl))) := ⟨g10.1.upd M2D (d.free M2N).2, fun x o e n => by rw [upd_ne (ne_of_none e M2N)]; exact g10.2 x o e n⟩
              have dW11 := dp_keep (Go.keepT d g11) _ _ (dWt_noL W) dx0
              refine ⟨_, rfl, z.1, rfl, _, rfl, .inr ⟨_, _, hz11⟩, z.1, z.2, vw, .ref psh, W, h, b, ss, rfl, hz11, dW11, okw, a6, sh_of (SqT.of hsh11), fun H12 k12 hp12 => ?_⟩
              have zNN : H z.1 = none := zN z zm
              have zD : z.1 ≠ D := (d.free zNN).1
              have zS : z.1 ≠ S := (d.free zNN).2
              obtain ⟨dne, ⟨dcs, dc⟩, di, dr, dcc, d0, dat⟩ := g11.1
              have g12 : Go S D H H12 := ⟨⟨dne, ⟨dcs, k12 _ _ dc (Ne.symm zS)⟩, di, dr, dcc, d0, k12 _ _ dat (Ne.symm zD)⟩, fun x o e n => k12 _ _ (g11.2 x o e n) (ne_of_none e zNN)⟩
              have hM12 := k12 _ _ hM11 (Ne.symm (tw.2 k z a1).2.1)
              have hP12 := k12 _ _ hP11 (Ne.symm (zP z zm))
              have hF12 := k12 _ _ hF11 (Ne.symm zM2)
              have tn12 := (tn.same tn11).step tw.1 a1 a2 a3 (wStep_lt okw a6 ss) hp12 k12
              have hkl : k < hs.length := by omega
              refine ⟨_, rfl, _, rfl, Lp, _, _, _, rfl, rfl, SqL.of hP12, atI_nat (mapAt (a := wStep W h ss) (List.getElem?_set_self hkl)), _, _, .int _, rfl, .int _, .int _, rfl, by show 0 < 5; decide, fun H13 s13 => ?_⟩
              refine ⟨_, rfl, ite2 (fun h => (nomatch (show false = true from h))) (fun _ => ?_)⟩
              exact ⟨_, _, _, _, _, _, _, rfl, g12.trans (Go.same g12.1 s13), s13 _ _ hM12, s13 _ _ hP12, s13 _ _ hF12, tn12.same fun y _ o eo => s13 _ _ eo, by rw [List.length_set]; exact hl, by rw [List.length_set]; exact bl⟩
            · obtain ⟨pw, pq, pb, us, rfl, hpw, hpq, hA, hpb⟩ := wt_at dW10
              refine ⟨_, rfl, _, rfl, Lp, _, _, _, rfl, rfl, SqL.of hP10, atI_nat (mapAt (a := wStep W h ss) (List.getElem?_set_self (by omega))), _, rfl, _, rfl, Lw, _, _, _, rfl, rfl, SqL.of (g10.2 _ _ hLw LwD), atI_nat a2, pw, _, _, _, rfl, rfl, hpw, atI_nat (j := 2) rfl, pb, _, rfl, .inr hpb, rfl, flat_nats _, ?_⟩
              rw [show inV (vN (wStep W h ss)) (W.bad.map vN) = decide (wStep W h ss ∈ W.bad) from inV_nat _ _]
              refine ⟨_, rfl, _, rfl, M2, _, _, k, rfl, rfl, hF10, ixNnat (by rw [List.length_map]; omega), ?_⟩
              erw [eF2 (Bool.eq_false_iff.mpr e)]
              have zm : z ∈ ps := List.mem_of_getElem? a1
              have zM2 : z.1 ≠ M2 := fun e => by
                have h5 := a7
                rw [e, hF6] at h5
                cases h5
              have hz11 : upd (upd H9 Lp (.lst ((hs.set k (wStep W h ss)).map vN))) M2 (.lst ((bs.set k (b || decide (wStep W h ss ∈ W.bad))).map V.bl)) z.1 = some (.ins Cw z.2 (wf (.ref pw) h b)) := by
                rw [upd_ne zM2, upd_ne (zP z zm)]
                exact s9 _ _ (Z8)
              have pshM2 : psh ≠ M2 := fun e => by
                rw [e, hF8] at hps
                cases hps
              have pshP : psh ≠ Lp := fun e => by
                rw [e, hP8] at hps
                cases hps
              have hsh11 : upd (upd H9 Lp (.lst ((hs.set k (wStep W h ss)).map vN))) M2 (.lst ((bs.set k (b || decide (wStep W h ss ∈ W.bad))).map V.bl)) psh = some (.tup (ss.map V.str)) := by
                rw [upd_ne pshM2, upd_ne pshP]
                exact s9 _ _ hps
              have hM11 : upd (upd H9 Lp (.lst ((hs.set k (wStep W h ss)).map vN))) M2 (.lst ((bs.set k (b || decide (wStep W h ss ∈ W.bad))).map V.bl)) M = some (.lst (ps.map fun z => V.ref z.1)) := by
                rw [upd_ne MM2]
                exact hM10
              have hP11 : upd (upd H9 Lp (.lst ((hs.set k (wStep W h ss)).map vN))) M2 (.lst ((bs.set k (b || decide (wStep W h ss ∈ W.bad))).map V.bl)) Lp = some (.lst ((hs.set k (wStep W h ss)).map vN)) := by
                rw [upd_ne M2p.2]
                exact hP10
              have hF11 := upd_same (H := upd H9 Lp (.lst ((hs.set k (wStep W h ss)).map vN))) (a := M2) (o := .lst ((bs.set k (b || decide (wStep W h ss ∈ W.bad))).map V.bl))
              have tn11 : ∀ y ∈ ps, ∀ o, H8 y.1 = some o → upd (upd H9 Lp (.lst ((hs.set k (wStep W h ss)).map vN))) M2 (.lst ((bs.set k (b || decide (wStep W h ss ∈ W.bad))).map V.bl)) y.1 = some o := fun y hy o eo => by
                have yM2 : y.1 ≠ M2 := fun ey => by
                  obtain ⟨j, hj⟩ := List.mem_iff_getElem?.mp hy
                  obtain ⟨_, _, _, _, _, _, _, _, _, h5⟩ := tn j y hj
                  rw [ey, hF8] at h5
                  cases h5
                rw [upd_ne yM2, upd_ne (zP y hy)]
                exact s9 _ _ eo
              have g11 : Go S D H (upd (upd H9 Lp (.lst ((hs.set k (wStep W h ss)).map vN))) M2 (.lst ((bs.set k (b || decide (wStep W h ss ∈ W.bad))).map V.bl))) := ⟨g10.1.upd M2D (d.free M2N).2, fun x o e n => by rw [upd_ne (ne_of_none e M2N)]; exact g10.2 x o e n⟩
              have dW11 := dp_keep (Go.keepT d g11) _ _ (dWt_noL W) dx0
              refine ⟨_, rfl, z.1, rfl, _, rfl, .inr ⟨_, _, hz11⟩, z.1, z.2, (.ref pw), .ref psh, W, h, b, ss, rfl, hz11, dW11, okw, a6, sh_of (SqT.of hsh11), fun H12 k12 hp12 => ?_⟩
              have zNN : H z.1 = none := zN z zm
              have zD : z.1 ≠ D := (d.free zNN).1
              have zS : z.1 ≠ S := (d.free zNN).2
              obtain ⟨dne, ⟨dcs, dc⟩, di, dr, dcc, d0, dat⟩ := g11.1
              have g12 : Go S D H H12 := ⟨⟨dne, ⟨dcs, k12 _ _ dc (Ne.symm zS)⟩, di, dr, dcc, d0, k12 _ _ dat (Ne.symm zD)⟩, fun x o e n => k12 _ _ (g11.2 x o e n) (ne_of_none e zNN)⟩
              have hM12 := k12 _ _ hM11 (Ne.symm (tw.2 k z a1).2.1)
              have hP12 := k12 _ _ hP11 (Ne.symm (zP z zm))
              have hF12 := k12 _ _ hF11 (Ne.symm zM2)
              have tn12 := (tn.same tn11).step tw.1 a1 a2 a3 (wStep_lt okw a6 ss) hp12 k12
              have hkl : k < hs.length := by omega
              refine ⟨_, rfl, _, rfl, Lp, _, _, _, rfl, rfl, SqL.of hP12, atI_nat (mapAt (a := wStep W h ss) (List.getElem?_set_self hkl)), _, _, .int _, rfl, .int _, .int _, rfl, by show 0 < 5; decide, fun H13 s13 => ?_⟩
              refine ⟨_, rfl, ite2 (fun h => (nomatch (show false = true from h))) (fun _ => ?_)⟩
              exact ⟨_, _, _, _, _, _, _, rfl, g12.trans (Go.same g12.1 s13), s13 _ _ hM12, s13 _ _ hP12, s13 _ _ hF12, tn12.same fun y _ o eo => s13 _ _ eo, by rw [List.length_set]; exact hl, by rw [List.length_set]; exact bl⟩
        · rintro σ H5 ⟨y4, y7, y8, y9, y10, hs, bs, rfl, g5, hM5, hP5, hF5, tn, hl, bl⟩
          obtain ⟨z0, vw0, W0', h0, b0, a1, a2, a3, a4, a5, a6, a7⟩ := tn.at (k := 0) (by omega)
          obtain ⟨z1, vw1, W1', h1, b1, c1, c2, c3, c4, c5, c6, c7⟩ := tn.at (k := 1) (by omega)
          refine ⟨_, rfl, M, _, _, _, rfl, rfl, SqL.of hM5, atI_nat (j := 0) (mapAt a1), _, rfl, Lp, _, _, _, rfl, rfl, SqL.of hP5, atI_nat (j := 0) (mapAt a4), _, rfl, M2, _, _, _, rfl, rfl, SqL.of hF5, atI_nat (j := 0) (mapAt a5), z0.1, z0.2, vw0, h0, b0, rfl, a7, fun H6 s6 => ?_⟩
          refine ⟨_, rfl, ite2 (fun _ => ?_) (fun h => absurd rfl h)⟩
          refine ⟨_, rfl, M, _, _, _, rfl, rfl, SqL.of (s6 _ _ hM5), atI_nat (j := 1) (mapAt c1), _, rfl, Lp, _, _, _, rfl, rfl, SqL.of (s6 _ _ hP5), atI_nat (j := 1) (mapAt c4), _, rfl, M2, _, _, _, rfl, rfl, SqL.of (s6 _ _ hF5), atI_nat (j := 1) (mapAt c5), z1.1, z1.2, vw1, h1, b1, rfl, s6 _ _ c7, fun H7 s7 => ?_⟩
          exact q _ (g5.trans (Go.same g5.1 (s6.trans s7)))
end
end Mt
/-! ### t * n of a tuple, n from 0 -/
namespace RP
open PySem PySem.Spec PyProof.Rows L2
theorem mul1W (l : Addr) (items : Array Value) (n : Nat) (dd : Option Addr) (sl : Array (Option Value)) (u : Tok) :
    Meets (Builtin.«tuple.__mul__» ⟨[.ref l, .int 1 u], []⟩) (fun _ R s => s.heap.get? l = some { cls := .type "tuple", dict := dd, data := .seq items n, slots := sl } ∧ R (.ok (.ret (Value.ref l))) s) :=
  .of_wp fun prog w A R s h => by
    obtain ⟨hp, g, d, tk, os⟩ := s
    obtain ⟨hl, h⟩ := h
    have f1 := AutoSeq1.idx_int
    have c0 : (decide ((1 : Int) < -(2 ^ 63)) || decide ((1 : Int) ≥ 2 ^ 63)) = false := by decide
    have c1 : (items.isEmpty || (1 : Int) == 1) = true := by rw [show ((1 : Int) == 1) = true from rfl, Bool.or_true]
    wp_walk using wpAny_loadPart' hl
    repeat (first
      | (refine wpAny_ite_false (decide_eq_false (by rw [c0]; exact Bool.false_ne_true)) ?_; wp_walk using wpAny_loadPart' hl)
      | (refine wpAny_ite_true (decide_eq_true c1) ?_; wp_walk using wpAny_loadPart' hl))
    exact ⟨_, rfl, h⟩
theorem mul0W (l : Addr) (items : Array Value) (n : Nat) (dd : Option Addr) (sl : Array (Option Value)) (x : Int) (u : Tok) (c0 : (decide (x < -(2 ^ 63)) || decide (x ≥ 2 ^ 63)) = false) (c1 : (items.isEmpty || x == 1) = false) (c2 : (decide (x ≤ 0) || items.isEmpty) = true) :
    Meets (Builtin.«tuple.__mul__» ⟨[.ref l, .int x u], []⟩) (fun _ R s => s.heap.get? l = some { cls := .type "tuple", dict := dd, data := .seq items n, slots := sl } ∧
      R (.ok (.ret (Value.ref s.heap.objs.size))) { s with heap := s.heap.push { cls := Value.type "tuple", data := Data.seq #[] }, toks := s.toks }) :=
  .of_wp fun prog w A R s h => by
    obtain ⟨hp, g, d, tk, os⟩ := s
    obtain ⟨hl, h⟩ := h
    have f1 := AutoSeq1.idx_int
    wp_walk using wpAny_loadPart' hl
    repeat (first
      | (refine wpAny_ite_false (decide_eq_false (by rw [c0]; exact Bool.false_ne_true)) ?_; wp_walk using wpAny_loadPart' hl)
      | (refine wpAny_ite_false (decide_eq_false (by rw [c1]; exact Bool.false_ne_true)) ?_; wp_walk using wpAny_loadPart' hl)
      | (refine wpAny_ite_true (decide_eq_true c2) ?_; wp_walk using wpAny_loadPart' hl)
      | (refine wpAny_ite_false (decide_eq_false (Nat.not_lt.mpr (by decide))) ?_; wp_walk using wpAny_loadPart' hl))
    exact ⟨_, rfl, h⟩
def rRepA (K : PySem.W.Frag) : R2 := fun x y H Q => ∃ l k xs, x = .ref l ∧ y = .int k ∧ SqT K H l xs ∧ xs ≠ [] ∧ -1000 ≤ k ∧ k ≤ 1000 ∧ xs.length ≤ 1000 ∧ (k = 1 → Q (.ref l) H) ∧ (k ≠ 1 → ∀ p, H p = none → Q (.ref p) (upd H p (.tup (List.replicate k.toNat xs).flatten)))
section
variable {X : Cx}
theorem op_repA : OpR X (binaryOp .Mult) (rRepA X.K) := by
  intro pins s σ H x y v u Q I rx ry h
  obtain ⟨l, k, xs, rfl, rfl, hT, hne, h0, h1, hz, q1, q2⟩ := h
  by_cases g2 : 2 ≤ k
  · exact op_repT pins s σ H _ _ v u Q I rx ry ⟨l, k, xs, rfl, rfl, hT, hne, g2, h1, hz, q2 (by omega)⟩
  cases rx
  obtain ⟨t, rfl⟩ := ry
  obtain ⟨its, r, ⟨⟨cls, dd, data, sl⟩, ho, hc, n, hd⟩, hs⟩ := I.tuple hT
  simp only at hc hd
  subst hc hd
  have hle : its.length = xs.length := r.length.symm
  have hn : its ≠ [] := fun e => hne (by
    rw [e] at hle
    exact List.eq_nil_of_length_eq_zero hle.symm)
  have hi : its.toArray.isEmpty = false := by
    cases its with
    | nil => exact absurd rfl hn
    | cons a b => rfl
  by_cases g1 : k = 1
  · subst g1
    refine wpAny_binaryOp_repeat_ref (T := "tuple") (U := "int") (by decide) ⟨_, ho, rfl⟩ (fun s' => typeIs_int s' 1 t) noFill_tuple_mul F.fills_int_mul F.slot_int_rmul repeat_tuple F.slot_int_index.lookup
      (call_meets F.slot_int_rmul (typeIs_int s 1 t) F.entry_int_rmul (F.args_int_rmul_2 _ _) (int_rmul_tuple 1 t l its.toArray n dd sl)
        ⟨ho, rfl, ⟨_, ho, rfl⟩, call_meets F.slot_tuple_mul ⟨_, ho, rfl⟩ F.entry_tuple_mul (F.args_tuple_mul_2 _ _) (mul1W l its.toArray n dd sl t) ⟨ho, ?_⟩⟩)
    exact ⟨.ref l, H, I, rfl, q1 rfl⟩
  · have c0 : (decide (k < -(2 ^ 63)) || decide (k ≥ 2 ^ 63)) = false := by
      rw [decide_eq_false (by omega), decide_eq_false (by omega)] <;> rfl
    have c1 : (its.toArray.isEmpty || k == 1) = false := by
      rw [hi, Bool.false_or]
      exact beq_eq_false_iff_ne.mpr g1
    have c2 : (decide (k ≤ 0) || its.toArray.isEmpty) = true := by
      rw [hi, Bool.or_false]
      exact decide_eq_true (by omega)
    refine wpAny_binaryOp_repeat_ref (T := "tuple") (U := "int") (by decide) ⟨_, ho, rfl⟩ (fun s' => typeIs_int s' k t) noFill_tuple_mul F.fills_int_mul F.slot_int_rmul repeat_tuple F.slot_int_index.lookup
      (call_meets F.slot_int_rmul (typeIs_int s k t) F.entry_int_rmul (F.args_int_rmul_2 _ _) (int_rmul_tuple k t l its.toArray n dd sl)
        ⟨ho, rfl, ⟨_, ho, rfl⟩, call_meets F.slot_tuple_mul ⟨_, ho, rfl⟩ F.entry_tuple_mul (F.args_tuple_mul_2 _ _) (mul0W l its.toArray n dd sl k t c0 c1 c2) ⟨ho, ?_⟩⟩)
    have ek : k.toNat = 0 := by omega
    refine ⟨.ref s.heap.objs.size, _, I.laid (t' := s.toks) (o := .tup (List.replicate k.toNat xs).flatten) (fun b ob q => Heap.get?_push_of_some _ q) (Nat.le_refl _) ?_, rfl, q2 g1 _ (I.hok.fresh (Nat.le_refl _))⟩
    rw [ek]
    exact ⟨Nat.zero_le _, [], .nil, IsTup.new _ _⟩
end
end RP
namespace RV
open PySem PySem.Spec PyProof.Rows L2
theorem rev_pick {α : Type} (l : List α) : (List.range l.length).filterMap (fun m => l[l.length - 1 - m]?) = l.reverse := by
  apply List.ext_getElem?
  intro i
  have key : ∀ (n : Nat), n ≤ l.length → ∀ i, ((List.range n).filterMap (fun m => l[l.length - 1 - m]?))[i]? = if i < n then l[l.length - 1 - i]? else none := by
    intro n
    induction n with
    | zero => intro _ i; simp
    | succ n ih =>
      intro hn i
      have hs : l[l.length - 1 - n]? = some (l[l.length - 1 - n]'(by omega)) := List.getElem?_eq_getElem _
      have hlen : ((List.range n).filterMap (fun m => l[l.length - 1 - m]?)).length = n := by
        have h0 : ∀ j, j < n → ((List.range n).filterMap (fun m => l[l.length - 1 - m]?))[j]? ≠ none := fun j hj => by
          rw [ih (by omega) j, if_pos hj]
          rw [List.getElem?_eq_getElem (by omega)]
          exact fun e => by cases e
        have h2 : ((List.range n).filterMap (fun m => l[l.length - 1 - m]?))[n]? = none := by
          rw [ih (by omega) n, if_neg (Nat.lt_irrefl _)]
        have h3 := List.getElem?_eq_none_iff.mp h2
        rcases Nat.lt_or_ge ((List.range n).filterMap (fun m => l[l.length - 1 - m]?)).length n with h4 | h4
        · exact absurd (List.getElem?_eq_none_iff.mpr (Nat.le_refl _)) (h0 _ h4)
        · omega
      rw [List.range_succ, List.filterMap_append]
      by_cases h : i < n
      · rw [List.getElem?_append_left (by omega), ih (by omega), if_pos h, if_pos (by omega)]
      · rw [List.getElem?_append_right (by omega), hlen]
        simp only [List.filterMap_cons, List.filterMap_nil, hs]
        by_cases h2 : i = n
        · subst h2
          rw [Nat.sub_self, if_pos (Nat.lt_succ_self _), hs]
          rfl
        · rw [if_neg (by omega), show i - n = (i - n - 1) + 1 by omega]
          rfl
  rw [key _ (Nat.le_refl _)]
  by_cases h : i < l.length
  · rw [if_pos h, List.getElem?_reverse h]
  · rw [if_neg h, List.getElem?_eq_none (by rw [List.length_reverse]; omega)]
section
variable {prog : Program} {w : World} {A : Around} {E : Value → Shared → Prop} {s : Shared}
theorem getItem_tuple_rev {t sl : Addr} {items : Array Value} {vs : Value} {Q : Value → Shared → Prop} (ht : IsTup s.heap t items) (hs : s.heap.IsSliceOf sl .none .none vs) (ps : IsPart vs (some (-1)))
    (h : Q (.ref s.heap.objs.size) { s with heap := s.heap.push { cls := .type "tuple", data := .seq items.toList.reverse.toArray } })
    (hsz : items.size ≤ sizeLine) : wpAny (model prog w) A (getItem (.ref t) (.ref sl)) Q E s := by
  have htake : sizeOk (.seq items.toList.reverse.toArray) := by
    show items.toList.reverse.toArray.size ≤ sizeLine
    rw [List.size_toArray, List.length_reverse, Array.length_toList]
    exact hsz
  obtain ⟨os, hos, hcs, hds⟩ := id hs
  have hTs : s.TypeIs (.ref sl) "slice" := ⟨os, hos, hcs⟩
  unfold getItem
  try with_reducible refine wpAny_holding ?_
  first | refine wpAny_bind (wpAny_pure ?_) | skip
  refine wpAny_bind (wpAny_sequenceKey ht.typeIs (by decide) ?_)
  refine wpAny_bind (wpAny_callSpecial?_slot (name := Str.ofString "__getitem__") ht.typeIs PyProof.Rows.slot_tuple_getitem
    (wpAny_call_entry PyProof.Rows.slot_tuple_getitem ht.typeIs entry_tuple_getitem ?_ (args_tuple_getitem _ _)))
  show wpAny _ _ (Builtin.Tuple.tupleItemsOf (.ref t) >>= _) _ _ s
  refine wpAny_bind (tupleItemsOf_ ht ?_)
  refine wpAny_bind (wpAny_typeOf hTs ?_)
  rw [if_pos (by decide)]
  have ap : ∀ {A' : Around} {E' : Value → Shared → Prop} {Q' : Int × Int × Nat → Shared → Prop}, Q' ((items.size : Int) - 1, -1, items.size) s → wpAny (model prog w) A' (Builtin.Slice.sliceApplied (.ref sl) (pure (items.size : Int))) Q' E' s := fun {A' E' Q'} hQ => by
    unfold Builtin.Slice.sliceApplied Builtin.Slice.sliceFields
    refine wpAny_bind (wpAny_bind (wpAny_field hos hds (x := .none) rfl (wpAny_bind (wpAny_field hos hds (x := .none) rfl (wpAny_bind (wpAny_field hos hds (x := vs) rfl (wpAny_pure ?_)))))))
    refine wpAny_bind (HT.slicePart_ ps ?_)
    show wpAny _ _ (if ((-1 : Int) == 0) = true then _ else _) _ _ s
    rw [if_neg (by decide)]
    refine wpAny_bind (slicePart_none (wpAny_bind (slicePart_none (wpAny_bind (wpAny_pure ?_)))))
    show wpAny _ _ (match Builtin.Slice.sliceAdjust none none (-1) (items.size : Int) with | (lo, hi) => pure (lo, (-1 : Int), Builtin.Slice.slicePlaces lo hi (-1))) _ _ s
    have e1 : Builtin.Slice.sliceAdjust none none (-1) (items.size : Int) = ((items.size : Int) - 1, -1) := rfl
    rw [e1]
    show wpAny _ _ (pure ((items.size : Int) - 1, (-1 : Int), Builtin.Slice.slicePlaces ((items.size : Int) - 1) (-1) (-1))) _ _ s
    have e2 : Builtin.Slice.slicePlaces ((items.size : Int) - 1) (-1) (-1) = items.size := by
      unfold Builtin.Slice.slicePlaces
      rw [if_neg (by decide)]
      show (if (items.size : Int) - 1 > -1 then ((items.size : Int) - 1 - -1 - 1) / 1 + 1 else 0).toNat = items.size
      rw [Int.ediv_one]
      split <;> omega
    rw [e2]
    exact wpAny_pure hQ
  refine wpAny_bind (ap ?_)
  have hno : ¬ ((((items.size : Int) - 1) == 0 && (-1 : Int) == 1 && items.size == items.size) = true) := by simp
  show wpAny _ _ (if (((items.size : Int) - 1) == 0 && (-1 : Int) == 1 && items.size == items.size) = true then _ else _) _ _ s
  have pk : ((List.range items.size).filterMap fun (m : Nat) => items[(((items.size : Int) - 1) + (m : Int) * -1).toNat]?).toArray = items.toList.reverse.toArray := by
    rw [← rev_pick items.toList, Array.length_toList]
    congr 2
    funext m
    rw [Array.getElem?_toList]
    congr 1
    omega
  rw [if_neg hno, pk]
  first
    | exact wpAny_bind (m := Builtin.Tuple.tupleExact _) (wpAny_newObj_type (wpAny_pure ⟨_, rfl, wpAny_pure h⟩) htake)
    | exact wpAny_bind (m := Builtin.Tuple.tupleExact _) (wpAny_newObj_type (wpAny_bind (wpAny_pure (wpAny_pure ⟨_, rfl, wpAny_pure h⟩))) htake)
    | exact wpAny_bind (wpAny_bind (m := Builtin.Tuple.tupleExact _) (wpAny_newObj_type (wpAny_pure (wpAny_pure ⟨_, rfl, wpAny_pure h⟩)) htake))
    | exact wpAny_bind (wpAny_bind (m := Builtin.Tuple.tupleExact _) (wpAny_newObj_type (wpAny_pure ⟨_, rfl, wpAny_pure h⟩) htake))
end
section
variable {X : Cx}
def tRevT (K : PySem.W.Frag) (te : TE) : TE := fun σ H Q => te σ H fun x H1 => ∃ a xs, x = .ref a ∧ SqT K H1 a xs ∧ ∀ p, H1 p = none → Q (.ref p) (upd H1 p (.tup xs.reverse))
theorem pe_revT {e : Expr} {te : TE} {k : Nat} {p1 p2 p3 pos : Pos} (he : PE X e te) : PE X (.Subscript e (.Slice none none (some (.UnaryOp .USub (.Constant (.int 1) k p1) p2)) p3) pos) (tRevT X.K te) := by
  refine ⟨fun pins s σ H Q I h => ?_⟩
  refine Subscript_ (thn (he.run pins s σ H _ I h) fun v s1 ⟨x, H1, I1, r1, q1⟩ => ?_)
  obtain ⟨a, xs, ex, hx, q⟩ := q1
  subst ex
  cases r1
  have hst : PO X (some (.UnaryOp .USub (.Constant (.int 1) k p1) p2)) (tPart (tUn (rU fun i => .int (-i)) (tC (.int 1)))) := po_some (pe_un un_neg pe_int)
  refine wpAny_Slice (thn (po_none.run pins s1 σ H1 (fun o H2 => o = none ∧ H2 = H1) I1 ⟨rfl, rfl⟩) fun vl s2 ⟨l, H2, I2, pl, el, e2⟩ => ?_)
  subst el e2
  refine thn (po_none.run pins s2 σ H2 (fun o H3 => o = none ∧ H3 = H2) I2 ⟨rfl, rfl⟩) fun vu s3 ⟨u, H3, I3, pu, eu, e3⟩ => ?_
  subst eu e3
  refine thn (hst.run pins s3 σ H3 (fun o H4 => o = some (-1) ∧ H4 = H3) I3 ⟨1, rfl, -1, rfl, rfl, rfl⟩) fun vs s4 ⟨o, H4, I4, ps, eo, e4⟩ => ?_
  subst eo e4
  have evl : vl = .none := by cases pl; rfl
  have evu : vu = .none := by cases pu; rfl
  subst evl evu
  have I5 : Inv X pins σ H4 { s4 with heap := s4.heap.push { cls := .type "slice", data := .fields #[.none, .none, vs] } } := I4.kept (t' := s4.toks) fun b ob q => Heap.get?_push_of_some _ q
  obtain ⟨its, r, ht, hz⟩ := I5.tuple hx
  have hlen := r.length
  show wpAny (model X.prog X.w) X.A (subscriptTail e (.Slice none none (some (.UnaryOp .USub (.Constant (.int 1) k p1) p2)) p3) (.ref a) (.ref s4.heap.objs.size)) (EP X pins σ Q) X.xe { s4 with heap := s4.heap.push { cls := .type "slice", data := .fields #[.none, .none, vs] } }
  refine tail_any (ops := [.ref a, .ref s4.heap.objs.size]) ht.typeIs (PyProof.Rows.slot_tuple_getitem.lookup) ?_ (by with_unfolding_all rfl)
  refine getItem_tuple_rev ht (Heap.IsSliceOf.new _ .none .none vs) ps ?_ (by rw [List.size_toArray]; omega)
  refine ⟨.ref _, _, I5.laid (t' := s4.toks) (o := .tup xs.reverse) (fun b ob q => Heap.get?_push_of_some _ q) (Nat.le_refl _) ?_, rfl, q _ (I5.hok.fresh (Nat.le_refl _))⟩
  exact ⟨by rw [List.length_reverse]; exact hz, _, r.reverse, IsTup.new (s4.heap.push { cls := .type "slice", data := .fields #[.none, .none, vs] }) _⟩
end
end RV
namespace Mt
open PySem PySem.Spec PyProof.Rows L2
/-! ### a watch that is bent -/
def gRow (r : List (Str × Nat) × Nat) : List OP := r.1.map (fun p => (some p.1, (p.2 : Int))) ++ [(none, (r.2 : Int))]
theorem dWr_g (r : List (Str × Nat) × Nat) : dWr r = dGr (gRow r) := by
  unfold dWr dGr gRow
  rw [List.map_append, List.map_map]
  rfl
theorem dWt_g (W : Wt) : dWt W = dGw "watch" (W.rows.map gRow) (W.bad.map fun k : Nat => (k : Int)) := by
  unfold dWt dGw dNs dI
  rw [List.map_map, List.map_map, show dGr ∘ gRow = dWr from funext fun r => (dWr_g r).symm]
  rfl
theorem gRow_len (r : List (Str × Nat) × Nat) : (gRow r).length = r.1.length + 1 := by
  unfold gRow
  rw [List.length_append, List.length_map]
  rfl
theorem gRows_noL (R : List (List OP)) : noL (.tuple (R.map dGr)) = true := noLs_map _ _ fun r _ => dGr_noL r
theorem with_map {α β : Type} (f : α → β) (l : List α) (k : Nat) (a : α) : (l.map f).take k ++ [f a] ++ (l.map f).drop (k + 1) = (l.take k ++ [a] ++ l.drop (k + 1)).map f := by
  simp [List.map_take, List.map_drop]
theorem few_with {R : List (List OP)} {m : Nat} {r' : List OP} (k : Nat) (h : ∀ r ∈ R, r.length ≤ m) (h' : r'.length ≤ m) : ∀ r ∈ R.take k ++ [r'] ++ R.drop (k + 1), r.length ≤ m := fun r hr => by
  rcases List.mem_append.mp hr with hr | hr
  · rcases List.mem_append.mp hr with hr | hr
    · exact h r (List.mem_of_mem_take hr)
    · rw [List.mem_singleton.mp hr]
      exact h'
  · exact h r (List.mem_of_mem_drop hr)
theorem vO_dp {K : PySem.W.Frag} {H : Hp} (o : Option Str) : Dp K H (vO o) (dO o) := by
  cases o with
  | none => exact .non
  | some z => exact .str z
theorem len_with {α : Type} {l : List α} {k : Nat} (a : α) (h : k < l.length) : (l.take k ++ [a] ++ l.drop (k + 1)).length = l.length := by
  simp only [List.length_append, List.length_take, List.length_drop, List.length_singleton]
  omega
theorem len_ins {α : Type} {l : List α} {k : Nat} (a : α) (h : k ≤ l.length) : (l.take k ++ [a] ++ l.drop k).length = l.length + 1 := by
  simp only [List.length_append, List.length_take, List.length_drop, List.length_singleton]
  omega
theorem ins_map {α β : Type} (f : α → β) (l : List α) (k : Nat) (a : α) : (l.map f).take k ++ [f a] ++ (l.map f).drop k = (l.take k ++ [a] ++ l.drop k).map f := by
  simp [List.map_take, List.map_drop]
theorem dpA_rep {K : PySem.W.Frag} {H : Hp} {x : V} {d : PyData} (h : Dp K H x d) : ∀ n : Nat, DpAll K H (List.replicate n [x]).flatten (List.replicate n d)
  | 0 => .nil
  | n + 1 => by
    rw [List.replicate_succ, List.replicate_succ, List.flatten_cons]
    exact .cons h (dpA_rep h n)
theorem rep_mono {K : PySem.W.Frag} {x y : V} {H : Hp} {Q Q' : VK} (h : RP.rRepA K x y H Q) (m : ∀ v H', Q v H' → Q' v H') : RP.rRepA K x y H Q' := by
  obtain ⟨l, k, xs, e1, e2, h1, h2, h3, h4, h5, q1, q2⟩ := h
  exact ⟨l, k, xs, e1, e2, h1, h2, h3, h4, h5, fun e => m _ _ (q1 e), fun e p hp => m _ _ (q2 e p hp)⟩
theorem rep_W {K : PySem.W.Frag} {H : Hp} {x : V} {d : PyData} {k : Int} (hx : Dp K H x (.tuple [d])) (h0 : -1000 ≤ k) (h1 : k ≤ 1000) : RP.rRepA K x (.int k) H (fun v H' => Same H H' ∧ Dp K H' v (.tuple (List.replicate k.toNat d))) := by
  obtain ⟨a, xs, rfl, ha, hA⟩ := dp_tup hx
  obtain ⟨x0, r0, rfl, hh, hN⟩ := dpA_cons hA
  cases dpA_nil hN
  refine ⟨a, k, [x0], rfl, rfl, ha, List.cons_ne_nil _ _, h0, h1, by show 1 ≤ 1000; decide, fun e => ⟨Same.refl _, ?_⟩, fun _ p hp => new_tup hp (dpA_rep hh _)⟩
  subst e
  exact hx
def spBent (K : PySem.W.Frag) : Sp := fun vs H Q _ => ∃ (S D : Addr) (v : V) (W : Wt), vs = [.ref D, v] ∧ DrawAt S D H ∧ Dp K H v (dWt W) ∧ WtOk W ∧ ∀ (H' : Hp) (v' : V) (z : Str) (R : List (List OP)) (B : List Int), Go S D H H' → Dp K H' v' (dGw z R B) → FewW R B → Q v' H'
section
variable {P : Program} {w : World} {K : PySem.W.Frag} {mg : Str → Option Value} {base : Heap}
set_option maxHeartbeats 0 in
theorem ok__law_bent_watch (T : Txt K mg) (D__law_draw : Kept P w K mg base 1 "_law_draw" ["d", "many"] spDraw) (D__law_pick : Kept P w K mg base 2 "_law_pick" ["d", "row"] (spPick K)) (D__law_with : Kept P w K mg base 1 "_law_with" ["row", "k", "thing"] (spWith K)) {f : Addr} {fd : FuncData} (F : FnP K "_law_bent_watch" s__law_bent_watch f fd) : FnOk P w K mg base CX0 3 f fd ["d", "watch"] (spBent K) := by
  refine F.ok sc__law_bent_watch (fun vs H Q E h => ?_) (fun cdv A outer s H vs Q E hr h => ?_)
  · obtain ⟨S, D, v, W, rfl, _⟩ := h
    rfl
  · obtain ⟨S, D, v, W, rfl, d, hv, ok, q⟩ := h
    refine ⟨_, PSs.nox (pss_cons (ps_asg (pv 1) (pg_tup rfl (pgs_cons (pg_name (i := 2) sc__law_bent_watch.nd rfl (Or.inl rfl)) (pgs_cons (pg_name (i := 3) sc__law_bent_watch.nd rfl (Or.inl rfl)) (pgs_cons (pg_name (i := 4) sc__law_bent_watch.nd rfl (Or.inl rfl)) pgs_nil)))))
      (pss_cons (ps_set (i := 5) sc__law_bent_watch.nd rfl (Or.inl rfl) (pe_callB call_len (by rfl) T.b_len (by decide +kernel) (pa_cons (pv 3) pa_nil)))
      (pss_cons (ps_set (i := 6) sc__law_bent_watch.nd rfl (Or.inl rfl) (pe_d D__law_draw (hr.mono (by decide)) (by rfl) (pa_cons (pv 0) (pa_cons pe_int pa_nil))))
      (pss_cons (ps_set (i := 7) sc__law_bent_watch.nd rfl (Or.inl rfl) (pe_d D__law_draw (hr.mono (by decide)) (by rfl) (pa_cons (pv 0) (pa_cons (pv 5) pa_nil))))
      (pss_cons (ps_set (i := 8) sc__law_bent_watch.nd rfl (Or.inl rfl) (pe_ix (ixT (K := K) rfl) (pv 3) (pv 7) (fun _ _ => rfl)))
      (pss_cons (ps_set (i := 9) sc__law_bent_watch.nd rfl (Or.inl rfl) (pe_d D__law_draw (hr.mono (by decide)) (by rfl) (pa_cons (pv 0) (pa_cons (pe_callB call_len (by rfl) T.b_len (by decide +kernel) (pa_cons (pv 8) pa_nil)) pa_nil))))
      (pss_cons (ps_set (i := 10) sc__law_bent_watch.nd rfl (Or.inl rfl) (pe_d D__law_pick (hr.mono (by decide)) (by rfl) (pa_cons (pv 0) (pa_cons (pe_lst (pa_cons (pe_un un_neg pe_int) (pa_cons (pv 5) (pa_cons (pe_op op_sub (pv 5) pe_int) (pa_cons pe_int (pa_cons (pe_un un_neg pe_int) (pa_cons pe_int pa_nil))))))) pa_nil))))
      (pss_cons (ps_if (pt_cmpR op_eq (pv 6) pe_int (nomark _)) (pss_one (ps_set (i := 2) sc__law_bent_watch.nd rfl (Or.inl rfl) (pe_d D__law_pick (hr.mono (by decide)) (by rfl) (pa_cons (pv 0) (pa_cons (pe_lst (pa_cons pe_str (pa_cons pe_str (pa_cons pe_str (pa_cons pe_str pa_nil))))) pa_nil))))) pss_nil)
      (pss_cons (ps_if (pt_cmpR op_eq (pv 6) pe_int (nomark _)) (pss_one (ps_set (i := 3) sc__law_bent_watch.nd rfl (Or.inl rfl) (pe_d D__law_pick (hr.mono (by decide)) (by rfl) (pa_cons (pv 0) (pa_cons (pe_lst (pa_cons (pe_tup pa_nil) (pa_cons (pe_d D__law_with (hr.mono (by decide)) (by rfl) (pa_cons (pv 3) (pa_cons (pv 7) (pa_cons (pe_tup pa_nil) pa_nil)))) pa_nil))) pa_nil))))) pss_nil)
      (pss_cons (ps_if (pt_cmpR op_eq (pv 6) pe_int (nomark _)) (pss_one (ps_set (i := 3) sc__law_bent_watch.nd rfl (Or.inl rfl) (pe_op op_catA (pv 3) (pe_op RP.op_repA (pe_tup (pa_cons (pe_ix (ixT (K := K) rfl) (pv 3) (pv 7) (fun _ _ => rfl)) pa_nil)) (pe_op op_sub (pe_op op_add pe_int (pe_d D__law_draw (hr.mono (by decide)) (by rfl) (pa_cons (pv 0) (pa_cons pe_int pa_nil)))) (pv 5)))))) pss_nil)
      (pss_cons (ps_if (PW.pt (pw_or (pt_cmpR op_eq (pv 6) pe_int (nomark _)) (pw_or1 (pt_cmpR op_eq (pv 6) pe_int (nomark _))))) (pss_one (ps_set (i := 3) sc__law_bent_watch.nd rfl (Or.inl rfl) (pe_d D__law_with (hr.mono (by decide)) (by rfl) (pa_cons (pv 3) (pa_cons (pv 7) (pa_cons (pe_d D__law_with (hr.mono (by decide)) (by rfl) (pa_cons (pv 8) (pa_cons (pv 9) (pa_cons (pe_tup (pa_cons (pe_ix (ixT (K := K) rfl) (pe_ix (ixT (K := K) rfl) (pv 8) (pv 9) (fun _ _ => rfl)) pe_int (fun _ _ => rfl)) (pa_cons (pv 10) pa_nil))) pa_nil)))) pa_nil)))))) pss_nil)
      (pss_cons (ps_if (pt_cmpR op_eq (pv 6) pe_int (nomark _)) (pss_one (ps_set (i := 3) sc__law_bent_watch.nd rfl (Or.inl rfl) (pe_d D__law_with (hr.mono (by decide)) (by rfl) (pa_cons (pv 3) (pa_cons (pv 7) (pa_cons (pe_d D__law_with (hr.mono (by decide)) (by rfl) (pa_cons (pv 8) (pa_cons (pe_op op_sub (pe_callB call_len (by rfl) T.b_len (by decide +kernel) (pa_cons (pv 8) pa_nil)) pe_int) (pa_cons (pe_tup (pa_cons pe_str (pa_cons (pe_ix (ixT (K := K) rfl) (pe_ix (ixT (K := K) rfl) (pv 8) (pe_un un_neg pe_int) (fun _ _ => rfl)) pe_int (fun _ _ => rfl)) pa_nil))) pa_nil)))) pa_nil)))))) pss_nil)
      (pss_cons (ps_if (pt_cmpR op_eq (pv 6) pe_int (nomark _)) (pss_one (ps_set (i := 3) sc__law_bent_watch.nd rfl (Or.inl rfl) (pe_d D__law_with (hr.mono (by decide)) (by rfl) (pa_cons (pv 3) (pa_cons (pv 7) (pa_cons (pe_op op_catA (pe_op op_catA (pe_slice sl_tupA (pv 8) po_none (po_some (pv 9))) (pe_tup (pa_cons (pe_tup (pa_cons pe_non (pa_cons (pe_ix (ixT (K := K) rfl) (pe_ix (ixT (K := K) rfl) (pv 8) (pv 9) (fun _ _ => rfl)) pe_int (fun _ _ => rfl)) pa_nil))) pa_nil))) (pe_slice sl_tupA (pv 8) (po_some (pv 9)) po_none)) pa_nil)))))) pss_nil)
      (pss_cons (ps_if (pt_cmpR op_eq (pv 6) pe_int (nomark _)) (pss_one (ps_set (i := 3) sc__law_bent_watch.nd rfl (Or.inl rfl) (pe_d D__law_with (hr.mono (by decide)) (by rfl) (pa_cons (pv 3) (pa_cons (pv 7) (pa_cons (pe_op op_catA (pe_op op_catA (pe_slice sl_tupA (pv 8) po_none (po_some (pv 9))) (pe_tup (pa_cons (pe_tup (pa_cons (pe_ix (ixT (K := K) rfl) (pe_ix (ixT (K := K) rfl) (pv 8) pe_int (fun _ _ => rfl)) pe_int (fun _ _ => rfl)) (pa_cons (pe_ix (ixT (K := K) rfl) (pe_ix (ixT (K := K) rfl) (pv 8) (pv 9) (fun _ _ => rfl)) pe_int (fun _ _ => rfl)) pa_nil))) pa_nil))) (pe_slice sl_tupA (pv 8) (po_some (pv 9)) po_none)) pa_nil)))))) pss_nil)
      (pss_cons (ps_if (pt_cmpR op_eq (pv 6) pe_int (nomark _)) (pss_one (ps_set (i := 4) sc__law_bent_watch.nd rfl (Or.inl rfl) (pe_d D__law_pick (hr.mono (by decide)) (by rfl) (pa_cons (pv 0) (pa_cons (pe_lst (pa_cons (pe_op op_catA (pv 4) (pe_tup (pa_cons (pv 10) pa_nil))) (pa_cons (pe_op op_catA (pe_tup (pa_cons (pv 10) pa_nil)) (pv 4)) (pa_cons (RV.pe_revT (pv 4)) (pa_cons (pe_op op_catA (pv 4) (pv 4)) pa_nil))))) pa_nil))))) pss_nil)
      (pss_cons (ps_if (pt_cmpR op_eq (pv 6) pe_int (nomark _)) (pss_one (ps_set (i := 4) sc__law_bent_watch.nd rfl (Or.inl rfl) (pe_d D__law_pick (hr.mono (by decide)) (by rfl) (pa_cons (pv 0) (pa_cons (pe_lst (pa_cons (pe_tup pa_nil) (pa_cons (pe_tupRg rfl rfl T.b_tuple (prg_1 rfl T.b_range (pv 5))) (pa_cons (pe_tup (pa_cons (pe_op op_sub (pv 5) pe_int) pa_nil)) pa_nil)))) pa_nil))))) pss_nil)
      (pss_one (ps_ret (pe_tup (pa_cons (pv 2) (pa_cons (pv 3) (pa_cons (pv 4) pa_nil)))))))))))))))))))))), ?_⟩
    have fin : ∀ (H6 : Hp) (z : Str) (vR vB : V) (R' : List (List OP)) (B' : List Int), Go S D H H6 → Dp K H6 vR (.tuple (R'.map dGr)) → Dp K H6 vB (dI B') → R'.length ≤ 100 → (∀ r ∈ R', r.length ≤ 60) → B'.length ≤ 100 → 3 ≤ sizeLine ∧ ∀ p, H6 p = none → Q (.ref p) (upd H6 p (.tup [.str z, vR, vB])) := fun H6 z vR vB R' B' g hR hB l1 l2 l3 => ⟨by decide, fun p hp => by
      have s := same_new (o := .tup [V.str z, vR, vB]) hp
      exact q _ _ z R' B' (g.trans (Go.new g.1 hp)) (.tup (SqT.of upd_same) (.cons (.str _) (.cons (dp_same s _ _ hR) (.cons (dp_same s _ _ hB) .nil)))) ⟨l1, fun r hr => Nat.le_trans (l2 r hr) (by decide), by omega⟩⟩
    have er : ∀ r ∈ W.rows.map gRow, 1 ≤ r.length ∧ r.length ≤ 21 := fun r hr => by
      obtain ⟨r', h', rfl⟩ := List.mem_map.mp hr
      have := (ok.row _ h').1
      rw [gRow_len]
      omega
    have n1 : 1 ≤ (W.rows.map gRow).length := by rw [List.length_map]; exact ok.pos
    have n2 : (W.rows.map gRow).length ≤ 20 := by rw [List.length_map]; exact ok.few
    have nb : (W.bad.map fun k : Nat => (k : Int)).length ≤ 20 := by rw [List.length_map]; exact ok.fewB
    rw [dWt_g] at hv
    generalize W.rows.map gRow = R at hv er n1 n2
    generalize (W.bad.map fun k : Nat => (k : Int)) = B at hv nb
    obtain ⟨p, pq, pb, xs, rfl, hp, hpq, hA, hpb⟩ := gw_at hv
    have xl := dpA_len hA
    rw [List.length_map] at xl
    have dR : Dp K H (.ref pq) (.tuple (R.map dGr)) := .tup hpq hA
    have dB : Dp K H (.ref pb) (dI B) := i_of hpb
    refine ⟨_, rfl, p, _, rfl, hp, rfl, _, _, rfl, _, _, rfl, _, _, rfl, rfl, ?_⟩
    refine ⟨_, rfl, _, _, rfl, .inr ⟨_, hpq, rfl⟩, ?_⟩
    rw [xl]
    refine ⟨_, rfl, S, D, 11, rfl, divW_of (by decide) (by decide), d, fun H1 way w0 w1 g1 => ?_⟩
    refine ⟨_, rfl, _, rfl, S, D, _, rfl, divW_of (by omega) (by omega), g1.1, fun H2 sv s0 s1 g2 => ?_⟩
    obtain ⟨sn, rfl⟩ : ∃ k : Nat, sv = (k : Int) := ⟨sv.toNat, by omega⟩
    have g2 := g1.trans g2
    have sl : sn < R.length := by omega
    have eR : R[sn]? = some R[sn] := List.getElem?_eq_getElem sl
    generalize R[sn] = r at eR
    obtain ⟨x, hx, dx0⟩ := dpA_get hA eR
    obtain ⟨r1, r2⟩ := er r (List.mem_of_getElem? eR)
    have kt2 := Go.keepT d g2
    obtain ⟨pr, ys, rfl, hpr, hB⟩ := dp_tup (dp_keep kt2 _ _ (dGr_noL r) dx0)
    have yl := dpA_len hB
    rw [List.length_map] at yl
    refine ⟨_, rfl, _, rfl, pq, _, _, _, rfl, rfl, sqt_keep kt2 hpq, atI_nat hx, ?_⟩
    refine ⟨_, rfl, _, rfl, _, _, rfl, .inr ⟨_, hpr, rfl⟩, S, D, _, rfl, divW_of (by omega) (by omega), g2.1, fun H3 kv k0 k1 g3 => ?_⟩
    obtain ⟨k, rfl⟩ : ∃ j : Nat, kv = (j : Int) := ⟨kv.toNat, by omega⟩
    have g3 := g2.trans g3
    have kl : k < r.length := by omega
    refine ⟨_, rfl, _, rfl, _, rfl, _, rfl, _, _, rfl, rfl, _, rfl, by show 6 ≤ sizeLine; decide, fun L hL => ?_⟩
    have LD := (g3.1.free hL).1
    have g4 := g3.trans (Go.new (o := .lst [V.int (-1), .int (R.length : Int), .int ((R.length : Int) - 1), .int 0, .int (-1000000), .int 1000000]) g3.1 hL)
    refine ⟨S, D, .ref L, [V.int (-1), .int (R.length : Int), .int ((R.length : Int) - 1), .int 0, .int (-1000000), .int 1000000], rfl, g4.1, fun H' g => .inr (.inl ⟨L, rfl, SqL.of (g.2 _ _ upd_same LD)⟩), by show 0 < 6; decide, by show 6 ≤ 100000; decide, fun H5 x hx5 g5 => ?_⟩
    obtain ⟨num, rfl⟩ : ∃ n : Int, x = .int n := by
      simp only [List.mem_cons, List.not_mem_nil, or_false] at hx5
      rcases hx5 with e | e | e | e | e | e <;> exact ⟨_, e⟩
    have g5 := g4.trans g5
    have kt5 := Go.keepT d g5
    have dR5 := dp_keep kt5 _ _ (gRows_noL R) dR
    have dB5 := dp_keep kt5 _ _ (dI_noL B) dB
    have dr5 := dp_keep kt5 _ _ (dGr_noL r) dx0
    have hr5 : SqT K H5 pr ys := sqt_keep (Go.keepT g2.1 ((show Go S D H2 H3 from ‹Go S D H2 H3›).trans ((Go.new g3.1 hL).trans ‹Go S D _ H5›))) hpr
    generalize hσ : List.set _ 9 (some (V.int (k : Int))) = σ
    obtain rfl : σ = [some (.ref D), some (.ref p), some (.str "watch"), some (.ref pq), some (.ref pb), some (.int (R.length : Int)), some (.int way), some (.int (sn : Int)), some (.ref pr), some (.int (k : Int)), none] := hσ.symm
    clear hσ
    have kt25 : KeepT H2 H5 := Go.keepT g2.1 ((show Go S D H2 H3 from ‹Go S D H2 H3›).trans ((Go.new g3.1 hL).trans ‹Go S D _ H5›))
    have hB5 : DpAll K H5 ys (r.map dOp) := dpA_keep kt25 _ _ (noLs_map _ _ fun p _ => dOp_noL p) hB
    have dr5' : Dp K H5 (.ref pr) (.tuple (r.map dOp)) := dr5
    have hpq5 := sqt_keep kt5 hpq
    have hpb5 := sqt_keep kt5 hpb
    have at5 : ∀ j, j < r.length → ∃ (u : OP) (pe : Addr), r[j]? = some u ∧ ys[j]? = some (.ref pe) ∧ SqT K H5 pe [vO u.1, .int u.2] := fun j hj => by
      have e := List.getElem?_eq_getElem hj
      obtain ⟨x, h1, h2⟩ := dpA_get hB5 e
      obtain ⟨pe, rfl, h3⟩ := op_at h2
      exact ⟨_, pe, e, h1, h3⟩
    obtain ⟨qk, pe, eqk, hyk, hpe⟩ := at5 k kl
    have rl60 : ∀ r ∈ R, r.length ≤ 60 := fun r hr => Nat.le_trans (er r hr).2 (by decide)
    clear dx0 hB hr5 hx5 hv
    have lenI : ∀ {ds : List OP} (m : Nat), m < ds.length → ds.length ≤ 60 → m < (ds.map dOp).length ∧ (ds.map dOp).length ≤ 100 := fun m a b => by rw [List.length_map]; exact ⟨a, by omega⟩
    have lenR : sn < (R.map dGr).length ∧ (R.map dGr).length ≤ 100 := by rw [List.length_map]; exact ⟨sl, by omega⟩
    have hr5 := dp_tup dr5'
    clear hr5
    have hr5 : SqT K H5 pr ys := sqt_keep kt25 hpr
    have done : ∀ (H8 : Hp) (v8 : V) (r' : List OP), Same H5 H8 → Dp K H8 v8 (.tuple ((R.map dGr).take sn ++ [dGr r'] ++ (R.map dGr).drop (sn + 1))) → r'.length ≤ 60 → 3 ≤ sizeLine ∧ ∀ p, H8 p = none → Q (.ref p) (upd H8 p (.tup [.str "watch", v8, .ref pb])) := fun H8 v8 r' s8 d8 l8 => by
      rw [with_map] at d8
      exact fin H8 "watch" v8 (.ref pb) _ B (g5.trans (Go.same g5.1 s8)) d8 (dp_same s8 _ _ dB5) (by rw [len_with _ sl]; omega) (few_with sn rl60 l8) (by omega)
    have hw : way = 0 ∨ way = 1 ∨ way = 2 ∨ way = 3 ∨ way = 4 ∨ way = 5 ∨ way = 6 ∨ way = 7 ∨ way = 8 ∨ way = 9 ∨ way = 10 := by omega
    rcases hw with rfl | rfl | rfl | rfl | rfl | rfl | rfl | rfl | rfl | rfl | rfl
    · refine ⟨_, rfl, rfl, _, rfl, ite2 (fun _ => ?_) (fun h => absurd rfl h)⟩
      refine ⟨_, rfl, ?_⟩
      refine ⟨by show 4 ≤ sizeLine; decide, fun L2 hL2 => ?_⟩
      have L2D := (g5.1.free hL2).1
      have gN : Go S D H5 (upd H5 L2 (.lst [V.str "watches", .str "", .str "chain", .str "watch"])) := Go.new g5.1 hL2
      refine ⟨S, D, .ref L2, [V.str "watches", .str "", .str "chain", .str "watch"], rfl, gN.1, fun H' g => .inr (.inl ⟨L2, rfl, SqL.of (g.2 _ _ upd_same L2D)⟩), by show 0 < 4; decide, by show 4 ≤ 100000; decide, fun H10 x hx10 gM => ?_⟩
      have gMN : Go S D H5 H10 := gN.trans gM
      have g10 := g5.trans gMN
      have dR10 := dp_keep (Go.keepT d g10) _ _ (gRows_noL R) dR
      have dB10 := dp_keep (Go.keepT d g10) _ _ (dI_noL B) dB
      obtain ⟨z, rfl⟩ : ∃ z : Str, x = .str z := by
        simp only [List.mem_cons, List.not_mem_nil, or_false] at hx10
        rcases hx10 with e | e | e | e <;> exact ⟨_, e⟩
      refine ⟨_, rfl, rfl, _, rfl, ite2 (fun h => (nomatch (show false = true from h))) (fun _ => ?_)⟩
      refine ⟨_, rfl, rfl, _, rfl, ite2 (fun h => (nomatch (show false = true from h))) (fun _ => ?_)⟩
      refine ⟨_, rfl, rfl, _, rfl, ite2 (fun h => (nomatch (show false = true from h))) (fun _ => ⟨_, rfl, rfl, _, rfl, ite2 (fun h => (nomatch (show false = true from h))) (fun _ => ?_)⟩)⟩
      refine ⟨_, rfl, rfl, _, rfl, ite2 (fun h => (nomatch (show false = true from h))) (fun _ => ?_)⟩
      refine ⟨_, rfl, rfl, _, rfl, ite2 (fun h => (nomatch (show false = true from h))) (fun _ => ?_)⟩
      refine ⟨_, rfl, rfl, _, rfl, ite2 (fun h => (nomatch (show false = true from h))) (fun _ => ?_)⟩
      refine ⟨_, rfl, rfl, _, rfl, ite2 (fun h => (nomatch (show false = true from h))) (fun _ => ?_)⟩
      refine ⟨_, rfl, rfl, _, rfl, ite2 (fun h => (nomatch (show false = true from h))) (fun _ => ?_)⟩
      refine ⟨_, rfl, _, rfl, _, rfl, ?_⟩
      exact fin H10 z _ _ R B g10 dR10 dB10 (by omega) rl60 (by omega)
    · refine ⟨_, rfl, rfl, _, rfl, ite2 (fun h => (nomatch (show false = true from h))) (fun _ => ?_)⟩
      refine ⟨_, rfl, rfl, _, rfl, ite2 (fun _ => ?_) (fun h => absurd rfl h)⟩
      refine ⟨_, rfl, Nat.zero_le _, fun p1 hp1 => ?_⟩
      obtain ⟨s6, d6⟩ := new_tup (K := K) (ds := []) hp1 .nil
      generalize upd H5 p1 (.tup []) = H6 at s6 d6
      refine ⟨_, rfl, _, rfl, Nat.zero_le _, fun p2 hp2 => ?_⟩
      obtain ⟨s7, d7⟩ := new_tup (K := K) (ds := []) hp2 .nil
      generalize upd H6 p2 (.tup []) = H7 at s7 d7
      refine ⟨.ref pq, .ref p2, sn, R.map dGr, dGr [], rfl, dp_same (s6.trans s7) _ _ dR5, d7, lenR.1, lenR.2, fun H8 v8 s8 d8 => ?_⟩
      rw [with_map] at d8
      have s68 := s7.trans s8
      have d6 := dp_same s68 _ _ d6
      have g8 := g5.trans (Go.same g5.1 (s6.trans s68))
      refine ⟨by show 2 ≤ sizeLine; decide, fun L2 hL2 => ?_⟩
      have L2D := (g8.1.free hL2).1
      have gN : Go S D H8 (upd H8 L2 (.lst [V.ref p1, v8])) := Go.new g8.1 hL2
      refine ⟨S, D, .ref L2, [V.ref p1, v8], rfl, gN.1, fun H' g => .inr (.inl ⟨L2, rfl, SqL.of (g.2 _ _ upd_same L2D)⟩), by show 0 < 2; decide, by show 2 ≤ 100000; decide, fun H10 x hx10 gM => ?_⟩
      have gMN : Go S D H8 H10 := gN.trans gM
      have g10 := g8.trans gMN
      have dR10 := dp_keep (Go.keepT d g10) _ _ (gRows_noL R) dR
      have dB10 := dp_keep (Go.keepT d g10) _ _ (dI_noL B) dB
      obtain ⟨R', l1, l2, dx⟩ : ∃ R' : List (List OP), R'.length ≤ 100 ∧ (∀ r ∈ R', r.length ≤ 60) ∧ Dp K H10 x (.tuple (R'.map dGr)) := by
        rcases List.mem_cons.mp hx10 with e | h
        · rw [e]
          exact ⟨[], Nat.zero_le _, fun _ h => absurd h List.not_mem_nil, dp_keep (Go.keepT g8.1 gMN) _ _ rfl d6⟩
        · rw [List.mem_singleton.mp h]
          exact ⟨_, by rw [len_with _ sl]; omega, few_with sn rl60 (Nat.zero_le _), dp_keep (Go.keepT g8.1 gMN) _ _ (gRows_noL _) d8⟩
      refine ⟨_, rfl, rfl, _, rfl, ite2 (fun h => (nomatch (show false = true from h))) (fun _ => ?_)⟩
      refine ⟨_, rfl, rfl, _, rfl, ite2 (fun h => (nomatch (show false = true from h))) (fun _ => ⟨_, rfl, rfl, _, rfl, ite2 (fun h => (nomatch (show false = true from h))) (fun _ => ?_)⟩)⟩
      refine ⟨_, rfl, rfl, _, rfl, ite2 (fun h => (nomatch (show false = true from h))) (fun _ => ?_)⟩
      refine ⟨_, rfl, rfl, _, rfl, ite2 (fun h => (nomatch (show false = true from h))) (fun _ => ?_)⟩
      refine ⟨_, rfl, rfl, _, rfl, ite2 (fun h => (nomatch (show false = true from h))) (fun _ => ?_)⟩
      refine ⟨_, rfl, rfl, _, rfl, ite2 (fun h => (nomatch (show false = true from h))) (fun _ => ?_)⟩
      refine ⟨_, rfl, rfl, _, rfl, ite2 (fun h => (nomatch (show false = true from h))) (fun _ => ?_)⟩
      refine ⟨_, rfl, _, rfl, _, rfl, ?_⟩
      exact fin H10 _ _ _ R' B g10 dx dB10 l1 l2 (by omega)
    · refine ⟨_, rfl, rfl, _, rfl, ite2 (fun h => (nomatch (show false = true from h))) (fun _ => ?_)⟩
      refine ⟨_, rfl, rfl, _, rfl, ite2 (fun h => (nomatch (show false = true from h))) (fun _ => ?_)⟩
      refine ⟨_, rfl, rfl, _, rfl, ite2 (fun _ => ?_) (fun h => absurd rfl h)⟩
      refine ⟨_, rfl, _, rfl, _, rfl, pq, _, _, _, rfl, rfl, hpq5, atI_nat hx, by show 1 ≤ sizeLine; decide, fun p1 hp1 => ?_⟩
      obtain ⟨s6, d6⟩ := new_tup (K := K) (ds := [dGr r]) hp1 (.cons dr5 .nil)
      generalize upd H5 p1 (.tup [V.ref pr]) = H6 at s6 d6
      have g6 := g5.trans (Go.same g5.1 s6)
      refine ⟨_, rfl, S, D, 2, rfl, divW_of (by decide) (by decide), g6.1, fun H7 b b0 b1 g7 => ⟨_, _, rfl, rfl, _, rfl, _, _, rfl, rfl, ?_⟩⟩
      have d7 := dp_keep (Go.keepT g6.1 g7) _ _ (by show (noL (dGr r) && true) = true; rw [dGr_noL]; rfl) d6
      have g7 := g6.trans g7
      have dR7 := dp_keep (Go.keepT d g7) _ _ (gRows_noL R) dR
      refine rep_mono (rep_W d7 (by omega) (by omega)) fun v8 H8 hh => ?_
      obtain ⟨s8, d8⟩ := hh
      refine catA_mono (cat_W (dp_same s8 _ _ dR7) d8 (by rw [List.length_map, List.length_replicate]; omega)) fun v9 H9 hh => ?_
      obtain ⟨s9, d9⟩ := hh
      have g9 := g7.trans (Go.same g7.1 (s8.trans s9))
      have dB9 := dp_keep (Go.keepT d g9) _ _ (dI_noL B) dB
      rw [← List.map_replicate, ← List.map_append] at d9
      refine ⟨_, rfl, rfl, _, rfl, ite2 (fun h => (nomatch (show false = true from h))) (fun _ => ⟨_, rfl, rfl, _, rfl, ite2 (fun h => (nomatch (show false = true from h))) (fun _ => ?_)⟩)⟩
      refine ⟨_, rfl, rfl, _, rfl, ite2 (fun h => (nomatch (show false = true from h))) (fun _ => ?_)⟩
      refine ⟨_, rfl, rfl, _, rfl, ite2 (fun h => (nomatch (show false = true from h))) (fun _ => ?_)⟩
      refine ⟨_, rfl, rfl, _, rfl, ite2 (fun h => (nomatch (show false = true from h))) (fun _ => ?_)⟩
      refine ⟨_, rfl, rfl, _, rfl, ite2 (fun h => (nomatch (show false = true from h))) (fun _ => ?_)⟩
      refine ⟨_, rfl, rfl, _, rfl, ite2 (fun h => (nomatch (show false = true from h))) (fun _ => ?_)⟩
      refine ⟨_, rfl, _, rfl, _, rfl, ?_⟩
      exact fin H9 _ _ _ _ B g9 d9 dB9 (by rw [List.length_append, List.length_replicate]; omega) (fun r' hr => by
        rcases List.mem_append.mp hr with h | h
        · exact rl60 r' h
        · rw [List.eq_of_mem_replicate h]
          omega) (by omega)
    · refine ⟨_, rfl, rfl, _, rfl, ite2 (fun h => (nomatch (show false = true from h))) (fun _ => ?_)⟩
      refine ⟨_, rfl, rfl, _, rfl, ite2 (fun h => (nomatch (show false = true from h))) (fun _ => ?_)⟩
      refine ⟨_, rfl, rfl, _, rfl, ite2 (fun h => (nomatch (show false = true from h))) (fun _ => ?_)⟩
      refine ⟨_, rfl, rfl, _, rfl, ite2 (fun _ => ite2 (fun _ => ?_) (fun h => absurd rfl h)) (fun h => absurd rfl h)⟩
      refine ⟨_, rfl, _, rfl, _, rfl, _, rfl, _, rfl, _, rfl, pr, _, _, _, rfl, rfl, hr5, atI_nat hyk, pe, _, _, _, rfl, rfl, hpe, atI_nat (j := 0) rfl, _, rfl, by show 2 ≤ sizeLine; decide, fun p1 hp1 => ?_⟩
      obtain ⟨s6, d6⟩ := new_tup (K := K) (xs := [vO qk.1, V.int num]) (ds := [dO qk.1, .int num]) hp1 (.cons (vO_dp _) (.cons (.int _) .nil))
      generalize upd H5 p1 (.tup [vO qk.1, V.int num]) = H6 at s6 d6
      refine ⟨.ref pr, .ref p1, k, r.map dOp, dOp (qk.1, num), rfl, dp_same s6 _ _ dr5', d6, (lenI k kl (by omega)).1, (lenI k kl (by omega)).2, fun H7 v7 s7 d7 => ?_⟩
      rw [with_map] at d7
      have s67 := s6.trans s7
      refine ⟨.ref pq, v7, sn, R.map dGr, dGr (r.take k ++ [(qk.1, num)] ++ r.drop (k + 1)), rfl, dp_same s67 _ _ dR5, d7, lenR.1, lenR.2, fun H8 v8 s8 d8 => ?_⟩
      refine ⟨_, rfl, rfl, _, rfl, ite2 (fun h => (nomatch (show false = true from h))) (fun _ => ?_)⟩
      refine ⟨_, rfl, rfl, _, rfl, ite2 (fun h => (nomatch (show false = true from h))) (fun _ => ?_)⟩
      refine ⟨_, rfl, rfl, _, rfl, ite2 (fun h => (nomatch (show false = true from h))) (fun _ => ?_)⟩
      refine ⟨_, rfl, rfl, _, rfl, ite2 (fun h => (nomatch (show false = true from h))) (fun _ => ?_)⟩
      refine ⟨_, rfl, rfl, _, rfl, ite2 (fun h => (nomatch (show false = true from h))) (fun _ => ?_)⟩
      refine ⟨_, rfl, _, rfl, _, rfl, ?_⟩
      exact done H8 v8 _ (s67.trans s8) d8 (by rw [len_with _ kl]; omega)
    · refine ⟨_, rfl, rfl, _, rfl, ite2 (fun h => (nomatch (show false = true from h))) (fun _ => ?_)⟩
      refine ⟨_, rfl, rfl, _, rfl, ite2 (fun h => (nomatch (show false = true from h))) (fun _ => ?_)⟩
      refine ⟨_, rfl, rfl, _, rfl, ite2 (fun h => (nomatch (show false = true from h))) (fun _ => ?_)⟩
      refine ⟨_, rfl, rfl, _, rfl, ite2 (fun h => (nomatch (show false = true from h))) (fun _ => ⟨_, rfl, rfl, _, rfl, ite2 (fun _ => ?_) (fun h => absurd rfl h)⟩)⟩
      refine ⟨_, rfl, _, rfl, _, rfl, _, rfl, _, rfl, _, rfl, pr, _, _, _, rfl, rfl, hr5, atI_nat hyk, pe, _, _, _, rfl, rfl, hpe, atI_nat (j := 0) rfl, _, rfl, by show 2 ≤ sizeLine; decide, fun p1 hp1 => ?_⟩
      obtain ⟨s6, d6⟩ := new_tup (K := K) (xs := [vO qk.1, V.int num]) (ds := [dO qk.1, .int num]) hp1 (.cons (vO_dp _) (.cons (.int _) .nil))
      generalize upd H5 p1 (.tup [vO qk.1, V.int num]) = H6 at s6 d6
      refine ⟨.ref pr, .ref p1, k, r.map dOp, dOp (qk.1, num), rfl, dp_same s6 _ _ dr5', d6, (lenI k kl (by omega)).1, (lenI k kl (by omega)).2, fun H7 v7 s7 d7 => ?_⟩
      rw [with_map] at d7
      have s67 := s6.trans s7
      refine ⟨.ref pq, v7, sn, R.map dGr, dGr (r.take k ++ [(qk.1, num)] ++ r.drop (k + 1)), rfl, dp_same s67 _ _ dR5, d7, lenR.1, lenR.2, fun H8 v8 s8 d8 => ?_⟩
      refine ⟨_, rfl, rfl, _, rfl, ite2 (fun h => (nomatch (show false = true from h))) (fun _ => ?_)⟩
      refine ⟨_, rfl, rfl, _, rfl, ite2 (fun h => (nomatch (show false = true from h))) (fun _ => ?_)⟩
      refine ⟨_, rfl, rfl, _, rfl, ite2 (fun h => (nomatch (show false = true from h))) (fun _ => ?_)⟩
      refine ⟨_, rfl, rfl, _, rfl, ite2 (fun h => (nomatch (show false = true from h))) (fun _ => ?_)⟩
      refine ⟨_, rfl, rfl, _, rfl, ite2 (fun h => (nomatch (show false = true from h))) (fun _ => ?_)⟩
      refine ⟨_, rfl, _, rfl, _, rfl, ?_⟩
      exact done H8 v8 _ (s67.trans s8) d8 (by rw [len_with _ kl]; omega)
    · refine ⟨_, rfl, rfl, _, rfl, ite2 (fun h => (nomatch (show false = true from h))) (fun _ => ?_)⟩
      refine ⟨_, rfl, rfl, _, rfl, ite2 (fun h => (nomatch (show false = true from h))) (fun _ => ?_)⟩
      refine ⟨_, rfl, rfl, _, rfl, ite2 (fun h => (nomatch (show false = true from h))) (fun _ => ?_)⟩
      refine ⟨_, rfl, rfl, _, rfl, ite2 (fun h => (nomatch (show false = true from h))) (fun _ => ⟨_, rfl, rfl, _, rfl, ite2 (fun h => (nomatch (show false = true from h))) (fun _ => ?_)⟩)⟩
      refine ⟨_, rfl, rfl, _, rfl, ite2 (fun _ => ?_) (fun h => absurd rfl h)⟩
      obtain ⟨ql, pl, eql, hyl, hpl⟩ := at5 (r.length - 1) (by omega)
      refine ⟨_, rfl, _, rfl, _, rfl, _, rfl, _, _, rfl, .inr ⟨_, hr5, rfl⟩, _, _, rfl, rfl, _, rfl, _, rfl, pr, _, _, _, rfl, rfl, hr5, atI_m1 (by rw [List.getLast?_eq_getElem?, yl]; exact hyl), pl, _, _, _, rfl, rfl, hpl, atI_nat (j := 1) rfl, by show 2 ≤ sizeLine; decide, fun p1 hp1 => ?_⟩
      obtain ⟨s6, d6⟩ := new_tup (K := K) (xs := [V.str "end", V.int ql.2]) (ds := [.str "end", .int ql.2]) hp1 (.cons (.str _) (.cons (.int _) .nil))
      generalize upd H5 p1 (.tup [V.str "end", V.int ql.2]) = H6 at s6 d6
      refine ⟨.ref pr, .ref p1, r.length - 1, r.map dOp, dOp (some "end", ql.2), by show [V.ref pr, .int ((ys.length : Int) - 1), .ref p1] = _; rw [show ((ys.length : Nat) : Int) - 1 = ((r.length - 1 : Nat) : Int) by omega], dp_same s6 _ _ dr5', d6, (lenI _ (by omega) (by omega)).1, (lenI (r.length - 1) (by omega) (by omega)).2, fun H7 v7 s7 d7 => ?_⟩
      rw [with_map] at d7
      have s67 := s6.trans s7
      refine ⟨.ref pq, v7, sn, R.map dGr, dGr _, rfl, dp_same s67 _ _ dR5, d7, lenR.1, lenR.2, fun H8 v8 s8 d8 => ?_⟩
      refine ⟨_, rfl, rfl, _, rfl, ite2 (fun h => (nomatch (show false = true from h))) (fun _ => ?_)⟩
      refine ⟨_, rfl, rfl, _, rfl, ite2 (fun h => (nomatch (show false = true from h))) (fun _ => ?_)⟩
      refine ⟨_, rfl, rfl, _, rfl, ite2 (fun h => (nomatch (show false = true from h))) (fun _ => ?_)⟩
      refine ⟨_, rfl, rfl, _, rfl, ite2 (fun h => (nomatch (show false = true from h))) (fun _ => ?_)⟩
      refine ⟨_, rfl, _, rfl, _, rfl, ?_⟩
      exact done H8 v8 _ (s67.trans s8) d8 (by rw [len_with _ (by omega)]; omega)
    · refine ⟨_, rfl, rfl, _, rfl, ite2 (fun h => (nomatch (show false = true from h))) (fun _ => ?_)⟩
      refine ⟨_, rfl, rfl, _, rfl, ite2 (fun h => (nomatch (show false = true from h))) (fun _ => ?_)⟩
      refine ⟨_, rfl, rfl, _, rfl, ite2 (fun h => (nomatch (show false = true from h))) (fun _ => ?_)⟩
      refine ⟨_, rfl, rfl, _, rfl, ite2 (fun h => (nomatch (show false = true from h))) (fun _ => ⟨_, rfl, rfl, _, rfl, ite2 (fun h => (nomatch (show false = true from h))) (fun _ => ?_)⟩)⟩
      refine ⟨_, rfl, rfl, _, rfl, ite2 (fun h => (nomatch (show false = true from h))) (fun _ => ?_)⟩
      refine ⟨_, rfl, rfl, _, rfl, ite2 (fun _ => ?_) (fun h => absurd rfl h)⟩
      refine ⟨_, rfl, _, rfl, _, rfl, _, rfl, _, rfl, ?_⟩
      refine slA_mono (sl_to dr5' k) fun v1 H6 hh => ?_
      obtain ⟨s6, d6⟩ := hh
      refine ⟨_, rfl, _, rfl, pr, _, _, _, rfl, rfl, same_t s6 hr5, atI_nat hyk, pe, _, _, _, rfl, rfl, same_t s6 hpe, atI_nat (j := 1) rfl, by show 2 ≤ sizeLine; decide, fun p1 hp1 => ?_⟩
      obtain ⟨s7, d7⟩ := new_tup (K := K) (xs := [V.non, V.int qk.2]) (ds := [dO none, .int qk.2]) hp1 (.cons (vO_dp none) (.cons (.int _) .nil))
      generalize upd H6 p1 (.tup [V.non, V.int qk.2]) = H7 at s7 d7
      refine ⟨by show 1 ≤ sizeLine; decide, fun p2 hp2 => ?_⟩
      obtain ⟨s8, d8⟩ := new_tup (K := K) (xs := [.ref p1]) (ds := [dOp (none, qk.2)]) hp2 (.cons d7 .nil)
      generalize upd H7 p2 (.tup [V.ref p1]) = H8 at s8 d8
      refine catA_mono (cat_W (dp_same (s7.trans s8) _ _ d6) d8 (by rw [List.length_take, List.length_map]; show _ + 1 ≤ 1000; omega)) fun v3 H9 hh => ?_
      obtain ⟨s9, d9⟩ := hh
      have s59 := s6.trans ((s7.trans s8).trans s9)
      refine ⟨_, rfl, _, rfl, _, rfl, ?_⟩
      have hs := sl_from (dp_same s59 _ _ dr5') (k := k) (by rw [List.length_map]; omega)
      dsimp only [tNoPart]
      refine slA_mono hs fun v4 H10 hh => ?_
      obtain ⟨s10, d10⟩ := hh
      refine catA_mono (cat_W (dp_same s10 _ _ d9) d10 (by rw [List.length_append, List.length_take, List.length_drop, List.length_map]; show _ + 1 + _ ≤ 1000; omega)) fun v5 H11 hh => ?_
      obtain ⟨s11, d11⟩ := hh
      rw [ins_map] at d11
      have s511 := s59.trans (s10.trans s11)
      refine ⟨.ref pq, v5, sn, R.map dGr, dGr _, rfl, dp_same s511 _ _ dR5, d11, lenR.1, lenR.2, fun H12 v8 s12 d12 => ?_⟩
      refine ⟨_, rfl, rfl, _, rfl, ite2 (fun h => (nomatch (show false = true from h))) (fun _ => ?_)⟩
      refine ⟨_, rfl, rfl, _, rfl, ite2 (fun h => (nomatch (show false = true from h))) (fun _ => ?_)⟩
      refine ⟨_, rfl, rfl, _, rfl, ite2 (fun h => (nomatch (show false = true from h))) (fun _ => ?_)⟩
      refine ⟨_, rfl, _, rfl, _, rfl, ?_⟩
      exact done H12 v8 _ (s511.trans s12) d12 (by rw [len_ins _ (by omega)]; omega)
    · refine ⟨_, rfl, rfl, _, rfl, ite2 (fun h => (nomatch (show false = true from h))) (fun _ => ?_)⟩
      refine ⟨_, rfl, rfl, _, rfl, ite2 (fun h => (nomatch (show false = true from h))) (fun _ => ?_)⟩
      refine ⟨_, rfl, rfl, _, rfl, ite2 (fun h => (nomatch (show false = true from h))) (fun _ => ?_)⟩
      refine ⟨_, rfl, rfl, _, rfl, ite2 (fun h => (nomatch (show false = true from h))) (fun _ => ⟨_, rfl, rfl, _, rfl, ite2 (fun h => (nomatch (show false = true from h))) (fun _ => ?_)⟩)⟩
      refine ⟨_, rfl, rfl, _, rfl, ite2 (fun h => (nomatch (show false = true from h))) (fun _ => ?_)⟩
      refine ⟨_, rfl, rfl, _, rfl, ite2 (fun h => (nomatch (show false = true from h))) (fun _ => ?_)⟩
      refine ⟨_, rfl, rfl, _, rfl, ite2 (fun _ => ?_) (fun h => absurd rfl h)⟩
      obtain ⟨q0, pe0, eq0, hy0, hpe0⟩ := at5 0 (by omega)
      refine ⟨_, rfl, _, rfl, _, rfl, _, rfl, _, rfl, ?_⟩
      refine slA_mono (sl_to dr5' k) fun v1 H6 hh => ?_
      obtain ⟨s6, d6⟩ := hh
      refine ⟨_, rfl, pr, _, _, _, rfl, rfl, same_t s6 hr5, atI_nat (j := 0) hy0, pe0, _, _, _, rfl, rfl, same_t s6 hpe0, atI_nat (j := 0) rfl, _, rfl, _, rfl, pr, _, _, _, rfl, rfl, same_t s6 hr5, atI_nat hyk, pe, _, _, _, rfl, rfl, same_t s6 hpe, atI_nat (j := 1) rfl, by show 2 ≤ sizeLine; decide, fun p1 hp1 => ?_⟩
      obtain ⟨s7, d7⟩ := new_tup (K := K) (xs := [vO q0.1, V.int qk.2]) (ds := [dO q0.1, .int qk.2]) hp1 (.cons (vO_dp q0.1) (.cons (.int _) .nil))
      generalize upd H6 p1 (.tup [vO q0.1, V.int qk.2]) = H7 at s7 d7
      refine ⟨by show 1 ≤ sizeLine; decide, fun p2 hp2 => ?_⟩
      obtain ⟨s8, d8⟩ := new_tup (K := K) (xs := [.ref p1]) (ds := [dOp (q0.1, qk.2)]) hp2 (.cons d7 .nil)
      generalize upd H7 p2 (.tup [V.ref p1]) = H8 at s8 d8
      refine catA_mono (cat_W (dp_same (s7.trans s8) _ _ d6) d8 (by rw [List.length_take, List.length_map]; show _ + 1 ≤ 1000; omega)) fun v3 H9 hh => ?_
      obtain ⟨s9, d9⟩ := hh
      have s59 := s6.trans ((s7.trans s8).trans s9)
      refine ⟨_, rfl, _, rfl, _, rfl, ?_⟩
      have hs := sl_from (dp_same s59 _ _ dr5') (k := k) (by rw [List.length_map]; omega)
      dsimp only [tNoPart]
      refine slA_mono hs fun v4 H10 hh => ?_
      obtain ⟨s10, d10⟩ := hh
      refine catA_mono (cat_W (dp_same s10 _ _ d9) d10 (by rw [List.length_append, List.length_take, List.length_drop, List.length_map]; show _ + 1 + _ ≤ 1000; omega)) fun v5 H11 hh => ?_
      obtain ⟨s11, d11⟩ := hh
      rw [ins_map] at d11
      have s511 := s59.trans (s10.trans s11)
      refine ⟨.ref pq, v5, sn, R.map dGr, dGr _, rfl, dp_same s511 _ _ dR5, d11, lenR.1, lenR.2, fun H12 v8 s12 d12 => ?_⟩
      refine ⟨_, rfl, rfl, _, rfl, ite2 (fun h => (nomatch (show false = true from h))) (fun _ => ?_)⟩
      refine ⟨_, rfl, rfl, _, rfl, ite2 (fun h => (nomatch (show false = true from h))) (fun _ => ?_)⟩
      refine ⟨_, rfl, _, rfl, _, rfl, ?_⟩
      exact done H12 v8 _ (s511.trans s12) d12 (by rw [len_ins _ (by omega)]; omega)
    · refine ⟨_, rfl, rfl, _, rfl, ite2 (fun h => (nomatch (show false = true from h))) (fun _ => ?_)⟩
      refine ⟨_, rfl, rfl, _, rfl, ite2 (fun h => (nomatch (show false = true from h))) (fun _ => ?_)⟩
      refine ⟨_, rfl, rfl, _, rfl, ite2 (fun h => (nomatch (show false = true from h))) (fun _ => ?_)⟩
      refine ⟨_, rfl, rfl, _, rfl, ite2 (fun h => (nomatch (show false = true from h))) (fun _ => ⟨_, rfl, rfl, _, rfl, ite2 (fun h => (nomatch (show false = true from h))) (fun _ => ?_)⟩)⟩
      refine ⟨_, rfl, rfl, _, rfl, ite2 (fun h => (nomatch (show false = true from h))) (fun _ => ?_)⟩
      refine ⟨_, rfl, rfl, _, rfl, ite2 (fun h => (nomatch (show false = true from h))) (fun _ => ?_)⟩
      refine ⟨_, rfl, rfl, _, rfl, ite2 (fun h => (nomatch (show false = true from h))) (fun _ => ?_)⟩
      refine ⟨_, rfl, rfl, _, rfl, ite2 (fun _ => ?_) (fun h => absurd rfl h)⟩
      have dB5' : Dp K H5 (.ref pb) (.tuple (B.map .int)) := dB5
      refine ⟨_, rfl, _, rfl, _, rfl, by show 1 ≤ sizeLine; decide, fun p1 hp1 => ?_⟩
      obtain ⟨s6, d6⟩ := new_tup (K := K) (xs := [V.int num]) (ds := [.int num]) hp1 (.cons (.int _) .nil)
      generalize upd H5 p1 (.tup [V.int num]) = H6 at s6 d6
      refine catA_mono (cat_W (dp_same s6 _ _ dB5') d6 (by rw [List.length_map]; show _ + 1 ≤ 1000; omega)) fun v1 H7 hh => ?_
      obtain ⟨s7, d7⟩ := hh
      have s57 := s6.trans s7
      refine ⟨_, rfl, by show 1 ≤ sizeLine; decide, fun p2 hp2 => ?_⟩
      obtain ⟨s8, d8⟩ := new_tup (K := K) (xs := [V.int num]) (ds := [.int num]) hp2 (.cons (.int _) .nil)
      generalize upd H7 p2 (.tup [V.int num]) = H8 at s8 d8
      have s58 := s57.trans s8
      refine ⟨_, rfl, ?_⟩
      refine catA_mono (cat_W d8 (dp_same s58 _ _ dB5') (by rw [List.length_map]; show 1 + _ ≤ 1000; omega)) fun v2 H9 hh => ?_
      obtain ⟨s9, d9⟩ := hh
      have s59 := s58.trans s9
      refine ⟨_, rfl, pb, _, rfl, same_t s59 hpb5, fun p3 hp3 => ?_⟩
      have s10 := same_new (o := .tup (B.map V.int).reverse) hp3
      have d10 : Dp K (upd H9 p3 (.tup (B.map V.int).reverse)) (.ref p3) (dI B.reverse) := i_of (SqT.of (by rw [upd_same, List.map_reverse]))
      generalize upd H9 p3 (.tup (B.map V.int).reverse) = H10' at s10 d10
      have s510 := s59.trans s10
      refine ⟨_, rfl, _, rfl, ?_⟩
      refine catA_mono (cat_W (dp_same s510 _ _ dB5') (dp_same s510 _ _ dB5') (by rw [List.length_map]; omega)) fun v4 H11 hh => ?_
      obtain ⟨s11, d11⟩ := hh
      have g11 := g5.trans (Go.same g5.1 (s510.trans s11))
      have d7 : Dp K H11 v1 (dI (B ++ [num])) := by
        have h := dp_same ((s8.trans s9).trans (s10.trans s11)) _ _ d7
        unfold dI
        rw [List.map_append]
        exact h
      have d9 : Dp K H11 v2 (dI (num :: B)) := dp_same (s10.trans s11) _ _ d9
      have d10 := dp_same s11 _ _ d10
      have d11 : Dp K H11 v4 (dI (B ++ B)) := by
        unfold dI
        rw [List.map_append]
        exact d11
      refine ⟨by show 4 ≤ sizeLine; decide, fun L2 hL2 => ?_⟩
      have L2D := (g11.1.free hL2).1
      have gN : Go S D H11 (upd H11 L2 (.lst [v1, v2, V.ref p3, v4])) := Go.new g11.1 hL2
      refine ⟨S, D, .ref L2, [v1, v2, V.ref p3, v4], rfl, gN.1, fun H' g => .inr (.inl ⟨L2, rfl, SqL.of (g.2 _ _ upd_same L2D)⟩), by show 0 < 4; decide, by show 4 ≤ 100000; decide, fun H10 x hx10 gM => ?_⟩
      have gMN : Go S D H11 H10 := gN.trans gM
      have g10 := g11.trans gMN
      have dR10 := dp_keep (Go.keepT d g10) _ _ (gRows_noL R) dR
      have dB10 := dp_keep (Go.keepT d g10) _ _ (dI_noL B) dB
      obtain ⟨B', l1, dx⟩ : ∃ B' : List Int, B'.length ≤ 100 ∧ Dp K H10 x (dI B') := by
        simp only [List.mem_cons, List.not_mem_nil, or_false] at hx10
        have kk := Go.keepT g11.1 gMN
        rcases hx10 with e | e | e | e
        · rw [e]
          exact ⟨_, by rw [List.length_append]; show _ + 1 ≤ 100; omega, dp_keep kk _ _ (dI_noL _) d7⟩
        · rw [e]
          exact ⟨_, by show _ + 1 ≤ 100; omega, dp_keep kk _ _ (dI_noL _) d9⟩
        · rw [e]
          exact ⟨_, by rw [List.length_reverse]; omega, dp_keep kk _ _ (dI_noL _) d10⟩
        · rw [e]
          exact ⟨_, by rw [List.length_append]; omega, dp_keep kk _ _ (dI_noL _) d11⟩
      refine ⟨_, rfl, rfl, _, rfl, ite2 (fun h => (nomatch (show false = true from h))) (fun _ => ?_)⟩
      refine ⟨_, rfl, _, rfl, _, rfl, ?_⟩
      exact fin H10 _ _ _ R B' g10 dR10 dx (by omega) rl60 l1
    · refine ⟨_, rfl, rfl, _, rfl, ite2 (fun h => (nomatch (show false = true from h))) (fun _ => ?_)⟩
      refine ⟨_, rfl, rfl, _, rfl, ite2 (fun h => (nomatch (show false = true from h))) (fun _ => ?_)⟩
      refine ⟨_, rfl, rfl, _, rfl, ite2 (fun h => (nomatch (show false = true from h))) (fun _ => ?_)⟩
      refine ⟨_, rfl, rfl, _, rfl, ite2 (fun h => (nomatch (show false = true from h))) (fun _ => ⟨_, rfl, rfl, _, rfl, ite2 (fun h => (nomatch (show false = true from h))) (fun _ => ?_)⟩)⟩
      refine ⟨_, rfl, rfl, _, rfl, ite2 (fun h => (nomatch (show false = true from h))) (fun _ => ?_)⟩
      refine ⟨_, rfl, rfl, _, rfl, ite2 (fun h => (nomatch (show false = true from h))) (fun _ => ?_)⟩
      refine ⟨_, rfl, rfl, _, rfl, ite2 (fun h => (nomatch (show false = true from h))) (fun _ => ?_)⟩
      refine ⟨_, rfl, rfl, _, rfl, ite2 (fun h => (nomatch (show false = true from h))) (fun _ => ?_)⟩
      refine ⟨_, rfl, rfl, _, rfl, ite2 (fun _ => ?_) (fun h => absurd rfl h)⟩
      refine ⟨_, rfl, Nat.zero_le _, fun p1 hp1 => ?_⟩
      obtain ⟨s6, d6⟩ := new_tup (K := K) (ds := []) hp1 .nil
      generalize upd H5 p1 (.tup []) = H6 at s6 d6
      refine ⟨_, rfl, _, rfl, RgOk.of_le (by decide) (by omega) (by decide) (by omega), fun p2 hp2 => ?_⟩
      have s7 := same_new (o := .tup (rgV 0 (R.length : Int))) hp2
      have d7 : Dp K (upd H6 p2 (.tup (rgV 0 (R.length : Int)))) (.ref p2) (dI ((List.range ((R.length : Int) - 0).toNat).map fun i : Nat => (0 : Int) + (i : Int))) := i_of (SqT.of (by
        rw [upd_same, List.map_map]
        rfl))
      generalize upd H6 p2 (.tup (rgV 0 (R.length : Int))) = H7 at s7 d7
      refine ⟨_, rfl, _, _, rfl, rfl, by show 1 ≤ sizeLine; decide, fun p3 hp3 => ?_⟩
      obtain ⟨s8, d8⟩ := new_tup (K := K) (xs := [V.int ((R.length : Int) - 1)]) (ds := [.int ((R.length : Int) - 1)]) hp3 (.cons (.int _) .nil)
      generalize upd H7 p3 (.tup [V.int ((R.length : Int) - 1)]) = H8 at s8 d8
      have g8 := g5.trans (Go.same g5.1 (s6.trans (s7.trans s8)))
      have d6 := dp_same (s7.trans s8) _ _ d6
      have d7 := dp_same s8 _ _ d7
      refine ⟨by show 3 ≤ sizeLine; decide, fun L2 hL2 => ?_⟩
      have L2D := (g8.1.free hL2).1
      have gN : Go S D H8 (upd H8 L2 (.lst [V.ref p1, V.ref p2, V.ref p3])) := Go.new g8.1 hL2
      refine ⟨S, D, .ref L2, [V.ref p1, V.ref p2, V.ref p3], rfl, gN.1, fun H' g => .inr (.inl ⟨L2, rfl, SqL.of (g.2 _ _ upd_same L2D)⟩), by show 0 < 3; decide, by show 3 ≤ 100000; decide, fun H10 x hx10 gM => ?_⟩
      have gMN : Go S D H8 H10 := gN.trans gM
      have g10 := g8.trans gMN
      have dR10 := dp_keep (Go.keepT d g10) _ _ (gRows_noL R) dR
      have dB10 := dp_keep (Go.keepT d g10) _ _ (dI_noL B) dB
      obtain ⟨B', l1, dx⟩ : ∃ B' : List Int, B'.length ≤ 100 ∧ Dp K H10 x (dI B') := by
        simp only [List.mem_cons, List.not_mem_nil, or_false] at hx10
        have kk := Go.keepT g8.1 gMN
        rcases hx10 with e | e | e
        · rw [e]
          exact ⟨[], Nat.zero_le _, dp_keep kk _ _ rfl d6⟩
        · rw [e]
          exact ⟨_, by rw [List.length_map, List.length_range]; omega, dp_keep kk _ _ (dI_noL _) d7⟩
        · rw [e]
          exact ⟨[(R.length : Int) - 1], by show 1 ≤ 100; decide, dp_keep kk _ _ (dI_noL _) d8⟩
      refine ⟨_, rfl, _, rfl, _, rfl, ?_⟩
      exact fin H10 _ _ _ R B' g10 dR10 dx (by omega) rl60 l1
    · refine ⟨_, rfl, rfl, _, rfl, ite2 (fun h => (nomatch (show false = true from h))) (fun _ => ?_)⟩
      refine ⟨_, rfl, rfl, _, rfl, ite2 (fun h => (nomatch (show false = true from h))) (fun _ => ?_)⟩
      refine ⟨_, rfl, rfl, _, rfl, ite2 (fun h => (nomatch (show false = true from h))) (fun _ => ?_)⟩
      refine ⟨_, rfl, rfl, _, rfl, ite2 (fun h => (nomatch (show false = true from h))) (fun _ => ⟨_, rfl, rfl, _, rfl, ite2 (fun h => (nomatch (show false = true from h))) (fun _ => ?_)⟩)⟩
      refine ⟨_, rfl, rfl, _, rfl, ite2 (fun h => (nomatch (show false = true from h))) (fun _ => ?_)⟩
      refine ⟨_, rfl, rfl, _, rfl, ite2 (fun h => (nomatch (show false = true from h))) (fun _ => ?_)⟩
      refine ⟨_, rfl, rfl, _, rfl, ite2 (fun h => (nomatch (show false = true from h))) (fun _ => ?_)⟩
      refine ⟨_, rfl, rfl, _, rfl, ite2 (fun h => (nomatch (show false = true from h))) (fun _ => ?_)⟩
      refine ⟨_, rfl, rfl, _, rfl, ite2 (fun h => (nomatch (show false = true from h))) (fun _ => ?_)⟩
      refine ⟨_, rfl, _, rfl, _, rfl, ?_⟩
      exact fin H5 _ _ _ R B g5 dR5 dB5 (by omega) rl60 (by omega)
end
end Mt
namespace Mt
open PySem PySem.Spec PyProof.Rows L2
/-! ### lists of rows of marks, made by hand -/
def LD (K : PySem.W.Frag) (H : Hp) (L : Addr) (sss : List (List Str)) : Prop := ∃ zs, H L = some (.lst zs) ∧ DpAll K H zs (sss.map dSh)
section
variable {K : PySem.W.Frag} {H H' : Hp} {L S D : Addr} {sss ttt : List (List Str)}
theorem LD.same (s : Same H H') (h : LD K H L sss) : LD K H' L sss := by
  obtain ⟨zs, a, b⟩ := h
  exact ⟨zs, s _ _ a, dpA_same s _ _ b⟩
theorem LD.go (d : DrawAt S D H) (n : L ≠ D) (g : Go S D H H') (h : LD K H L sss) : LD K H' L sss := by
  obtain ⟨zs, a, b⟩ := h
  exact ⟨zs, g.2 _ _ a n, dpA_keep (Go.keepT d g) _ _ (noLs_map _ _ fun s _ => dSh_noL s) b⟩
theorem ld_new {zs : List V} (hL : H L = none) (h : DpAll K H zs (sss.map dSh)) : Same H (upd H L (.lst zs)) ∧ LD K (upd H L (.lst zs)) L sss :=
  ⟨same_new hL, zs, upd_same, dpA_same (same_new hL) _ _ h⟩
theorem dpA_flat {xs : List V} {ds : List PyData} (h : DpAll K H xs ds) : ∀ n : Nat, DpAll K H (List.replicate n xs).flatten (List.replicate n ds).flatten
  | 0 => .nil
  | n + 1 => by
    rw [List.replicate_succ, List.replicate_succ, List.flatten_cons, List.flatten_cons]
    exact dpA_app h (dpA_flat h n)
theorem flat_map (n : Nat) : (List.replicate n (sss.map dSh)).flatten = ((List.replicate n sss).flatten).map dSh := by
  induction n with
  | zero => rfl
  | succ n ih => rw [List.replicate_succ, List.replicate_succ, List.flatten_cons, List.flatten_cons, List.map_append, ih]
theorem ld_rep {Q : VK} {k : Int} (h : LD K H L sss) (h0 : 0 ≤ k) (h1 : k ≤ 100) (hl : sss.length ≤ 100) (q : ∀ (C : Addr) (H' : Hp), H C = none → Same H H' → LD K H' C (List.replicate k.toNat sss).flatten → Q (.ref C) H') : rRep (.ref L) (.int k) H Q := by
  obtain ⟨zs, a, b⟩ := h
  have zl := dpA_len b
  rw [List.length_map] at zl
  refine ⟨L, k, zs, rfl, rfl, a, by omega, by omega, ?_, fun p hp => ?_⟩
  · have : zs.length * k.toNat ≤ 100 * 100 := Nat.mul_le_mul (by omega) (by omega)
    exact Nat.le_trans this (by decide)
  · have h := dpA_flat b k.toNat
    rw [flat_map] at h
    obtain ⟨s, l⟩ := ld_new hp h
    exact q _ _ hp s l
theorem ld_cat {A B : Addr} {Q : VK} (ha : LD K H A sss) (hb : LD K H B ttt) (hl : sss.length + ttt.length ≤ 1000) (q : ∀ (C : Addr) (H' : Hp), H C = none → Same H H' → LD K H' C (sss ++ ttt) → Q (.ref C) H') : rCat (.ref A) (.ref B) H Q := by
  obtain ⟨zs, a, b⟩ := ha
  obtain ⟨ys, c, e⟩ := hb
  have zl := dpA_len b
  have yl := dpA_len e
  rw [List.length_map] at zl yl
  refine ⟨A, B, zs, ys, rfl, rfl, a, c, line5 (by omega), fun p hp => ?_⟩
  have h := dpA_app b e
  rw [← List.map_append] at h
  obtain ⟨s, l⟩ := ld_new hp h
  exact q _ _ hp s l
theorem LD.rows (h : LD K H L sss) (hl : sss.length ≤ 100) (he : ∀ s ∈ sss, s.length ≤ 6) : RowsAt K H L sss := by
  obtain ⟨zs, a, b⟩ := h
  exact ⟨⟨zs, SqL.of a, b⟩, hl, he⟩
end
theorem pvW_wt {W : Wt} (h : WtOk W) : pvW (dWt W) = true := by
  have hr : ∀ r ∈ W.rows, pvW (dWr r) = true := fun r hr => by
    have hl := (h.row r hr).1
    show (decide ((r.1.map dPr ++ [dFb r.2]).length ≤ 1000) && pvWs (r.1.map dPr ++ [dFb r.2])) = true
    rw [decide_eq_true (by rw [List.length_append, List.length_map]; show _ + 1 ≤ 1000; omega), Bool.true_and]
    refine pvWs_all fun x hx => ?_
    rcases List.mem_append.mp hx with hx | hx
    · obtain ⟨p, _, rfl⟩ := List.mem_map.mp hx
      rfl
    · rw [List.mem_singleton.mp hx]
      rfl
  have h1 : pvW (.tuple (W.rows.map dWr)) = true := by
    show (decide ((W.rows.map dWr).length ≤ 1000) && pvWs (W.rows.map dWr)) = true
    have := h.few
    rw [decide_eq_true (by rw [List.length_map]; omega), Bool.true_and]
    refine pvWs_all fun x hx => ?_
    obtain ⟨r, hr', rfl⟩ := List.mem_map.mp hx
    exact hr r hr'
  have h2 : pvW (dNs W.bad) = true := by
    show (decide ((W.bad.map fun k : Nat => PyData.int (k : Int)).length ≤ 1000) && pvWs (W.bad.map fun k : Nat => PyData.int (k : Int))) = true
    have := h.fewB
    rw [decide_eq_true (by rw [List.length_map]; omega), Bool.true_and]
    refine pvWs_all fun x hx => ?_
    obtain ⟨r, _, rfl⟩ := List.mem_map.mp hx
    rfl
  show (decide (3 ≤ 1000) && (true && (pvW (.tuple (W.rows.map dWr)) && (pvW (dNs W.bad) && true)))) = true
  rw [h1, h2]
  rfl
theorem dep_wt (W : Wt) : dep (dWt W) < 5 := by
  have hp : ∀ p : Str × Nat, dep (dPr p) ≤ 1 := fun p => by show max 0 (max 0 0) + 1 ≤ 1; decide
  have hf : ∀ t : Nat, dep (dFb t) ≤ 1 := fun t => by show max 0 (max 0 0) + 1 ≤ 1; decide
  have hr : ∀ r : List (Str × Nat) × Nat, dep (dWr r) ≤ 2 := fun r => by
    show deps (r.1.map dPr ++ [dFb r.2]) + 1 ≤ 2
    have : deps (r.1.map dPr ++ [dFb r.2]) ≤ 1 := deps_le fun d hd => by
      rcases List.mem_append.mp hd with h | h
      · obtain ⟨p, _, rfl⟩ := List.mem_map.mp h
        exact hp p
      · rw [List.mem_singleton.mp h]
        exact hf _
    omega
  have h1 : deps (W.rows.map dWr) ≤ 2 := deps_le fun d hd => by
    obtain ⟨r, _, rfl⟩ := List.mem_map.mp hd
    exact hr r
  have h2 : deps (W.bad.map fun k : Nat => PyData.int (k : Int)) ≤ 0 := deps_le fun d hd => by
    obtain ⟨r, _, rfl⟩ := List.mem_map.mp hd
    exact Nat.le_refl _
  show max 0 (max (deps (W.rows.map dWr) + 1) (max (deps (W.bad.map fun k : Nat => PyData.int (k : Int)) + 1) 0)) + 1 < 5
  omega
def spOnes (K : PySem.W.Frag) : Sp := fun vs H Q _ => ∃ (S D m : Addr) (a b : Str) (ms : List Str), vs = [.ref D, .str a, .str b, .ref m] ∧ DrawAt S D H ∧ m ≠ D ∧ H m = some (.lst (ms.map V.str)) ∧ 0 < ms.length ∧ ms.length ≤ 100 ∧ ∀ H', Q (.bl true) H'
section
variable {P : Program} {w : World} {K : PySem.W.Frag} {mg : Str → Option Value} {base : Heap}
set_option maxHeartbeats 0 in
theorem ok__law_made_ones (T : Txt K mg) (D_never : Kept P w K mg base 1 "never" ["mark"] (spNev K)) (D_within : Kept P w K mg base 1 "within" ["cause", "effect", "n"] (spWin K)) (D_order : Kept P w K mg base 1 "order" ["first", "second"] (spOrd K)) (D__law_draw : Kept P w K mg base 1 "_law_draw" ["d", "many"] spDraw) (D__law_pick : Kept P w K mg base 2 "_law_pick" ["d", "row"] (spPick K)) (D__law_same : Kept P w K mg base 7 "_law_same" ["told", "due"] (spSm K 5)) (D__law_wide_shown : Kept P w K mg base 3 "_law_wide_shown" ["d", "marks"] (spShown K)) (D__law_met : Kept P w K mg base 1 "_law_met" ["mark", "rows"] (spMetL K)) (D__law_late : Kept P w K mg base 1 "_law_late" ["cause", "effect", "n", "rows"] (spLateL K)) (D__law_ahead : Kept P w K mg base 1 "_law_ahead" ["one", "other", "rows"] (spAhL K)) (D__law_breaks_where : Kept P w K mg base 3 "_law_breaks_where" ["watch", "rows", "due"] (spBrW K)) {f : Addr} {fd : FuncData} (F : FnP K "_law_made_ones" s__law_made_ones f fd) : FnOk P w K mg base CX0 8 f fd ["d", "one", "other", "marks"] (spOnes K) := by
  refine F.ok sc__law_made_ones (fun vs H Q E h => ?_) (fun cdv A outer s H vs Q E hr h => ?_)
  · obtain ⟨S, D, m, a, b, ms, rfl, _⟩ := h
    rfl
  · obtain ⟨S, D, m, a, b, ms, rfl, d, mD, hm, m0, m1, q⟩ := h
    refine ⟨_, PSs.nox (pss_cons (ps_set (i := 4) sc__law_made_ones.nd rfl (Or.inl rfl) (pe_op op_add pe_int (pe_d D__law_draw (hr.mono (by decide)) (by rfl) (pa_cons (pv 0) (pa_cons pe_int pa_nil)))))
      (pss_cons (ps_setLc (i := 5) (own := [("k", 6)]) (g := (gName 6)) (tt := tYes) rfl sc__law_made_ones.nd rfl rfl (sw_true rfl rfl rfl (by decide +kernel)) (pi_range1 (by rfl) T.b_range (pa_cons pe_int pa_nil)) (blkOk_by (N := N__law_made_ones) (sc := defScope s__law_made_ones) (by decide +kernel)) (fun _ _ _ _ _ => (pg_name (i := 6) sc__law_made_ones.nd rfl (Or.inl rfl))) (fun _ _ _ _ _ => pts_nil) (fun _ _ _ _ _ => (pe_d D__law_wide_shown (hr.mono (by decide)) (by rfl) (pa_cons (pv 0) (pa_cons (pv 3) pa_nil)))))
      (Evl.pss_cut (ps_if (pt_cmpR op_eq (pe_d D__law_draw (hr.mono (by decide)) (by rfl) (pa_cons (pv 0) (pa_cons pe_int pa_nil))) pe_int (nomark _)) (pss_one (ps_set (i := 5) sc__law_made_ones.nd rfl (Or.inl rfl) (pe_op op_cat (pe_op op_cat (pe_op op_cat (pe_op op_rep (pe_lst (pa_cons (pe_tup pa_nil) pa_nil)) (pe_d D__law_draw (hr.mono (by decide)) (by rfl) (pa_cons (pv 0) (pa_cons pe_int pa_nil)))) (pe_lst (pa_cons (pe_tup (pa_cons (pv 1) pa_nil)) pa_nil))) (pe_op op_rep (pe_lst (pa_cons (pe_tup pa_nil) pa_nil)) (pe_d D__law_pick (hr.mono (by decide)) (by rfl) (pa_cons (pv 0) (pa_cons (pe_lst (pa_cons (pe_op op_sub (pv 4) pe_int) (pa_cons (pv 4) (pa_cons (pe_op op_add (pv 4) pe_int) pa_nil)))) pa_nil))))) (pe_lst (pa_cons (pe_tup (pa_cons (pv 2) pa_nil)) (pa_cons (pe_tup (pa_cons (pv 1) (pa_cons (pv 2) pa_nil))) pa_nil)))))) pss_nil)
      (pss_cons (ps_set (i := 7) sc__law_made_ones.nd rfl (Or.inl rfl) (pe_tup (pa_cons pe_str (pa_cons (pe_tup (pa_cons (pe_tup (pa_cons (pe_tup (pa_cons (pv 1) (pa_cons pe_int pa_nil))) (pa_cons (pe_tup (pa_cons pe_non (pa_cons pe_int pa_nil))) pa_nil))) (pa_cons (pe_tup (pa_cons (pe_tup (pa_cons pe_non (pa_cons pe_int pa_nil))) pa_nil)) pa_nil))) (pa_cons (pe_tup (pa_cons pe_int pa_nil)) pa_nil)))))
      (pss_cons (ps_set (i := 8) sc__law_made_ones.nd rfl (Or.inl rfl) (pe_d D_never (hr.mono (by decide)) (by rfl) (pa_cons (pv 1) pa_nil)))
      (pss_cons (ps_if (pt_not (pt_val (pe_d D__law_same (hr.mono (by decide)) (by rfl) (pa_cons (pv 8) (pa_cons (pv 7) pa_nil))))) (pss_one (ps_ret pe_bl)) pss_nil)
      (pss_cons (ps_if (pt_not (pt_val (pe_d D__law_breaks_where (hr.mono (by decide)) (by rfl) (pa_cons (pv 8) (pa_cons (pv 5) (pa_cons (pe_d D__law_met (hr.mono (by decide)) (by rfl) (pa_cons (pv 1) (pa_cons (pv 5) pa_nil))) pa_nil)))))) (pss_one (ps_ret pe_bl)) pss_nil)
      (pss_cons (ps_set (i := 9) sc__law_made_ones.nd rfl (Or.inl rfl) (pe_callTy call_tuple_of (by rfl) T.b_tuple (by decide +kernel) (pa_cons (pe_lc (own := [("k", 6)]) (g := (gName 6)) (tt := tYes) rfl sc__law_made_ones.nd (pi_range1 (by rfl) T.b_range (pa_cons (pv 4) pa_nil)) (blkOk_by (N := N__law_made_ones) (sc := defScope s__law_made_ones) (by decide +kernel)) (fun _ _ _ _ _ => (pg_name (i := 6) sc__law_made_ones.nd rfl (Or.inl rfl))) (fun _ _ _ _ _ => pts_nil) (fun _ _ _ _ _ => (pe_tup (pa_cons (pe_tup (pa_cons (pv 2) (pa_cons pe_int pa_nil))) (pa_cons (pe_tup (pa_cons pe_non (pa_cons (pe_op op_add (pv 6) pe_int) pa_nil))) pa_nil))))) pa_nil)))
      (pss_cons (ps_set (i := 7) sc__law_made_ones.nd rfl (Or.inl rfl) (pe_tup (pa_cons pe_str (pa_cons (pe_op op_catA (pe_op op_catA (pe_tup (pa_cons (pe_tup (pa_cons (pe_tup (pa_cons (pv 1) (pa_cons pe_int pa_nil))) (pa_cons (pe_tup (pa_cons pe_non (pa_cons pe_int pa_nil))) pa_nil))) pa_nil)) (pv 9)) (pe_tup (pa_cons (pe_tup (pa_cons (pe_tup (pa_cons pe_non (pa_cons (pe_op op_add (pv 4) pe_int) pa_nil))) pa_nil)) pa_nil))) (pa_cons (pe_tup (pa_cons (pe_op op_add (pv 4) pe_int) pa_nil)) pa_nil)))))
      (pss_cons (ps_set (i := 8) sc__law_made_ones.nd rfl (Or.inl rfl) (pe_d D_within (hr.mono (by decide)) (by rfl) (pa_cons (pv 1) (pa_cons (pv 2) (pa_cons (pv 4) pa_nil)))))
      (pss_cons (ps_if (PW.pt (pw_or (pt_not (pt_val (pe_d D__law_same (hr.mono (by decide)) (by rfl) (pa_cons (pv 8) (pa_cons (pv 7) pa_nil))))) (pw_or1 (pt_not (pt_val (pe_d D__law_breaks_where (hr.mono (by decide)) (by rfl) (pa_cons (pv 8) (pa_cons (pv 5) (pa_cons (pe_d D__law_late (hr.mono (by decide)) (by rfl) (pa_cons (pv 1) (pa_cons (pv 2) (pa_cons (pv 4) (pa_cons (pv 5) pa_nil))))) pa_nil))))))))) (pss_one (ps_ret pe_bl)) pss_nil)
      (pss_cons (ps_set (i := 7) sc__law_made_ones.nd rfl (Or.inl rfl) (pe_tup (pa_cons pe_str (pa_cons (pe_tup (pa_cons (pe_tup (pa_cons (pe_tup (pa_cons (pv 1) (pa_cons pe_int pa_nil))) (pa_cons (pe_tup (pa_cons (pv 2) (pa_cons pe_int pa_nil))) (pa_cons (pe_tup (pa_cons pe_non (pa_cons pe_int pa_nil))) pa_nil)))) (pa_cons (pe_tup (pa_cons (pe_tup (pa_cons pe_non (pa_cons pe_int pa_nil))) pa_nil)) (pa_cons (pe_tup (pa_cons (pe_tup (pa_cons pe_non (pa_cons pe_int pa_nil))) pa_nil)) pa_nil)))) (pa_cons (pe_tup (pa_cons pe_int pa_nil)) pa_nil)))))
      (pss_cons (ps_set (i := 8) sc__law_made_ones.nd rfl (Or.inl rfl) (pe_d D_order (hr.mono (by decide)) (by rfl) (pa_cons (pv 1) (pa_cons (pv 2) pa_nil))))
      (pss_one (ps_ret (pe_and (pe_d D__law_same (hr.mono (by decide)) (by rfl) (pa_cons (pv 8) (pa_cons (pv 7) pa_nil))) (pe_one (pe_d D__law_breaks_where (hr.mono (by decide)) (by rfl) (pa_cons (pv 8) (pa_cons (pv 5) (pa_cons (pe_d D__law_ahead (hr.mono (by decide)) (by rfl) (pa_cons (pv 1) (pa_cons (pv 2) (pa_cons (pv 5) pa_nil)))) pa_nil))))))))))))))))))))), ?_⟩
    refine ⟨_, rfl, S, D, 9, rfl, divW_of (by decide) (by decide), d, fun H1 v v0 v1 g1 => ⟨_, _, rfl, rfl, ?_⟩⟩
    obtain ⟨n, en⟩ : ∃ n : Nat, 1 + v = (n : Int) := ⟨(1 + v).toNat, by omega⟩
    have n1 : 1 ≤ n := by omega
    have n9 : n ≤ 9 := by omega
    have hm1 := g1.2 _ _ hm mD
    refine ⟨_, rfl, by decide, by decide, fun L hL => lc_range (lo := 0) (n := 14) (fun j H' => ∃ sss : List (List Str), Go S D H1 H' ∧ LD K H' L sss ∧ sss.length = j ∧ ∀ s ∈ sss, s.length ≤ 6) ⟨[], Go.new g1.1 hL, ⟨[], upd_same, .nil⟩, rfl, fun _ h => absurd h List.not_mem_nil⟩ ?_ ?_⟩
    · rintro j H2 hj ⟨sss, g2, ⟨zs, hL2, hzs⟩, sl, se⟩
      have LD' := (g1.1.free hL).1
      have zl := dpA_len hzs
      rw [List.length_map] at zl
      refine ⟨rfl, _, rfl, _, rfl, S, D, m, ms, rfl, g2.1, mD, g2.2 _ _ hm1 mD, m0, m1, fun H3 p ss g3 pN hp hss ssl => ?_⟩
      have kT := Go.keepT g2.1 g3
      refine ⟨zs, g3.2 _ _ hL2 LD', line6 (by omega), sss ++ [ss], goU hL g1.1 (g2.trans g3), ?_, by rw [List.length_append, sl]; rfl, fun s hs => ?_⟩
      · have kL := keepT_nt (o := .lst (zs ++ [.ref p])) (nt_lst _) (g3.2 _ _ hL2 LD')
        refine ⟨zs ++ [.ref p], upd_same, ?_⟩
        rw [List.map_append]
        exact dpA_snoc (dpA_keep (kT.trans kL) _ _ (noLs_map _ _ fun s _ => dSh_noL s) hzs) (dp_keep kL _ _ (dSh_noL _) (sh_of (SqT.of hp)))
      · rcases List.mem_append.mp hs with h | h
        · exact se s h
        · rw [List.mem_singleton.mp h]
          exact ssl
    · rintro H2 ⟨sss, g2, hLD, sl, se⟩
      have LD' := (g1.1.free hL).1
      have g2 := g1.trans g2
      refine ⟨fun σ' H' => ∃ (Lr : Addr) (sss : List (List Str)), σ' = [some (.ref D), some (.str a), some (.str b), some (.ref m), some (.int (n : Int)), some (.ref Lr), none, none, none, none] ∧ Go S D H H' ∧ RowsAt K H' Lr sss, ?_, ?_⟩
      · refine ⟨_, rfl, S, D, 3, rfl, divW_of (by decide) (by decide), g2.1, fun H3 x x0 x1 g3 => ⟨rfl, _, rfl, ite2 (fun _ => ?_) (fun _ => ⟨L, sss, (by rw [← en] <;> rfl), g2.trans g3, (hLD.go g2.1 LD' g3).rows (by omega) se⟩)⟩⟩
        refine ⟨Nat.zero_le _, fun p1 h1 => ⟨z1, fun L1 h2 => ?_⟩⟩
        have g3 := g2.trans g3
        obtain ⟨s1, d1⟩ := new_tup (K := K) (ds := []) h1 .nil
        obtain ⟨s2, l2⟩ := ld_new (K := K) (sss := [[]]) h2 (.cons d1 .nil)
        have s12 := s1.trans s2
        have L1D := (g3.1.free (s1.free h2)).1
        generalize upd (upd H3 p1 (.tup [])) L1 (.lst [V.ref p1]) = H4 at s12 l2
        have g4 := g3.trans (Go.same g3.1 s12)
        refine ⟨_, rfl, S, D, 3, rfl, divW_of (by decide) (by decide), g4.1, fun H5 y y0 y1 g5 => ?_⟩
        have l2 := l2.go g4.1 L1D g5
        have g5 := g4.trans g5
        refine ld_rep l2 y0 (by omega) (by show 1 ≤ 100; decide) fun C1 H6 c1 s6 l6 => ?_
        have C1D := (g5.1.free c1).1
        have g6 := g5.trans (Go.same g5.1 s6)
        refine ⟨_, rfl, z1, fun p2 h3 => ⟨z1, fun L2 h4 => ?_⟩⟩
        obtain ⟨s7, d7⟩ := new_tup (K := K) (ds := [.str a]) h3 (.cons (.str _) .nil)
        obtain ⟨s8, l8⟩ := ld_new (K := K) (sss := [[a]]) h4 (.cons d7 .nil)
        have s78 := s7.trans s8
        generalize upd (upd H6 p2 (.tup [V.str a])) L2 (.lst [V.ref p2]) = H7 at s78 l8
        have g7 := g6.trans (Go.same g6.1 s78)
        have r1 : ((List.replicate y.toNat [([] : List Str)]).flatten).length ≤ 3 := by
          simp
          omega
        have e1 : ∀ s ∈ (List.replicate y.toNat [([] : List Str)]).flatten, s.length ≤ 6 := by
          intro s hs
          simp at hs
          rw [hs.2]
          exact Nat.zero_le _
        generalize (List.replicate y.toNat [([] : List Str)]).flatten = w1 at l6 r1 e1
        refine ld_cat (l6.same s78) l8 (by show _ + 1 ≤ 1000; omega) fun C2 H8 c2 s8' l9 => ?_
        have C2D := (g7.1.free c2).1
        have g8 := g7.trans (Go.same g7.1 s8')
        refine ⟨Nat.zero_le _, fun p3 h5 => ⟨z1, fun L3 h6 => ?_⟩⟩
        obtain ⟨s9, d9⟩ := new_tup (K := K) (ds := []) h5 .nil
        obtain ⟨s10, l10⟩ := ld_new (K := K) (sss := [[]]) h6 (.cons d9 .nil)
        have L3D := (g8.1.free (s9.free h6)).1
        have s910 := s9.trans s10
        generalize upd (upd H8 p3 (.tup [])) L3 (.lst [V.ref p3]) = H9 at s910 l10
        have g9 := g8.trans (Go.same g8.1 s910)
        refine ⟨_, rfl, _, rfl, _, _, rfl, rfl, _, rfl, _, rfl, _, _, rfl, rfl, z3, fun L4 h7 => ?_⟩
        have L4D := (g9.1.free h7).1
        have gA : Go S D H9 (upd H9 L4 (.lst [V.int (1 + v - 1), .int (1 + v), .int (1 + v + 1)])) := Go.new g9.1 h7
        refine ⟨S, D, .ref L4, [V.int (1 + v - 1), .int (1 + v), .int (1 + v + 1)], rfl, gA.1, fun H' g => .inr (.inl ⟨L4, rfl, SqL.of (g.2 _ _ upd_same L4D)⟩), by show 0 < 3; decide, by show 3 ≤ 100000; decide, fun HB u hu gB => ?_⟩
        obtain ⟨k, rfl, k0, k1⟩ : ∃ k : Int, u = .int k ∧ 0 ≤ k ∧ k ≤ 10 := by
          simp only [List.mem_cons, List.not_mem_nil, or_false] at hu
          rcases hu with e | e | e
          · exact ⟨_, e, by omega, by omega⟩
          · exact ⟨_, e, by omega, by omega⟩
          · exact ⟨_, e, by omega, by omega⟩
        have gAB : Go S D H9 HB := gA.trans gB
        have l9 := (l9.same s910).go g9.1 C2D gAB
        have l10 := l10.go g9.1 L3D gAB
        have gB := g9.trans gAB
        refine ld_rep l10 k0 (by omega) (by show 1 ≤ 100; decide) fun C3 HC c3 sC lC => ?_
        have gC := gB.trans (Go.same gB.1 sC)
        have r2 : ((List.replicate k.toNat [([] : List Str)]).flatten).length ≤ 10 := by
          simp
          omega
        have e2 : ∀ s ∈ (List.replicate k.toNat [([] : List Str)]).flatten, s.length ≤ 6 := by
          intro s hs
          simp at hs
          rw [hs.2]
          exact Nat.zero_le _
        generalize (List.replicate k.toNat [([] : List Str)]).flatten = w2 at lC r2 e2
        refine ld_cat (l9.same sC) lC (by rw [List.length_append]; show _ + 1 + _ ≤ 1000; omega) fun C4 HD c4 sD lD => ?_
        have gD := gC.trans (Go.same gC.1 sD)
        refine ⟨_, rfl, z1, fun p4 h8 => ⟨_, rfl, _, rfl, z2, fun p5 h9 => ⟨z2, fun L5 hA => ?_⟩⟩⟩
        obtain ⟨sE, dE⟩ := new_tup (K := K) (ds := [.str b]) h8 (.cons (.str _) .nil)
        obtain ⟨sF, dF⟩ := new_tup (K := K) (ds := [.str a, .str b]) h9 (.cons (.str _) (.cons (.str _) .nil))
        obtain ⟨sG, lG⟩ := ld_new (K := K) (sss := [[b], [a, b]]) hA (.cons (dp_same sF _ _ dE) (.cons dF .nil))
        have sEG := sE.trans (sF.trans sG)
        generalize upd (upd (upd HD p4 (.tup [V.str b])) p5 (.tup [V.str a, V.str b])) L5 (.lst [V.ref p4, V.ref p5]) = HG at sEG lG
        have gG := gD.trans (Go.same gD.1 sEG)
        refine ld_cat (lD.same sEG) lG (by rw [List.length_append, List.length_append]; show _ + 1 + _ + 2 ≤ 1000; omega) fun C5 HH c5 sH lH => ?_
        refine ⟨C5, _, (by rw [← en] <;> rfl), gG.trans (Go.same gG.1 sH), lH.rows (by rw [List.length_append, List.length_append, List.length_append]; show _ + 1 + _ + 2 ≤ 100; omega) fun s hs => ?_⟩
        rcases List.mem_append.mp hs with hs | hs
        · rcases List.mem_append.mp hs with hs | hs
          · rcases List.mem_append.mp hs with hs | hs
            · exact e1 s hs
            · rw [List.mem_singleton.mp hs]
              show 1 ≤ 6
              decide
          · exact e2 s hs
        · simp only [List.mem_cons, List.not_mem_nil, or_false] at hs
          rcases hs with e | e
          · rw [e]
            show 1 ≤ 6
            decide
          · rw [e]
            show 2 ≤ 6
            decide
      · rintro σ' H3 ⟨Lr, rows, rfl, g3, hR⟩
        refine ⟨_, rfl, z2, fun p1 h1 => ⟨z2, fun p2 h2 => ⟨z2, fun p3 h3 => ⟨z2, fun p4 h4 => ⟨z1, fun p5 h5 => ⟨z2, fun p6 h6 => ⟨z1, fun p7 h7 => ⟨z3, fun p8 h8 => ?_⟩⟩⟩⟩⟩⟩⟩⟩
        obtain ⟨s1, d1⟩ := new_tup (K := K) (ds := [.str a, .int 1]) h1 (.cons (.str _) (.cons (.int _) .nil))
        obtain ⟨s2, d2⟩ := new_tup (K := K) (ds := [.none, .int 0]) h2 (.cons .non (.cons (.int _) .nil))
        obtain ⟨s3, d3⟩ := new_tup (K := K) h3 (.cons (dp_same s2 _ _ d1) (.cons d2 .nil))
        obtain ⟨s4, d4⟩ := new_tup (K := K) (ds := [.none, .int 1]) h4 (.cons .non (.cons (.int _) .nil))
        obtain ⟨s5, d5⟩ := new_tup (K := K) h5 (.cons d4 .nil)
        obtain ⟨s6, d6⟩ := new_tup (K := K) h6 (.cons (dp_same (s4.trans s5) _ _ d3) (.cons d5 .nil))
        obtain ⟨s7, d7⟩ := new_tup (K := K) (ds := [.int 1]) h7 (.cons (.int _) .nil)
        obtain ⟨s8, d8⟩ := new_tup (K := K) h8 (.cons (.str "watch") (.cons (dp_same s7 _ _ d6) (.cons d7 .nil)))
        have s18 := s1.trans (s2.trans (s3.trans (s4.trans (s5.trans (s6.trans (s7.trans s8))))))
        generalize upd (upd (upd (upd (upd (upd (upd (upd H3 p1 _) p2 _) p3 _) p4 _) p5 _) p6 _) p7 _) p8 _ = H4 at s18 d8
        refine ⟨_, rfl, a, rfl, fun H5 vw t5 dw => ?_⟩
        refine ⟨_, rfl, _, rfl, vw, .ref p8, dWt (W0 a), rfl, dw, dp_same t5 _ _ d8, pvW_wt (W0_ok a), dep_wt _, fun H6 t6 => ⟨_, rfl, ite2 (fun h => (nomatch (show false = true from h))) (fun _ => ?_)⟩⟩
        have dw := dp_same t6 _ _ dw
        have s6' := s18.trans (t5.trans t6)
        refine ⟨_, rfl, _, rfl, _, rfl, _, rfl, a, Lr, rows, rfl, hR.same s6', fun H7 Ld t7 hLd => ?_⟩
        refine ⟨vw, Lr, Ld, W0 a, rows, rfl, dp_same t7 _ _ dw, W0_ok a, by show 0 ∉ [1]; decide, hR.same (s6'.trans t7), SqL.of hLd, fun H8 t8 => ⟨_, rfl, ite2 (fun h => (nomatch (show false = true from h))) (fun _ => ?_)⟩⟩
        have s8' := s6'.trans (t7.trans t8)
        clear s1 s2 s3 s4 s5 s6 s7 s8 d1 d2 d3 d4 d5 d6 d7 d8 h1 h2 h3 h4 h5 h6 h7 h8 dw hLd s18
        have hR8 := hR.same s8'
        refine ⟨_, rfl, _, rfl, by omega, by omega, fun L hL => lc_range (lo := 0) (n := n) (fun j H' => Same H8 H' ∧ ∃ zs, H' L = some (.lst zs) ∧ DpAll K H' zs (((List.range j).map fun k => ([(b, 0)], k + 2)).map dWr)) ⟨same_new hL, [], upd_same, .nil⟩ ?_ ?_⟩
        · rintro j H3 hj ⟨s3, zs, hL3, hzs⟩
          have zl := dpA_len hzs
          rw [List.length_map, List.length_map, List.length_range] at zl
          refine ⟨rfl, _, rfl, z2, fun p1 h1 => ⟨_, rfl, _, _, rfl, rfl, z2, fun p2 h2 => ⟨z2, fun p3 h3 => ?_⟩⟩⟩
          obtain ⟨t1, d1⟩ := new_tup (K := K) (ds := [.str b, .int 0]) h1 (.cons (.str _) (.cons (.int _) .nil))
          obtain ⟨t2, d2⟩ := new_tup (K := K) (ds := [.none, .int (0 + (j : Int) + 2)]) h2 (.cons .non (.cons (.int _) .nil))
          obtain ⟨t3, d3⟩ := new_tup (K := K) h3 (.cons (dp_same t2 _ _ d1) (.cons d2 .nil))
          have t13 := t1.trans (t2.trans t3)
          have ed : PyData.tuple [.tuple [.str b, .int 0], .tuple [.none, .int (0 + (j : Int) + 2)]] = dWr ([(b, 0)], j + 2) := by
            show _ = PyData.tuple [.tuple [.str b, .int ((0 : Nat) : Int)], .tuple [.none, .int ((j + 2 : Nat) : Int)]]
            rw [show ((j + 2 : Nat) : Int) = 0 + (j : Int) + 2 by omega]
            rfl
          rw [ed] at d3
          have hL6 := t13 _ _ hL3
          have hzs6 := dpA_same t13 _ _ hzs
          generalize upd (upd (upd H3 p1 _) p2 _) p3 _ = H6 at t13 d3 hL6 hzs6
          have kL := keepT_nt (o := .lst (zs ++ [.ref p3])) (nt_lst _) hL6
          refine ⟨zs, hL6, line6 (by omega), same_mut (s3.trans t13) hL, zs ++ [.ref p3], upd_same, ?_⟩
          rw [List.range_succ, List.map_append, List.map_append]
          exact dpA_snoc (dpA_keep kL _ _ (noLs_wr _) hzs6) (dp_keep kL _ _ (dWr_noL _) d3)
        · rintro H9 ⟨s9, zs, hL9, hzs⟩
          have zl := dpA_len hzs
          rw [List.length_map, List.length_map, List.length_range] at zl
          refine ⟨L, zs, rfl, .inl ⟨SqL.of hL9, fun ps hps => ?_⟩⟩
          obtain ⟨t0, dS⟩ := new_tup (K := K) hps hzs
          have sA := s9.trans t0
          generalize upd H9 ps (.tup zs) = HA at t0 dS sA
          refine ⟨_, rfl, z2, fun p1 h1 => ⟨z2, fun p2 h2 => ⟨z2, fun p3 h3 => ⟨z1, fun p4 h4 => ⟨_, rfl, ?_⟩⟩⟩⟩⟩
          obtain ⟨t1, d1⟩ := new_tup (K := K) (ds := [.str a, .int 1]) h1 (.cons (.str _) (.cons (.int _) .nil))
          obtain ⟨t2, d2⟩ := new_tup (K := K) (ds := [.none, .int 0]) h2 (.cons .non (.cons (.int _) .nil))
          obtain ⟨t3, d3⟩ := new_tup (K := K) h3 (.cons (dp_same t2 _ _ d1) (.cons d2 .nil))
          obtain ⟨t4, d4⟩ := new_tup (K := K) h4 (.cons d3 .nil)
          have t14 := t1.trans (t2.trans (t3.trans t4))
          have dS4 := dp_same t14 _ _ dS
          refine catA_mono (cat_W d4 dS4 (by rw [List.length_map, List.length_map, List.length_range]; show 1 + _ ≤ _; omega)) fun v5 H5 hh => ?_
          obtain ⟨t5, d5⟩ := hh
          refine ⟨_, rfl, _, _, rfl, rfl, z2, fun p6 h6 => ⟨z1, fun p7 h7 => ⟨z1, fun p8 h8 => ?_⟩⟩⟩
          obtain ⟨t6, d6⟩ := new_tup (K := K) (ds := [.none, .int ((n : Int) + 1)]) h6 (.cons .non (.cons (.int _) .nil))
          obtain ⟨t7, d7⟩ := new_tup (K := K) h7 (.cons d6 .nil)
          obtain ⟨t8, d8⟩ := new_tup (K := K) h8 (.cons d7 .nil)
          have t68 := t6.trans (t7.trans t8)
          refine catA_mono (cat_W (dp_same t68 _ _ d5) d8 (by rw [List.length_append, List.length_map, List.length_map, List.length_range]; show 1 + _ + 1 ≤ _; omega)) fun v9 H9 hh => ?_
          obtain ⟨t9, d9⟩ := hh
          refine ⟨_, rfl, _, _, rfl, rfl, z1, fun pA hA => ⟨z3, fun pB hB => ?_⟩⟩
          obtain ⟨tA, dA⟩ := new_tup (K := K) (ds := [.int ((n : Int) + 1)]) hA (.cons (.int _) .nil)
          obtain ⟨tB, dB⟩ := new_tup (K := K) hB (.cons (.str "watch") (.cons (dp_same tA _ _ d9) (.cons dA .nil)))
          have all := sA.trans (t14.trans (t5.trans (t68.trans (t9.trans (tA.trans tB)))))
          have er : (W1 a b n).rows.map dWr = [dWr ([(a, 1)], 0)] ++ ((List.range n).map fun k => ([(b, 0)], k + 2)).map dWr ++ [dWr ([], n + 1)] := by
            unfold W1
            rw [List.map_append, List.map_append]
            rfl
          have fold : ∀ (Hx : Hp) (v : V), Dp K Hx v (.tuple [.str "watch", .tuple ([dWr ([(a, 1)], 0)] ++ ((List.range n).map fun k => ([(b, 0)], k + 2)).map dWr ++ [dWr ([], n + 1)]), dNs (W1 a b n).bad]) → Dp K Hx v (dWt (W1 a b n)) := fun Hx v h => by
            show Dp K _ _ (.tuple [.str "watch", .tuple ((W1 a b n).rows.map dWr), dNs (W1 a b n).bad])
            rw [er]
            exact h
          have dB' := fold _ _ dB
          clear dB d9 dA tA tB
          generalize upd (upd H9 pA _) pB _ = HB at all dB'
          refine ⟨_, rfl, _, rfl, _, rfl, a, b, n, rfl, n1, by omega, fun HC vw u1 dw => ?_⟩
          have W1o : WtOk (W1 a b n) := W1_ok a b (by omega)
          refine ⟨_, rfl, _, rfl, vw, .ref pB, dWt (W1 a b n), rfl, dw, dp_same u1 _ _ dB', pvW_wt W1o, dep_wt _, fun HD u2 => ⟨_, rfl, ite2 (fun h => (nomatch (show false = true from h))) (fun _ => ?_)⟩⟩
          have dw := dp_same u2 _ _ dw
          have sD := all.trans (u1.trans u2)
          have hRD := hR8.same sD
          refine ⟨_, rfl, _, rfl, _, rfl, _, rfl, _, rfl, _, rfl, a, b, n, Lr, rows, rfl, n1, by omega, hRD, fun HE Ld u3 hLd => ?_⟩
          refine ⟨vw, Lr, Ld, W1 a b n, rows, rfl, dp_same u3 _ _ dw, W1o, by show 0 ∉ [n + 1]; simp, hRD.same u3, SqL.of hLd, fun HF u4 => ⟨_, rfl, ite2 (fun h => (nomatch (show false = true from h))) (fun _ => ?_)⟩⟩
          have hRF := hRD.same (u3.trans u4)
          generalize HF = H at hRF
          refine ⟨_, rfl, z2, fun p1 h1 => ⟨_, rfl, z2, fun p2 h2 => ⟨z2, fun p3 h3 => ⟨z3, fun p4 h4 => ⟨z2, fun p5 h5 => ⟨z1, fun p6 h6 => ⟨z2, fun p7 h7 => ⟨z1, fun p8 h8 => ⟨z3, fun p9 h9 => ⟨z1, fun pA hA => ⟨z3, fun pB hB => ?_⟩⟩⟩⟩⟩⟩⟩⟩⟩⟩⟩
          obtain ⟨s1, d1⟩ := new_tup (K := K) (ds := [.str a, .int 1]) h1 (.cons (.str _) (.cons (.int _) .nil))
          obtain ⟨s2, d2⟩ := new_tup (K := K) (ds := [.str b, .int 2]) h2 (.cons (.str _) (.cons (.int _) .nil))
          obtain ⟨s3, d3⟩ := new_tup (K := K) (ds := [.none, .int 0]) h3 (.cons .non (.cons (.int _) .nil))
          obtain ⟨s4, d4⟩ := new_tup (K := K) h4 (.cons (dp_same (s2.trans s3) _ _ d1) (.cons (dp_same s3 _ _ d2) (.cons d3 .nil)))
          obtain ⟨s5, d5⟩ := new_tup (K := K) (ds := [.none, .int 1]) h5 (.cons .non (.cons (.int _) .nil))
          obtain ⟨s6, d6⟩ := new_tup (K := K) h6 (.cons d5 .nil)
          obtain ⟨s7, d7⟩ := new_tup (K := K) (ds := [.none, .int 2]) h7 (.cons .non (.cons (.int _) .nil))
          obtain ⟨s8, d8⟩ := new_tup (K := K) h8 (.cons d7 .nil)
          have s58 := s5.trans (s6.trans (s7.trans s8))
          obtain ⟨s9, d9⟩ := new_tup (K := K) h9 (.cons (dp_same s58 _ _ d4) (.cons (dp_same (s7.trans s8) _ _ d6) (.cons d8 .nil)))
          obtain ⟨sA, dA⟩ := new_tup (K := K) (ds := [.int 2]) hA (.cons (.int _) .nil)
          obtain ⟨sB, dB⟩ := new_tup (K := K) hB (.cons (.str "watch") (.cons (dp_same sA _ _ d9) (.cons dA .nil)))
          have all := s1.trans (s2.trans (s3.trans (s4.trans (s58.trans (s9.trans (sA.trans sB))))))
          have dB' : Dp K _ (.ref pB) (dWt (W2 b a)) := dB
          clear dB d9 dA sA sB
          have hRG := hRF.same all
          generalize upd (upd (upd (upd (upd (upd (upd (upd (upd (upd (upd H p1 _) p2 _) p3 _) p4 _) p5 _) p6 _) p7 _) p8 _) p9 _) pA _) pB _ = HG at hRG dB'
          refine ⟨_, rfl, _, rfl, a, b, rfl, fun HH vx w1 dx => ?_⟩
          refine ⟨_, rfl, _, rfl, vx, .ref pB, dWt (W2 b a), rfl, dx, dp_same w1 _ _ dB', pvW_wt (W2_ok b a), dep_wt _, fun HI w2 => ?_⟩
          refine ⟨_, rfl, ite2 (fun _ => ?_) (fun h => absurd rfl h)⟩
          have hRI := hRG.same (w1.trans w2)
          refine ⟨_, rfl, _, rfl, _, rfl, _, rfl, _, rfl, a, b, Lr, rows, rfl, hRI, fun HJ Le w3 hLe => ?_⟩
          exact ⟨vx, Lr, Le, W2 b a, rows, rfl, dp_same (w2.trans w3) _ _ dx, W2_ok b a, by show 0 ∉ [2]; decide, hRI.same w3, SqL.of hLe, fun HK w4 => q _⟩
end
end Mt
namespace Mt
open PySem PySem.Spec PyProof.Rows L2
/-! ### a drawn watch is a good one -/
theorem good_wt {W : Wt} (ok : WtOk W) (gd : WtGood W) (h12 : W.rows.length ≤ 12) : GoodW "watch" (W.rows.map gRow) (W.bad.map fun k : Nat => (k : Int)) := by
  refine ⟨rfl, by rw [List.length_map]; exact ok.pos, by rw [List.length_map]; exact h12, fun r hr => ?_, fun x hx => ?_, fun i x y hx hy => ?_⟩
  · obtain ⟨r', hr', rfl⟩ := List.mem_map.mp hr
    obtain ⟨_, h2, h3⟩ := ok.row r' hr'
    have e : (r'.1.map (fun p : Str × Nat => ((some p.1, (p.2 : Int)) : OP))).map (·.1) = (r'.1.map (·.1)).map some := by
      rw [List.map_map, List.map_map]
      rfl
    refine ⟨r'.1.map (fun p => (some p.1, (p.2 : Int))), (r'.2 : Int), rfl, ?_, ?_, fun p hp => ?_⟩
    · rw [e]
      intro h
      obtain ⟨_, _, h⟩ := List.mem_map.mp h
      cases h
    · rw [e]
      exact nodup_some.mpr (gd.nd r' hr')
    · rw [List.length_map]
      rcases List.mem_append.mp hp with h | h
      · obtain ⟨q, hq, rfl⟩ := List.mem_map.mp h
        have := h3 q hq
        show (0 : Int) ≤ (q.2 : Int) ∧ (q.2 : Int) < _
        omega
      · rw [List.mem_singleton.mp h]
        show (0 : Int) ≤ (r'.2 : Int) ∧ (r'.2 : Int) < _
        omega
  · obtain ⟨k, hk, rfl⟩ := List.mem_map.mp hx
    have := gd.lt k hk
    rw [List.length_map]
    show (0 : Int) ≤ (k : Int) ∧ (k : Int) < _
    omega
  · rw [List.getElem?_map] at hx hy
    obtain ⟨a, ha, rfl⟩ := Option.map_eq_some_iff.mp hx
    obtain ⟨b, hb, rfl⟩ := Option.map_eq_some_iff.mp hy
    obtain ⟨l1, e1⟩ := List.getElem?_eq_some_iff.mp ha
    obtain ⟨l2, e2⟩ := List.getElem?_eq_some_iff.mp hb
    have := List.pairwise_iff_getElem.mp gd.asc i (i + 1) l1 l2 (Nat.lt_succ_self i)
    rw [e1, e2] at this
    show (a : Int) < (b : Int)
    omega
theorem few_wt {W : Wt} (ok : WtOk W) : FewW (W.rows.map gRow) (W.bad.map fun k : Nat => (k : Int)) := by
  refine ⟨by rw [List.length_map]; have := ok.few; omega, fun r hr => ?_, by rw [List.length_map]; have := ok.fewB; omega⟩
  obtain ⟨r', hr', rfl⟩ := List.mem_map.mp hr
  have := (ok.row r' hr').1
  rw [gRow_len]
  omega
/-! ### marks -/
abbrev XTRA : List Str := ["", "l.a", "A b"]
theorem pool_nd : (POOL ++ XTRA).Nodup := by decide +kernel
theorem pop_perm {ms nms : List Str} {j : Nat} {z : Str} (h : (ms ++ nms).Perm POOL) (hz : nms[j]? = some z) : ((ms ++ [z]) ++ nms.eraseIdx j).Perm POOL := by
  obtain ⟨hj, rfl⟩ := List.getElem?_eq_some_iff.mp hz
  rw [List.append_assoc, List.eraseIdx_eq_take_drop_succ]
  have e : nms = nms.take j ++ nms[j] :: nms.drop (j + 1) := by rw [← List.drop_eq_getElem_cons hj, List.take_append_drop]
  have p : (nms[j] :: (nms.take j ++ nms.drop (j + 1))).Perm nms := by
    conv => rhs; rw [e]
    exact List.perm_middle.symm
  exact (p.append_left ms).trans h
theorem marks_nd {ms nms : List Str} (h : (ms ++ nms).Perm POOL) : (ms ++ XTRA).Nodup := by
  have h1 : (ms ++ nms ++ XTRA).Nodup := (List.Perm.nodup_iff (h.append_right XTRA)).mpr pool_nd
  refine h1.sublist ?_
  rw [List.append_assoc]
  exact List.Sublist.append (List.Sublist.refl _) (List.sublist_append_right _ _)
def spMarksOf : Sp := fun vs H Q _ => ∃ (S D : Addr), vs = [.ref D] ∧ DrawAt S D H ∧ ∀ (H' : Hp) (p : Addr) (ms : List Str), Go S D H H' → H p = none → H' p = some (.lst (ms.map V.str)) → 2 ≤ ms.length → ms.length ≤ 7 → ms.Nodup → Q (.ref p) H'
section
variable {P : Program} {w : World} {K : PySem.W.Frag} {mg : Str → Option Value} {base : Heap}
theorem ok__law_marks_of (T : Txt K mg) (D__law_draw : Kept P w K mg base 1 "_law_draw" ["d", "many"] spDraw) (D__law_pop : Kept P w K mg base 2 "_law_pop" ["d", "row"] spPop) (D__law_pool : Kept P w K mg base 1 "_law_pool" [] spPool) {f : Addr} {fd : FuncData} (F : FnP K "_law_marks_of" s__law_marks_of f fd) : FnOk P w K mg base CX0 3 f fd ["d"] spMarksOf := by
  refine F.ok sc__law_marks_of (fun vs H Q E h => ?_) (fun cdv A outer s H vs Q E hr h => ?_)
  · obtain ⟨S, D, rfl, _⟩ := h
    rfl
  · obtain ⟨S, D, rfl, d, q⟩ := h
    refine ⟨_, PSs.nox (pss_cons (ps_set (i := 1) sc__law_marks_of.nd rfl (Or.inr rfl) (pe_d0 D__law_pool (hr.mono (by decide)) (by rfl)))
      (pss_cons (ps_setLc (i := 2) (own := [("k", 3)]) (g := (gName 3)) (tt := tYes) rfl sc__law_marks_of.nd rfl rfl (sw_true rfl rfl rfl (by decide +kernel)) (pi_range1 (by rfl) T.b_range (pa_cons (pe_op op_add pe_int (pe_d D__law_draw (hr.mono (by decide)) (by rfl) (pa_cons (pv 0) (pa_cons pe_int pa_nil)))) pa_nil)) (blkOk_by (N := N__law_marks_of) (sc := defScope s__law_marks_of) (by decide +kernel)) (fun _ _ _ _ _ => (pg_name (i := 3) sc__law_marks_of.nd rfl (Or.inl rfl))) (fun _ _ _ _ _ => pts_nil) (fun _ _ _ _ _ => (pe_d D__law_pop (hr.mono (by decide)) (by rfl) (pa_cons (pv 0) (pa_cons (pv 1) pa_nil)))))
      (Evl.pss_cut (ps_if (pt_cmpR op_eq (pe_d D__law_draw (hr.mono (by decide)) (by rfl) (pa_cons (pv 0) (pa_cons pe_int pa_nil))) pe_int (nomark _)) (pss_one (ps_set (i := 2) sc__law_marks_of.nd rfl (Or.inl rfl) (pe_op op_cat (pv 2) (pe_lst (pa_cons pe_str (pa_cons pe_str (pa_cons pe_str pa_nil))))))) pss_nil)
      (pss_one (ps_ret (pv 2)))))), ?_⟩
    refine ⟨rfl, fun Nm hNm => ?_⟩
    have g2 : Go S D H (upd H Nm (.lst (POOL.map V.str))) := Go.new d hNm
    have NmD := (d.free hNm).1
    have NmS := (d.free hNm).2
    have hN2 := upd_same (H := H) (a := Nm) (o := .lst (POOL.map V.str))
    generalize upd H Nm (.lst (POOL.map V.str)) = H2 at g2 hN2
    refine ⟨_, rfl, S, D, 3, rfl, divW_of (by decide) (by decide), g2.1, fun H3 x x0 x1 g3 => ⟨_, _, rfl, rfl, ?_⟩⟩
    have hN3 := g3.2 _ _ hN2 NmD
    have g3 := g2.trans g3
    refine ⟨_, rfl, by omega, by omega, fun Lm hLm => lc_range (lo := 0) (n := (2 + x).toNat) (fun j H' => ∃ nms ms : List Str, Go S D H H' ∧ H' Nm = some (.lst (nms.map V.str)) ∧ H' Lm = some (.lst (ms.map V.str)) ∧ nms.length + j = 60 ∧ ms.length = j ∧ (ms ++ nms).Perm POOL)
      ⟨POOL, [], g3.trans (Go.new g3.1 hLm), same_new hLm _ _ hN3, upd_same, by rw [pool_len], rfl, List.Perm.refl _⟩ ?_ ?_⟩
    · rintro j H4 hj ⟨nms, ms, g4, hN4, hM4, hl4, hm4, pm⟩
      have LmD := (g3.1.free hLm).1
      have LmS := (g3.1.free hLm).2
      have LmN : Lm ≠ Nm := (ne_of_none hN3 hLm).symm
      have Lm0 := g3.free d hLm
      refine ⟨rfl, _, rfl, _, rfl, S, D, Nm, nms.map V.str, rfl, g4.1, NmD, hN4, by rw [List.length_map]; omega, by rw [List.length_map]; omega, fun H5 jx x g5 hx => ?_⟩
      rw [List.getElem?_map] at hx
      obtain ⟨z, hz, rfl⟩ := Option.map_eq_some_iff.mp hx
      have hjx := (List.getElem?_eq_some_iff.mp hz).1
      rw [list_of_map_erase]
      have hM5 := g5.2 _ _ hM4 LmD
      refine ⟨_, by rw [upd_ne LmN]; exact hM5, by rw [List.length_map]; exact line6 (by omega), nms.eraseIdx jx, ms ++ [z], goU Lm0 d (goU hNm d (g4.trans g5)), by rw [upd_ne LmN.symm, upd_same], by rw [upd_same, List.map_append]; rfl, ?_, by rw [List.length_append, List.length_singleton, hm4], pop_perm pm hz⟩
      rw [List.length_eraseIdx_of_lt hjx]
      omega
    · rintro H4 ⟨nms, ms, g4, hN4, hM4, hl4, hm4, pm⟩
      have LmD := (g3.1.free hLm).1
      have Lm0 := g3.free d hLm
      refine ⟨fun σ' H' => ∃ (p : Addr) (ms : List Str) (y1 : Option V), σ' = [some (.ref D), y1, some (.ref p), none] ∧ Go S D H H' ∧ H p = none ∧ H' p = some (.lst (ms.map V.str)) ∧ 2 ≤ ms.length ∧ ms.length ≤ 7 ∧ ms.Nodup, ?_, ?_⟩
      · refine ⟨_, rfl, S, D, 3, rfl, divW_of (by decide) (by decide), g4.1, fun H5 u u0 u1 g5 => ⟨rfl, _, rfl, ite2 (fun _ => ?_) (fun _ => ?_)⟩⟩
        · have hM5 := g5.2 _ _ hM4 LmD
          refine ⟨_, rfl, z3, fun p1 h1 => ?_⟩
          have s1 := same_new (o := .lst [V.str "", .str "l.a", .str "A b"]) h1
          have hp1 := upd_same (H := H5) (a := p1) (o := .lst [V.str "", .str "l.a", .str "A b"])
          generalize upd H5 p1 (.lst [V.str "", .str "l.a", .str "A b"]) = H6 at s1 hp1
          have g6 := (g4.trans g5).trans (Go.same g5.1 s1)
          refine ⟨Lm, p1, _, _, rfl, rfl, s1 _ _ hM5, hp1, line5 (by rw [List.length_map]; show _ + 3 ≤ _; omega), fun p2 h2 => ?_⟩
          refine ⟨p2, ms ++ XTRA, _, rfl, g6.trans (Go.new g6.1 h2), g6.free d h2, by rw [upd_same, List.map_append]; rfl, by rw [List.length_append]; omega, by rw [List.length_append]; show _ + 3 ≤ 7; omega, marks_nd pm⟩
        · exact ⟨Lm, ms, _, rfl, g4.trans g5, Lm0, g5.2 _ _ hM4 LmD, by omega, by omega, (List.nodup_append.mp (marks_nd pm)).1⟩
      · rintro σ' H5 ⟨p, ms, y1, rfl, g5, p0, hp, l1, l2, nd⟩
        exact ⟨_, rfl, q _ p ms g5 p0 hp l1 l2 nd⟩
end
end Mt
namespace Mt
open PySem PySem.Spec PyProof.Rows L2
section
variable {P : Program} {w : World} {K : PySem.W.Frag} {mg : Str → Option Value} {base : Heap}
set_option maxHeartbeats 0 in
theorem ok_law (T : Txt K mg) (D_is_watch : Kept P w K mg base 2 "is_watch" ["watch"] (spIsW K)) (D__law_begin : Kept P w K mg base 1 "_law_begin" ["script"] (spBegin K)) (D__law_draw : Kept P w K mg base 1 "_law_draw" ["d", "many"] spDraw) (D__law_pop : Kept P w K mg base 2 "_law_pop" ["d", "row"] spPop) (D__law_rare : Kept P w K mg base 2 "_law_rare" ["d", "many"] spRare) (D__law_is_bool : Kept P w K mg base 1 "_law_is_bool" ["told", "due"] spIsBool) (D__law_marks_of : Kept P w K mg base 3 "_law_marks_of" ["d"] spMarksOf) (D__law_drawn_watch : Kept P w K mg base 3 "_law_drawn_watch" ["d", "marks", "many"] (spDWatch K)) (D__law_is_watch : Kept P w K mg base 1 "_law_is_watch" ["watch"] (spIsW K)) (D__law_bent_watch : Kept P w K mg base 3 "_law_bent_watch" ["d", "watch"] (spBent K)) (D__law_by_turns : Kept P w K mg base 9 "_law_by_turns" ["d", "watches", "marks"] (spTurns K)) (D__law_made_ones : Kept P w K mg base 8 "_law_made_ones" ["d", "one", "other", "marks"] (spOnes K)) {f : Addr} {fd : FuncData} (F : FnP K "law" s_law f fd) : FnOk P w K mg base CX0 10 f fd ["script"] (spLaw K) := by
  refine F.ok sc_law (fun vs H Q E h => ?_) (fun cdv A outer s H vs Q E hr h => ?_)
  · obtain ⟨a, ns, rfl, _⟩ := h
    rfl
  · obtain ⟨a, ns, rfl, hS, hl, q⟩ := h
    refine ⟨_, PSs.nox (pss_cons (ps_set (i := 1) sc_law.nd rfl (Or.inl rfl) (pe_d D__law_begin (hr.mono (by decide)) (by rfl) (pa_cons (pv 0) pa_nil)))
      (pss_cons (ps_set (i := 2) sc_law.nd rfl (Or.inl rfl) (pe_d D__law_marks_of (hr.mono (by decide)) (by rfl) (pa_cons (pv 1) pa_nil)))
      (pss_cons (ps_set (i := 3) sc_law.nd rfl (Or.inl rfl) (pe_lst (pa_cons (pe_op op_add pe_int (pe_d D__law_draw (hr.mono (by decide)) (by rfl) (pa_cons (pv 1) (pa_cons pe_int pa_nil)))) (pa_cons (pe_op op_add pe_int (pe_d D__law_draw (hr.mono (by decide)) (by rfl) (pa_cons (pv 1) (pa_cons pe_int pa_nil)))) pa_nil))))
      (Evl.pss_cut (ps_if (pt_val (pe_d D__law_rare (hr.mono (by decide)) (by rfl) (pa_cons (pv 1) (pa_cons pe_int pa_nil)))) (pss_one (ps_asg pe_int (pg_sub (pv 3) pe_int set_list))) pss_nil)
      (pss_cons (ps_set (i := 4) sc_law.nd rfl (Or.inl rfl) (pe_lst (pa_cons (pe_d D__law_drawn_watch (hr.mono (by decide)) (by rfl) (pa_cons (pv 1) (pa_cons (pv 2) (pa_cons (pe_ix ix_list (pv 3) pe_int (fun _ _ => rfl)) pa_nil)))) (pa_cons (pe_d D__law_drawn_watch (hr.mono (by decide)) (by rfl) (pa_cons (pv 1) (pa_cons (pv 2) (pa_cons (pe_ix ix_list (pv 3) pe_int (fun _ _ => rfl)) pa_nil)))) pa_nil))))
      (Evl.pss_cut (ps_if (pt_cmpR op_eq (pe_d D__law_draw (hr.mono (by decide)) (by rfl) (pa_cons (pv 1) (pa_cons pe_int pa_nil))) pe_int (nomark _)) (pss_one (ps_asg (pe_ix ix_list (pv 4) pe_int (fun _ _ => rfl)) (pg_sub (pv 4) pe_int set_list))) pss_nil)
      (pss_cons (ps_if (pt_not (pt_val (pe_d D__law_by_turns (hr.mono (by decide)) (by rfl) (pa_cons (pv 1) (pa_cons (pv 4) (pa_cons (pe_op op_cat (pv 2) (pe_lst (pa_cons pe_str pa_nil))) pa_nil)))))) (pss_one (ps_ret pe_bl)) pss_nil)
      (pss_cons (ps_for PassesOwn.never rfl (pi_range1 (by rfl) T.b_range (pa_cons pe_int pa_nil)) (pg_name (i := 5) sc_law.nd rfl (Or.inl rfl)) (pss_cons (ps_set (i := 6) sc_law.nd rfl (Or.inl rfl) (pe_d D__law_bent_watch (hr.mono (by decide)) (by rfl) (pa_cons (pv 1) (pa_cons (pe_ix ix_list (pv 4) (pv 5) (fun _ _ => rfl)) pa_nil))))
      (pss_cons (ps_if (pt_not (pt_val (pe_d D__law_is_bool (hr.mono (by decide)) (by rfl) (pa_cons (pe_d D_is_watch (hr.mono (by decide)) (by rfl) (pa_cons (pv 6) pa_nil)) (pa_cons (pe_d D__law_is_watch (hr.mono (by decide)) (by rfl) (pa_cons (pv 6) pa_nil)) pa_nil))))) (pss_one (ps_ret pe_bl)) pss_nil)
      (pss_one (ps_if (pt_not (pt_val (pe_d D__law_is_bool (hr.mono (by decide)) (by rfl) (pa_cons (pe_d D_is_watch (hr.mono (by decide)) (by rfl) (pa_cons (pe_ix ix_list (pv 4) (pv 5) (fun _ _ => rfl)) pa_nil)) (pa_cons pe_bl pa_nil))))) (pss_one (ps_ret pe_bl)) pss_nil)))))
      (pss_cons (ps_set (i := 7) sc_law.nd rfl (Or.inl rfl) (pe_callTy call_list_of (by rfl) T.b_list (by decide +kernel) (pa_cons (pv 2) pa_nil)))
      (pss_cons (ps_set (i := 8) sc_law.nd rfl (Or.inl rfl) (pe_d D__law_pop (hr.mono (by decide)) (by rfl) (pa_cons (pv 1) (pa_cons (pv 7) pa_nil))))
      (pss_cons (ps_set (i := 9) sc_law.nd rfl (Or.inl rfl) (pe_d D__law_pop (hr.mono (by decide)) (by rfl) (pa_cons (pv 1) (pa_cons (pv 7) pa_nil))))
      (pss_one (ps_ret (pe_d D__law_made_ones (hr.mono (by decide)) (by rfl) (pa_cons (pv 1) (pa_cons (pv 8) (pa_cons (pv 9) (pa_cons (pv 2) pa_nil)))))))))))))))))), ?_⟩
    refine ⟨_, rfl, a, ns, rfl, hS, hl, fun S D H1 s1 D0 d => ?_⟩
    refine ⟨_, rfl, S, D, rfl, d, fun H2 m ms g2 mN hm l2 l7 nd => ?_⟩
    have mD := (d.free mN).1
    refine ⟨_, rfl, S, D, 5, rfl, divW_of (by decide) (by decide), g2.1, fun H3 x x0 x1 g3 => ⟨_, _, rfl, rfl, _, rfl, S, D, 5, rfl, divW_of (by decide) (by decide), g3.1, fun H4 y y0 y1 g4 => ⟨_, _, rfl, rfl, z2, fun Ls hLs => ?_⟩⟩⟩
    have g4 := g3.trans g4
    have LsD := (g4.1.free hLs).1
    have g5 : Go S D H2 (upd H4 Ls (.lst [V.int (1 + x), .int (1 + y)])) := g4.trans (Go.new g4.1 hLs)
    have hLs5 := upd_same (H := H4) (a := Ls) (o := .lst [V.int (1 + x), .int (1 + y)])
    have hm4 := g4.2 _ _ hm mD
    have mLs : Ls ≠ m := (ne_of_none hm4 hLs).symm
    have Ls0 : H2 Ls = none := g4.free g2.1 hLs
    generalize upd H4 Ls (.lst [V.int (1 + x), .int (1 + y)]) = H5 at g5 hLs5
    refine ⟨fun σ' H' => ∃ x' : Int, σ' = [some (.ref a), some (.ref D), some (.ref m), some (.ref Ls), none, none, none, none, none, none] ∧ Go S D H2 H' ∧ H' Ls = some (.lst [V.int x', .int (1 + y)]) ∧ 1 ≤ x' ∧ x' ≤ 12, ?_, ?_⟩
    · refine ⟨_, rfl, S, D, 7, rfl, by decide, by decide, g5.1, fun H6 b g6 => ⟨b, rfl, ite2 (fun _ => ?_) (fun _ => ⟨1 + x, rfl, g5.trans g6, g6.2 _ _ hLs5 LsD, by omega, by omega⟩)⟩⟩
      refine ⟨_, rfl, Ls, _, _, 0, rfl, rfl, g6.2 _ _ hLs5 LsD, rfl, 12, rfl, goU Ls0 g2.1 (g5.trans g6), upd_same, by decide, by decide⟩
    · rintro σ' H6 ⟨x', rfl, g6, hLs6, x1', x12⟩
      refine ⟨_, rfl, _, rfl, _, rfl, Ls, _, _, _, rfl, rfl, SqL.of hLs6, atI_nat (j := 0) rfl, S, D, m, x', ms, rfl, g6.1, mD, g6.2 _ _ hm mD, l2, by omega, nd, x1', x12, fun H7 v0 W0 g7 dW0 ok0 gd0 n0 => ?_⟩
      have g7 := g6.trans g7
      refine ⟨_, rfl, _, rfl, _, rfl, Ls, _, _, _, rfl, rfl, SqL.of (‹Go S D H6 H7›.2 _ _ hLs6 LsD), atI_nat (j := 1) rfl, S, D, m, 1 + y, ms, rfl, g7.1, mD, g7.2 _ _ hm mD, l2, by omega, nd, by omega, by omega, fun H8 v1 W1 g8 dW1 ok1 gd1 n1 => ⟨z2, fun Lw hLw => ?_⟩⟩
      have dW0 := dp_keep (Go.keepT g7.1 g8) _ _ (dWt_noL W0) dW0
      have g8 := g7.trans g8
      have sN := same_new (o := .lst [v0, v1]) hLw
      have LwD := (g8.1.free hLw).1
      have Lw0 : H2 Lw = none := g8.free g2.1 hLw
      have hLw9 := upd_same (H := H8) (a := Lw) (o := .lst [v0, v1])
      have dA9 : DpAll K (upd H8 Lw (.lst [v0, v1])) [v0, v1] ([W0, W1].map dWt) := .cons (dp_same sN _ _ dW0) (.cons (dp_same sN _ _ dW1) .nil)
      have g9 := g8.trans (Go.same g8.1 sN)
      generalize upd H8 Lw (.lst [v0, v1]) = H9 at g9 hLw9 dA9
      refine ⟨fun σ' H' => ∃ (ws : List V) (Ws : List Wt), σ' = [some (.ref a), some (.ref D), some (.ref m), some (.ref Ls), some (.ref Lw), none, none, none, none, none] ∧ Go S D H2 H' ∧ H' Lw = some (.lst ws) ∧ DpAll K H' ws (Ws.map dWt) ∧ Ws.length = 2 ∧ ∀ W ∈ Ws, WtOk W ∧ WtGood W ∧ W.rows.length ≤ 12, ?_, ?_⟩
      · have gd : ∀ W ∈ [W0, W1], WtOk W ∧ WtGood W ∧ W.rows.length ≤ 12 := fun W hW => by
          simp only [List.mem_cons, List.not_mem_nil, or_false] at hW
          rcases hW with rfl | rfl
          · exact ⟨ok0, gd0, by omega⟩
          · exact ⟨ok1, gd1, by omega⟩
        refine ⟨_, rfl, S, D, 5, rfl, divW_of (by decide) (by decide), g9.1, fun HA u u0 u1 gA => ⟨rfl, _, rfl, ite2 (fun _ => ?_) (fun _ => ?_)⟩⟩
        · have kA := Go.keepT g9.1 gA
          have hLwA := gA.2 _ _ hLw9 LwD
          have kL := keepT_nt (o := .lst [v0, v0]) (nt_lst _) hLwA
          have d0 := dp_keep (kA.trans kL) _ _ (dWt_noL W0) (dpA_cons dA9).choose_spec.choose_spec.2.1
          refine ⟨_, rfl, Lw, _, _, _, rfl, rfl, SqL.of hLwA, atI_nat (j := 0) rfl, _, rfl, Lw, _, _, 1, rfl, rfl, hLwA, rfl, [v0, v0], [W0, W0], rfl, goU Lw0 g2.1 (g9.trans gA), upd_same, ?_, rfl, fun W hW => gd W ?_⟩
          · obtain ⟨z0, r0, e0, h0, _⟩ := dpA_cons dA9
            cases e0
            have h0 := dp_keep (kA.trans kL) _ _ (dWt_noL W0) h0
            exact .cons h0 (.cons h0 .nil)
          · simp only [List.mem_cons, List.not_mem_nil, or_false, or_self] at hW
            rw [hW]
            exact List.mem_cons_self
        · exact ⟨_, _, rfl, g9.trans gA, gA.2 _ _ hLw9 LwD, dpA_keep (Go.keepT g9.1 gA) _ _ (noLs_map _ _ fun W _ => dWt_noL W) dA9, rfl, gd⟩
      · rintro σ' HA ⟨ws, Ws, rfl, gA, hLwA, dWA, n2, gdW⟩
        have wl := dpA_len dWA
        rw [List.length_map] at wl
        refine ⟨_, rfl, _, rfl, _, rfl, z1, fun p1 h1 => ?_⟩
        have s1' := same_new (o := .lst [V.str "zz"]) h1
        have hp1 := upd_same (H := HA) (a := p1) (o := .lst [V.str "zz"])
        have hmA := s1' _ _ (gA.2 _ _ hm mD)
        generalize upd HA p1 (.lst [V.str "zz"]) = HB at s1' hp1 hmA
        refine ⟨m, p1, _, _, rfl, rfl, hmA, hp1, line5 (by rw [List.length_map]; show _ + 1 ≤ _; omega), fun p2 h2 => ?_⟩
        have s2' := s1'.trans (same_new (o := .lst (ms.map V.str ++ [V.str "zz"])) h2)
        have hp2 := upd_same (H := HB) (a := p2) (o := .lst (ms.map V.str ++ [V.str "zz"]))
        have p2D := (gA.1.free (s1'.free h2)).1
        generalize upd HB p2 (.lst (ms.map V.str ++ [V.str "zz"])) = HC at s2' hp2
        have gC := gA.trans (Go.same gA.1 s2')
        refine ⟨S, D, Lw, p2, ws, Ws, ms ++ [("zz" : Str)], rfl, gC.1, LwD, p2D, s2' _ _ hLwA, dpA_same s2' _ _ dWA, n2, fun W hW => (gdW W hW).1, by rw [hp2, List.map_append]; rfl, by rw [List.length_append]; show 0 < _ + 1; omega, by rw [List.length_append]; show _ + 1 ≤ 100; omega, fun HD gD => ?_⟩
        have dWD := dpA_keep (Go.keepT gC.1 gD) _ _ (noLs_map _ _ fun W _ => dWt_noL W) (dpA_same s2' _ _ dWA)
        have hLwD := gD.2 _ _ (s2' _ _ hLwA) LwD
        have gD := gC.trans gD
        refine ⟨_, rfl, ite2 (fun h => (nomatch (show false = true from h))) (fun _ => ?_)⟩
        refine ⟨_, rfl, by decide, by decide, for_range (lo := 0) (n := 2) (fun i σ H' => ∃ (y5 y6 : Option V), σ = [some (.ref a), some (.ref D), some (.ref m), some (.ref Ls), some (.ref Lw), y5, y6, none, none, none] ∧ Go S D HD H') ⟨_, _, rfl, Go.refl gD.1⟩ ?_ ?_⟩
        · rintro i σ HE hi ⟨y5, y6, rfl, gE⟩
          have eW : Ws[i]? = some (Ws[i]'(by omega)) := List.getElem?_eq_getElem _
          generalize Ws[i]'(by omega) = W at eW
          obtain ⟨vw, ew, dw⟩ := dpA_get dWD eW
          obtain ⟨okW, gdw, w12⟩ := gdW W (List.mem_of_getElem? eW)
          have dwE := dp_keep (Go.keepT gD.1 gE) _ _ (dWt_noL W) dw
          have hLwE := gE.2 _ _ hLwD LwD
          refine ⟨_, rfl, _, rfl, _, rfl, Lw, _, _, _, rfl, rfl, SqL.of hLwE, (by rw [Int.zero_add]; exact atI_nat ew), S, D, vw, W, rfl, gE.1, dwE, okW, fun HF vc z R B gF dc few => ?_⟩
          have dwF := dp_keep (Go.keepT gE.1 gF) _ _ (dWt_noL W) dwE
          have hLwF := gF.2 _ _ hLwE LwD
          have gF := gE.trans gF
          refine ⟨_, rfl, vc, z, R, B, rfl, dc, few, fun HG sG => ?_⟩
          refine ⟨_, rfl, vc, z, R, B, rfl, dp_same sG _ _ dc, few, fun HH sH => ?_⟩
          have sFH := sG.trans sH
          refine ⟨_, _, rfl, ?_⟩
          rw [beq_self_eq_true]
          refine ⟨_, rfl, ite2 (fun h => (nomatch (show false = true from h))) (fun _ => ?_)⟩
          have dwH := dp_same sFH _ _ dwF
          have hLwH := sFH _ _ hLwF
          have dwH' := dwH
          rw [dWt_g] at dwH'
          refine ⟨_, rfl, _, rfl, Lw, _, _, _, rfl, rfl, SqL.of hLwH, (by rw [Int.zero_add]; exact atI_nat ew), vw, _, _, _, rfl, dwH', few_wt okW, fun HI sI => ?_⟩
          rw [gB_t (good_wt okW gdw w12)]
          refine ⟨_, _, rfl, ?_⟩
          refine ⟨_, rfl, ite2 (fun h => (nomatch (show false = true from h))) (fun _ => ⟨_, _, rfl, gF.trans (Go.same gF.1 (sFH.trans sI))⟩)⟩
        · rintro σ HE ⟨y5, y6, rfl, gE⟩
          have gE := gD.trans gE
          have hmE := gE.2 _ _ hm mD
          refine ⟨_, rfl, m, _, rfl, .inl (SqL.of hmE), fun p3 h3 => ?_⟩
          have p3D := (gE.1.free h3).1
          have p3S := (gE.1.free h3).2
          have gF := gE.trans (Go.new (o := .lst (ms.map V.str)) gE.1 h3)
          have hp3 := upd_same (H := HE) (a := p3) (o := .lst (ms.map V.str))
          have p3m : p3 ≠ m := (ne_of_none hmE h3).symm
          have p30 : H2 p3 = none := gE.free g2.1 h3
          generalize upd HE p3 (.lst (ms.map V.str)) = HF at gF hp3
          refine ⟨_, rfl, _, rfl, S, D, p3, ms.map V.str, rfl, gF.1, p3D, hp3, by rw [List.length_map]; omega, by rw [List.length_map]; omega, fun HG j u gG hj => ?_⟩
          obtain ⟨z, rfl, hz⟩ : ∃ z, u = V.str z ∧ ms[j]? = some z := by
            rw [List.getElem?_map] at hj
            obtain ⟨z, hz, rfl⟩ := Option.map_eq_some_iff.mp hj
            exact ⟨z, rfl, hz⟩
          have hjx := (List.getElem?_eq_some_iff.mp hz).1
          rw [list_of_map_erase]
          have gG : Go S D H2 (upd HG p3 (.lst ((ms.eraseIdx j).map V.str))) := goU p30 g2.1 (gF.trans gG)
          have hp3' := upd_same (H := HG) (a := p3) (o := .lst ((ms.eraseIdx j).map V.str))
          generalize upd HG p3 (.lst ((ms.eraseIdx j).map V.str)) = HH at gG hp3'
          have el := List.length_eraseIdx_of_lt hjx
          refine ⟨_, rfl, _, rfl, S, D, p3, (ms.eraseIdx j).map V.str, rfl, gG.1, p3D, hp3', by rw [List.length_map]; omega, by rw [List.length_map]; omega, fun HI j2 u gI hj2 => ?_⟩
          obtain ⟨z2, rfl, hz2⟩ : ∃ z, u = V.str z ∧ (ms.eraseIdx j)[j2]? = some z := by
            rw [List.getElem?_map] at hj2
            obtain ⟨z, hz, rfl⟩ := Option.map_eq_some_iff.mp hj2
            exact ⟨z, rfl, hz⟩
          have gJ : Go S D H2 (upd HI p3 (.lst (((ms.eraseIdx j).map V.str).eraseIdx j2))) := goU p30 g2.1 (gG.trans gI)
          generalize upd HI p3 (.lst (((ms.eraseIdx j).map V.str).eraseIdx j2)) = HJ at gJ
          exact ⟨_, rfl, _, rfl, _, rfl, _, rfl, S, D, m, z, z2, ms, rfl, gJ.1, mD, gJ.2 _ _ hm mD, by omega, by omega, fun H' => q H'⟩
end
end Mt
namespace Mt
open PySem PySem.Spec PyProof.Rows L2
def dd_is_watch : He.DefD := ⟨("is_watch", none), "is_watch", "is_watch", defArgs s_is_watch, defBody s_is_watch, defScope s_is_watch, [], []⟩
def dd_is_watching : He.DefD := ⟨("is_watching", none), "is_watching", "is_watching", defArgs s_is_watching, defBody s_is_watching, defScope s_is_watching, [], []⟩
def dd_place_behind : He.DefD := ⟨("place_behind", none), "place_behind", "place_behind", defArgs s_place_behind, defBody s_place_behind, defScope s_place_behind, [], []⟩
def dd_never : He.DefD := ⟨("never", none), "never", "never", defArgs s_never, defBody s_never, defScope s_never, [], []⟩
def dd_within : He.DefD := ⟨("within", none), "within", "within", defArgs s_within, defBody s_within, defScope s_within, [], []⟩
def dd_order : He.DefD := ⟨("order", none), "order", "order", defArgs s_order, defBody s_order, defScope s_order, [], []⟩
def dd__law_begin : He.DefD := ⟨("_law_begin", none), "_law_begin", "_law_begin", defArgs s__law_begin, defBody s__law_begin, defScope s__law_begin, [], []⟩
def dd__law_draw : He.DefD := ⟨("_law_draw", none), "_law_draw", "_law_draw", defArgs s__law_draw, defBody s__law_draw, defScope s__law_draw, [], []⟩
def dd__law_pick : He.DefD := ⟨("_law_pick", none), "_law_pick", "_law_pick", defArgs s__law_pick, defBody s__law_pick, defScope s__law_pick, [], []⟩
def dd__law_pop : He.DefD := ⟨("_law_pop", none), "_law_pop", "_law_pop", defArgs s__law_pop, defBody s__law_pop, defScope s__law_pop, [], []⟩
def dd__law_rare : He.DefD := ⟨("_law_rare", none), "_law_rare", "_law_rare", defArgs s__law_rare, defBody s__law_rare, defScope s__law_rare, [], []⟩
def dd__law_pool : He.DefD := ⟨("_law_pool", none), "_law_pool", "_law_pool", defArgs s__law_pool, defBody s__law_pool, defScope s__law_pool, [], []⟩
def dd__law_is_int : He.DefD := ⟨("_law_is_int", none), "_law_is_int", "_law_is_int", defArgs s__law_is_int, defBody s__law_is_int, defScope s__law_is_int, [], []⟩
def dd__law_watch_step : He.DefD := ⟨("_law_watch_step", none), "_law_watch_step", "_law_watch_step", defArgs s__law_watch_step, defBody s__law_watch_step, defScope s__law_watch_step, [], []⟩
def dd__law_same : He.DefD := ⟨("_law_same", none), "_law_same", "_law_same", defArgs s__law_same, defBody s__law_same, defScope s__law_same, [], []⟩
def dd__law_is_bool : He.DefD := ⟨("_law_is_bool", none), "_law_is_bool", "_law_is_bool", defArgs s__law_is_bool, defBody s__law_is_bool, defScope s__law_is_bool, [], []⟩
def dd__law_marks_of : He.DefD := ⟨("_law_marks_of", none), "_law_marks_of", "_law_marks_of", defArgs s__law_marks_of, defBody s__law_marks_of, defScope s__law_marks_of, [], []⟩
def dd__law_wide_shown : He.DefD := ⟨("_law_wide_shown", none), "_law_wide_shown", "_law_wide_shown", defArgs s__law_wide_shown, defBody s__law_wide_shown, defScope s__law_wide_shown, [], []⟩
def dd__law_drawn_watch : He.DefD := ⟨("_law_drawn_watch", none), "_law_drawn_watch", "_law_drawn_watch", defArgs s__law_drawn_watch, defBody s__law_drawn_watch, defScope s__law_drawn_watch, [], []⟩
def dd__law_is_watch : He.DefD := ⟨("_law_is_watch", none), "_law_is_watch", "_law_is_watch", defArgs s__law_is_watch, defBody s__law_is_watch, defScope s__law_is_watch, [], []⟩
def dd__law_with : He.DefD := ⟨("_law_with", none), "_law_with", "_law_with", defArgs s__law_with, defBody s__law_with, defScope s__law_with, [], []⟩
def dd__law_bent_watch : He.DefD := ⟨("_law_bent_watch", none), "_law_bent_watch", "_law_bent_watch", defArgs s__law_bent_watch, defBody s__law_bent_watch, defScope s__law_bent_watch, [], []⟩
def dd__law_looked : He.DefD := ⟨("_law_looked", none), "_law_looked", "_law_looked", defArgs s__law_looked, defBody s__law_looked, defScope s__law_looked, [], []⟩
def dd__law_by_turns : He.DefD := ⟨("_law_by_turns", none), "_law_by_turns", "_law_by_turns", defArgs s__law_by_turns, defBody s__law_by_turns, defScope s__law_by_turns, [], []⟩
def dd__law_met : He.DefD := ⟨("_law_met", none), "_law_met", "_law_met", defArgs s__law_met, defBody s__law_met, defScope s__law_met, [], []⟩
def dd__law_late : He.DefD := ⟨("_law_late", none), "_law_late", "_law_late", defArgs s__law_late, defBody s__law_late, defScope s__law_late, [], []⟩
def dd__law_ahead : He.DefD := ⟨("_law_ahead", none), "_law_ahead", "_law_ahead", defArgs s__law_ahead, defBody s__law_ahead, defScope s__law_ahead, [], []⟩
def dd__law_breaks_where : He.DefD := ⟨("_law_breaks_where", none), "_law_breaks_where", "_law_breaks_where", defArgs s__law_breaks_where, defBody s__law_breaks_where, defScope s__law_breaks_where, [], []⟩
def dd__law_made_ones : He.DefD := ⟨("_law_made_ones", none), "_law_made_ones", "_law_made_ones", defArgs s__law_made_ones, defBody s__law_made_ones, defScope s__law_made_ones, [], []⟩
def dd_law : He.DefD := ⟨("law", none), "law", "law", defArgs s_law, defBody s_law, defScope s_law, [], []⟩
def dd_wi : He.DefD := ⟨("Watcher", some "__init__"), "__init__", "Watcher.__init__", defArgs s_wi, defBody s_wi, defScope s_wi, [], []⟩
def dd_wc : He.DefD := ⟨("Watcher", some "__call__"), "__call__", "Watcher.__call__", defArgs s_wc, defBody s_wc, defScope s_wc, [], []⟩
/-- a property of the class, and its getter -/
def paX (K : PySem.W.Frag) (x : Str) : Addr := He.ma K (He.ga K "Watcher") x
def gaX (K : PySem.W.Frag) (x : Str) : Addr := match PySem.W.recIn K (paX K x) "property" with
  | some (.ref g :: _) => g
  | _ => 0
def prB (K : PySem.W.Frag) (x : Str) : Bool := He.eqO (PySem.W.findIn K (.ref (He.ga K "Watcher")) x) (some (some (.ref (paX K x)))) && (He.eqO (PySem.W.specialIn K (.ref (paX K x)) "__get__") (some (some (.builtin "property.__get__"))) && (decide (PySem.W.takesIn K (.ref (paX K x)) = some true) && (match PySem.W.recIn K (paX K x) "property" with
  | some (.ref _ :: _) => true
  | _ => false)))
theorem rec_of {K : PySem.W.Frag} {x : Str} (h : (match PySem.W.recIn K (paX K x) "property" with
  | some (.ref _ :: _) => true
  | _ => false) = true) : ∃ rest, PySem.W.recIn K (paX K x) "property" = some (.ref (gaX K x) :: rest) := by
  unfold gaX
  split at h
  · rename_i g r e
    rw [e]
    exact ⟨r, rfl⟩
  · cases h
theorem prB_ok {K : PySem.W.Frag} {x : Str} (h : prB K x = true) : PropOf K (He.ga K "Watcher") x (paX K x) (gaX K x) := by
  obtain ⟨x2, h⟩ := He.ba h
  obtain ⟨x3, h⟩ := He.ba h
  obtain ⟨x4, x5⟩ := He.ba h
  exact ⟨He.eqO_ok x2, He.eqO_ok x3, of_decide_eq_true x4, rec_of x5⟩
def dd_wb : He5.DefA := ⟨fun K => gaX K "broken", "broken", "Watcher.broken", defArgs s_wb, defBody s_wb, defScope s_wb, [], []⟩
def dd_wp : He5.DefA := ⟨fun K => gaX K "place", "place", "Watcher.place", defArgs s_wp, defBody s_wp, defScope s_wp, [], []⟩
/-! the head's words, and two defs at addresses of their own -/
abbrev AlN : Type := He.AlD × (Bool × (He.FnW × He.FnW))
def obsN (n : Nat) (fa : List He.Fa) (fn : List He.DefD) (ex : PySem.W.Frag → Bool) (d e : He5.DefA) (g : Addr → Option Obj) : AlN := (He.obsDG n fa fn g, (ex (He.frG g (He.asD g n)) && (d.ok (He.frG g (He.asD g n)) && e.ok (He.frG g (He.asD g n))), (He5.fnA (He.frG g (He.asD g n)) (d.at_ (He.frG g (He.asD g n))), He5.fnA (He.frG g (He.asD g n)) (e.at_ (He.frG g (He.asD g n))))))
def SaysN (fa : List He.Fa) (fn : List He.DefD) (ex : PySem.W.Frag → Bool) (d e : He5.DefA) (K : PySem.W.Frag) : Prop := He.SaysD fa fn K ∧ (ex K && (d.ok K && e.ok K)) = true ∧ He5.fnA K (d.at_ K) = d.val ∧ He5.fnA K (e.at_ K) = e.val
def hookN (n : Nat) (fa : List He.Fa) (fn : List He.DefD) (ex : PySem.W.Frag → Bool) (d e : He5.DefA) : PySem.W.Hook where
  α := AlN
  obs := fun s => obsN n fa fn ex d e s.heap.get?
  val := fun _ => (He.valD fn, (true, (d.val, e.val)))
  says := fun _ h => ∃ K : PySem.W.Frag, K.In h ∧ SaysN fa fn ex d e K
  of := fun _ _ e => ⟨_, He.frG_in, congrArg (fun z : AlN => z.1) e, congrArg (fun z : AlN => z.2.1) e, congrArg (fun z : AlN => z.2.2.1) e, congrArg (fun z : AlN => z.2.2.2) e⟩
  keeps := fun _ _ _ ⟨K, hK, c⟩ k => ⟨K, PySem.W.Frag.In.keeps hK k, c⟩
theorem obsN_eq {n : Nat} {fa : List He.Fa} {fn : List He.DefD} {ex : PySem.W.Frag → Bool} {d e : He5.DefA} {g : Addr → Option Obj} {s : Shared} (h : ∀ a, g a = s.heap.get? a) : obsN n fa fn ex d e g = (hookN n fa fn ex d e).obs s := by
  have e : g = s.heap.get? := funext h
  rw [e] <;> rfl
def dds : List He.DefD := [dd_is_watch, dd_is_watching, dd_place_behind, dd_never, dd_within, dd_order, dd__law_begin, dd__law_draw, dd__law_pick, dd__law_pop, dd__law_rare, dd__law_pool, dd__law_is_int, dd__law_watch_step, dd__law_same, dd__law_is_bool, dd__law_marks_of, dd__law_wide_shown, dd__law_drawn_watch, dd__law_is_watch, dd__law_with, dd__law_bent_watch, dd__law_looked, dd__law_by_turns, dd__law_met, dd__law_late, dd__law_ahead, dd__law_breaks_where, dd__law_made_ones, dd_law, dd_wi, dd_wc]
def fas : List He.Fa := [.glo "is_watch", .glo "is_watching", .glo "place_behind", .glo "never", .glo "within", .glo "order", .glo "_law_begin", .glo "_law_draw", .glo "_law_pick", .glo "_law_pop", .glo "_law_rare", .glo "_law_pool", .glo "_law_is_int", .glo "_law_watch_step", .glo "_law_same", .glo "_law_is_bool", .glo "_law_marks_of", .glo "_law_wide_shown", .glo "_law_drawn_watch", .glo "_law_is_watch", .glo "_law_with", .glo "_law_bent_watch", .glo "_law_looked", .glo "_law_by_turns", .glo "_law_met", .glo "_law_late", .glo "_law_ahead", .glo "_law_breaks_where", .glo "_law_made_ones", .glo "law", .free "int", .free "abs", .free "len", .free "isinstance", .free "bool", .free "tuple", .free "list", .free "range", .free "min", .free "all", .free "str", .int "MOST_PLACES" 12, .glo "Watcher", .cls "Watcher", .noat "Watcher" "watch", .noat "Watcher" "here", .noat "Watcher" "has_broken", .mkr "Watcher", .meth "Watcher" "__call__"]
def exM (K : PySem.W.Frag) : Bool := PySem.W.fnIn K (He.ma K (He.ga K "Watcher") "__call__") && (prB K "broken" && prB K "place")
abbrev R : PySem.W.OpenRow := PySem.W.OpenLaw.row PySem.Challenge.rw_meantrace_k74_watches_walked
abbrev hk : PySem.W.Hook := hookN 6 fas dds exM dd_wb dd_wp
def ob (s : PySem.W.SharedT) : AlN := obsN 6 fas dds exM dd_wb dd_wp (HandSHeadRun.getT s)
theorem ob_eq (s : PySem.W.SharedT) : ob s = hk.obs s.abs := obsN_eq (HandSHeadRun.getT_eq s)
def names : List PySem.Str := (["MOST_PLACES", "is_watch", "is_watching", "place_behind", "never", "within", "order", "Watcher", "_law_begin", "_law_draw", "_law_pick", "_law_pop", "_law_rare", "_law_pool", "_law_is_int", "_law_watch_step", "_law_same", "_law_is_bool", "_law_marks_of", "_law_wide_shown", "_law_drawn_watch", "_law_is_watch", "_law_with", "_law_bent_watch", "_law_looked"] : List PySem.Str) ++ (["_law_by_turns", "_law_met", "_law_late", "_law_ahead", "_law_breaks_where", "_law_made_ones"] : List PySem.Str)
theorem run (w : World) : HandSHeadRun.RunEq R (PySem.W.view R.prog [33]) hk ob 3000 names w := by
  intro os; kernel_rfl
theorem facts {P : Program} {w : World} {K : PySem.W.Frag} {h : Heap} {mg : Str → Option Value} {f : Addr} (X : K.In h) (G : h.Ns mainGlobals mg) (hfa : mg ("law" : Str) = some (.ref f)) (c : SaysN fas dds exM dd_wb dd_wp K) :
    ∃ fd : FuncData, (∀ (s : Shared) (v : Value), BindsTo s fd ⟨[v], []⟩ [("script", v)]) ∧ ∀ base : Heap, K.In base → base.Ns mainGlobals mg → FnOk P w K mg base CX0 10 f fd ["script"] (spLaw K) := by
  obtain ⟨fd, F⟩ := c.1.def_ 29 (d := dd_law) rfl
  have e := hfa.symm.trans (He.glo_ok X G (c.1.fact 29 (f := .glo "law") rfl))
  cases e
  have T : Txt K mg := ⟨He.free_ok X G (c.1.fact 30 (f := .free "int") rfl), He.free_ok X G (c.1.fact 31 (f := .free "abs") rfl), He.free_ok X G (c.1.fact 32 (f := .free "len") rfl), He.free_ok X G (c.1.fact 33 (f := .free "isinstance") rfl), He.free_ok X G (c.1.fact 34 (f := .free "bool") rfl), He.free_ok X G (c.1.fact 35 (f := .free "tuple") rfl), He.free_ok X G (c.1.fact 36 (f := .free "list") rfl), He.free_ok X G (c.1.fact 37 (f := .free "range") rfl), He.free_ok X G (c.1.fact 38 (f := .free "min") rfl), He.free_ok X G (c.1.fact 39 (f := .free "all") rfl), He.free_ok X G (c.1.fact 40 (f := .free "str") rfl), He.int_ok X G (c.1.fact 41 (f := .int "MOST_PLACES" 12) rfl)⟩
  have b := FunD.bindsA (ps := ["script"]) F fun _ _ _ _ _ _ us hl => match us, hl with | [_], _ => rfl
  refine ⟨fd, fun s v => b s [v] rfl, fun base _ _ => ?_⟩
  have D_is_watching : Kept P w K mg base 1 "is_watching" ["row", "many"] (spIsRow K) := kept_of (st := s_is_watching) X G (c.1.def_ 1 (d := dd_is_watching) rfl) (c.1.fact 1 (f := .glo "is_watching") rfl) (fun _ _ _ _ _ _ us hl => match us, hl with | [_, _], _ => rfl) (fun f fd F => ok_is_watching T F)
  have D_place_behind : Kept P w K mg base 1 "place_behind" ["watch", "place", "shown"] (spPlace K) := kept_of (st := s_place_behind) X G (c.1.def_ 2 (d := dd_place_behind) rfl) (c.1.fact 2 (f := .glo "place_behind") rfl) (fun _ _ _ _ _ _ us hl => match us, hl with | [_, _, _], _ => rfl) (fun f fd F => ok_place_behind T F)
  have D_never : Kept P w K mg base 1 "never" ["mark"] (spNev K) := kept_of (st := s_never) X G (c.1.def_ 3 (d := dd_never) rfl) (c.1.fact 3 (f := .glo "never") rfl) (fun _ _ _ _ _ _ us hl => match us, hl with | [_], _ => rfl) (fun f fd F => ok_never T F)
  have D_within : Kept P w K mg base 1 "within" ["cause", "effect", "n"] (spWin K) := kept_of (st := s_within) X G (c.1.def_ 4 (d := dd_within) rfl) (c.1.fact 4 (f := .glo "within") rfl) (fun _ _ _ _ _ _ us hl => match us, hl with | [_, _, _], _ => rfl) (fun f fd F => ok_within T F)
  have D_order : Kept P w K mg base 1 "order" ["first", "second"] (spOrd K) := kept_of (st := s_order) X G (c.1.def_ 5 (d := dd_order) rfl) (c.1.fact 5 (f := .glo "order") rfl) (fun _ _ _ _ _ _ us hl => match us, hl with | [_, _], _ => rfl) (fun f fd F => ok_order T F)
  have D__law_begin : Kept P w K mg base 1 "_law_begin" ["script"] (spBegin K) := kept_of (st := s__law_begin) X G (c.1.def_ 6 (d := dd__law_begin) rfl) (c.1.fact 6 (f := .glo "_law_begin") rfl) (fun _ _ _ _ _ _ us hl => match us, hl with | [_], _ => rfl) (fun f fd F => ok__law_begin T F)
  have D__law_draw : Kept P w K mg base 1 "_law_draw" ["d", "many"] spDraw := kept_of (st := s__law_draw) X G (c.1.def_ 7 (d := dd__law_draw) rfl) (c.1.fact 7 (f := .glo "_law_draw") rfl) (fun _ _ _ _ _ _ us hl => match us, hl with | [_, _], _ => rfl) (fun f fd F => ok__law_draw T F)
  have D__law_pool : Kept P w K mg base 1 "_law_pool" [] spPool := kept_of (st := s__law_pool) X G (c.1.def_ 11 (d := dd__law_pool) rfl) (c.1.fact 11 (f := .glo "_law_pool") rfl) (fun _ _ _ _ _ _ us hl => match us, hl with | [], _ => rfl) (fun f fd F => ok__law_pool T F)
  have D__law_is_int : Kept P w K mg base 1 "_law_is_int" ["thing"] spIsInt := kept_of (st := s__law_is_int) X G (c.1.def_ 12 (d := dd__law_is_int) rfl) (c.1.fact 12 (f := .glo "_law_is_int") rfl) (fun _ _ _ _ _ _ us hl => match us, hl with | [_], _ => rfl) (fun f fd F => ok__law_is_int T F)
  have D__law_watch_step : Kept P w K mg base 1 "_law_watch_step" ["watch", "state", "shown"] (spPlace K) := kept_of (st := s__law_watch_step) X G (c.1.def_ 13 (d := dd__law_watch_step) rfl) (c.1.fact 13 (f := .glo "_law_watch_step") rfl) (fun _ _ _ _ _ _ us hl => match us, hl with | [_, _, _], _ => rfl) (fun f fd F => ok__law_watch_step T F)
  have D__law_is_bool : Kept P w K mg base 1 "_law_is_bool" ["told", "due"] spIsBool := kept_of (st := s__law_is_bool) X G (c.1.def_ 15 (d := dd__law_is_bool) rfl) (c.1.fact 15 (f := .glo "_law_is_bool") rfl) (fun _ _ _ _ _ _ us hl => match us, hl with | [_, _], _ => rfl) (fun f fd F => ok__law_is_bool T F)
  have D__law_is_watch : Kept P w K mg base 1 "_law_is_watch" ["watch"] (spIsW K) := kept_of (st := s__law_is_watch) X G (c.1.def_ 19 (d := dd__law_is_watch) rfl) (c.1.fact 19 (f := .glo "_law_is_watch") rfl) (fun _ _ _ _ _ _ us hl => match us, hl with | [_], _ => rfl) (fun f fd F => ok__law_is_watch T F)
  have D__law_with : Kept P w K mg base 1 "_law_with" ["row", "k", "thing"] (spWith K) := kept_of (st := s__law_with) X G (c.1.def_ 20 (d := dd__law_with) rfl) (c.1.fact 20 (f := .glo "_law_with") rfl) (fun _ _ _ _ _ _ us hl => match us, hl with | [_, _, _], _ => rfl) (fun f fd F => ok__law_with T F)
  have D__law_met : Kept P w K mg base 1 "_law_met" ["mark", "rows"] (spMetL K) := kept_of (st := s__law_met) X G (c.1.def_ 24 (d := dd__law_met) rfl) (c.1.fact 24 (f := .glo "_law_met") rfl) (fun _ _ _ _ _ _ us hl => match us, hl with | [_, _], _ => rfl) (fun f fd F => ok__law_met T F)
  have D__law_late : Kept P w K mg base 1 "_law_late" ["cause", "effect", "n", "rows"] (spLateL K) := kept_of (st := s__law_late) X G (c.1.def_ 25 (d := dd__law_late) rfl) (c.1.fact 25 (f := .glo "_law_late") rfl) (fun _ _ _ _ _ _ us hl => match us, hl with | [_, _, _, _], _ => rfl) (fun f fd F => ok__law_late T F)
  have D__law_ahead : Kept P w K mg base 1 "_law_ahead" ["one", "other", "rows"] (spAhL K) := kept_of (st := s__law_ahead) X G (c.1.def_ 26 (d := dd__law_ahead) rfl) (c.1.fact 26 (f := .glo "_law_ahead") rfl) (fun _ _ _ _ _ _ us hl => match us, hl with | [_, _, _], _ => rfl) (fun f fd F => ok__law_ahead T F)
  have D_is_watch : Kept P w K mg base 2 "is_watch" ["watch"] (spIsW K) := kept_of (st := s_is_watch) X G (c.1.def_ 0 (d := dd_is_watch) rfl) (c.1.fact 0 (f := .glo "is_watch") rfl) (fun _ _ _ _ _ _ us hl => match us, hl with | [_], _ => rfl) (fun f fd F => ok_is_watch T D_is_watching F)
  have D__law_pick : Kept P w K mg base 2 "_law_pick" ["d", "row"] (spPick K) := kept_of (st := s__law_pick) X G (c.1.def_ 8 (d := dd__law_pick) rfl) (c.1.fact 8 (f := .glo "_law_pick") rfl) (fun _ _ _ _ _ _ us hl => match us, hl with | [_, _], _ => rfl) (fun f fd F => ok__law_pick T D__law_draw F)
  have D__law_pop : Kept P w K mg base 2 "_law_pop" ["d", "row"] spPop := kept_of (st := s__law_pop) X G (c.1.def_ 9 (d := dd__law_pop) rfl) (c.1.fact 9 (f := .glo "_law_pop") rfl) (fun _ _ _ _ _ _ us hl => match us, hl with | [_, _], _ => rfl) (fun f fd F => ok__law_pop T D__law_draw F)
  have D__law_rare : Kept P w K mg base 2 "_law_rare" ["d", "many"] spRare := kept_of (st := s__law_rare) X G (c.1.def_ 10 (d := dd__law_rare) rfl) (c.1.fact 10 (f := .glo "_law_rare") rfl) (fun _ _ _ _ _ _ us hl => match us, hl with | [_, _], _ => rfl) (fun f fd F => ok__law_rare T D__law_draw F)
  have D__law_marks_of : Kept P w K mg base 3 "_law_marks_of" ["d"] spMarksOf := kept_of (st := s__law_marks_of) X G (c.1.def_ 16 (d := dd__law_marks_of) rfl) (c.1.fact 16 (f := .glo "_law_marks_of") rfl) (fun _ _ _ _ _ _ us hl => match us, hl with | [_], _ => rfl) (fun f fd F => ok__law_marks_of T D__law_draw D__law_pop D__law_pool F)
  have D__law_wide_shown : Kept P w K mg base 3 "_law_wide_shown" ["d", "marks"] (spShown K) := kept_of (st := s__law_wide_shown) X G (c.1.def_ 17 (d := dd__law_wide_shown) rfl) (c.1.fact 17 (f := .glo "_law_wide_shown") rfl) (fun _ _ _ _ _ _ us hl => match us, hl with | [_, _], _ => rfl) (fun f fd F => ok__law_wide_shown T D__law_pick F)
  have D__law_drawn_watch : Kept P w K mg base 3 "_law_drawn_watch" ["d", "marks", "many"] (spDWatch K) := kept_of (st := s__law_drawn_watch) X G (c.1.def_ 18 (d := dd__law_drawn_watch) rfl) (c.1.fact 18 (f := .glo "_law_drawn_watch") rfl) (fun _ _ _ _ _ _ us hl => match us, hl with | [_, _, _], _ => rfl) (fun f fd F => ok__law_drawn_watch T D__law_draw D__law_pop D__law_rare F)
  have D__law_bent_watch : Kept P w K mg base 3 "_law_bent_watch" ["d", "watch"] (spBent K) := kept_of (st := s__law_bent_watch) X G (c.1.def_ 21 (d := dd__law_bent_watch) rfl) (c.1.fact 21 (f := .glo "_law_bent_watch") rfl) (fun _ _ _ _ _ _ us hl => match us, hl with | [_, _], _ => rfl) (fun f fd F => ok__law_bent_watch T D__law_draw D__law_pick D__law_with F)
  obtain ⟨cx, cd⟩ := He.ba c.2.1
  obtain ⟨cdb, cdp⟩ := He.ba cd
  obtain ⟨x1, cx⟩ := He.ba cx
  obtain ⟨xb, xp⟩ := He.ba cx
  have WX : WTx K (He.ga K "Watcher") := ⟨He.cls_ok (c.1.fact 43 (f := .cls "Watcher") rfl), He.noat_ok (c.1.fact 44 (f := .noat "Watcher" "watch") rfl), He.noat_ok (c.1.fact 45 (f := .noat "Watcher" "here") rfl), He.noat_ok (c.1.fact 46 (f := .noat "Watcher" "has_broken") rfl)⟩
  obtain ⟨fdI, FI⟩ := c.1.def_ 30 (d := dd_wi) rfl
  obtain ⟨fdC, FC⟩ := c.1.def_ 31 (d := dd_wc) rfl
  obtain ⟨fdB, FB⟩ := He5.DefA.funD (d := dd_wb) c.2.2.1 cdb
  obtain ⟨fdP, FP⟩ := He5.DefA.funD (d := dd_wp) c.2.2.2 cdp
  have mC := He.meth_ok (c.1.fact 48 (f := .meth "Watcher" "__call__") rfl)
  have bC : Binds K fdC ["self", "shown"] [] := FunD.bindsN (ps := ["self", "shown"]) FC fun _ _ _ _ _ _ us hl => match us, hl with | [_, _], _ => rfl
  have okC := ok_wc (P := P) (w := w) (mg := mg) (base := base) WX D_place_behind FC
  have Wc : Wch P w K mg base (He.ga K "Watcher") (He.ma K (He.ga K "Watcher") "__init__") (He.ma K (He.ga K "Watcher") "__call__") (paX K "broken") (gaX K "broken") fdI fdB :=
    { mgC := He.glo_ok X G (c.1.fact 42 (f := .glo "Watcher") rfl), cl := WX.cl, mk_ := He.mkr_ok (c.1.fact 47 (f := .mkr "Watcher") rfl), fI_ := ok_wi WX FI,
      bI := FunD.bindsN (ps := ["self", "watch"]) FI fun _ _ _ _ _ _ us hl => match us, hl with | [_, _], _ => rfl,
      call := ⟨mC.1, mC.2, x1⟩,
      fC_ := fun A outer s H us vs Q E hr e0 r hs => (FnOk.raw okC bC .nil) A outer s H us vs Q E hr e0 r (by show spWC K (He.ga K "Watcher") (vs ++ []) H Q E; rw [List.append_nil]; exact hs),
      pr := prB_ok xb,
      fB_ := ok_wb WX FB,
      bB := FunD.bindsN (ps := ["self"]) FB fun _ _ _ _ _ _ us hl => match us, hl with | [_], _ => rfl }
  have Wp : WchP P w K mg base (He.ga K "Watcher") (paX K "place") (gaX K "place") fdP :=
    { pr := prB_ok xp, fA_ := ok_wp WX FP, bA := FunD.bindsN (ps := ["self"]) FP fun _ _ _ _ _ _ us hl => match us, hl with | [_], _ => rfl }
  have D__law_breaks_where : Kept P w K mg base 3 "_law_breaks_where" ["watch", "rows", "due"] (spBrW K) := kept_of (st := s__law_breaks_where) X G (c.1.def_ 27 (d := dd__law_breaks_where) rfl) (c.1.fact 27 (f := .glo "_law_breaks_where") rfl) (fun _ _ _ _ _ _ us hl => match us, hl with | [_, _, _], _ => rfl) (fun f fd F => ok__law_breaks_where T D__law_is_bool Wc F)
  obtain ⟨fdS, FS⟩ := c.1.def_ 14 (d := dd__law_same) rfl
  have gS := He.glo_ok X G (c.1.fact 14 (f := .glo "_law_same") rfl)
  have bS : Binds K fdS ["told", "due"] [] := FunD.bindsN (ps := ["told", "due"]) FS fun _ _ _ _ _ _ us hl => match us, hl with | [_, _], _ => rfl
  have D__law_same : Kept P w K mg base 7 "_law_same" ["told", "due"] (spSm K 5) := ⟨_, fdS, sm_ok T D__law_is_int 5 FS gS bS, gS, FS.kp, bS⟩
  have D__law_looked : Kept P w K mg base 8 "_law_looked" ["watcher", "here", "fell"] (spLook (He.ga K "Watcher")) := kept_of (st := s__law_looked) X G (c.1.def_ 22 (d := dd__law_looked) rfl) (c.1.fact 22 (f := .glo "_law_looked") rfl) (fun _ _ _ _ _ _ us hl => match us, hl with | [_, _, _], _ => rfl) (fun f fd F => ok__law_looked T D__law_same D__law_is_bool Wc Wp F)
  have D__law_made_ones : Kept P w K mg base 8 "_law_made_ones" ["d", "one", "other", "marks"] (spOnes K) := kept_of (st := s__law_made_ones) X G (c.1.def_ 28 (d := dd__law_made_ones) rfl) (c.1.fact 28 (f := .glo "_law_made_ones") rfl) (fun _ _ _ _ _ _ us hl => match us, hl with | [_, _, _, _], _ => rfl) (fun f fd F => ok__law_made_ones T D_never D_within D_order D__law_draw D__law_pick D__law_same D__law_wide_shown D__law_met D__law_late D__law_ahead D__law_breaks_where F)
  have D__law_by_turns : Kept P w K mg base 9 "_law_by_turns" ["d", "watches", "marks"] (spTurns K) := kept_of (st := s__law_by_turns) X G (c.1.def_ 23 (d := dd__law_by_turns) rfl) (c.1.fact 23 (f := .glo "_law_by_turns") rfl) (fun _ _ _ _ _ _ us hl => match us, hl with | [_, _, _], _ => rfl) (fun f fd F => ok__law_by_turns T D__law_draw D__law_watch_step D__law_same D__law_wide_shown Wc D__law_looked F)
  exact ok_law T D_is_watch D__law_begin D__law_draw D__law_pop D__law_rare D__law_is_bool D__law_marks_of D__law_drawn_watch D__law_is_watch D__law_bent_watch D__law_by_turns D__law_made_ones F
end Mt
open PySem PySem.W PySem.Calls PyProof.Rows
set_option maxHeartbeats 0 in
theorem PySem.Challenge.cw_meantrace_k74_watches_walked_holds : PySem.Challenge.rw_meantrace_k74_watches_walked.Holds := by
  w_on; o_law
  refine HandSHeadRun.head_any (r := OpenLaw.row PySem.Challenge.rw_meantrace_k74_watches_walked) (q := view (OpenLaw.row PySem.Challenge.rw_meantrace_k74_watches_walked).prog [33]) (H := Mt.hk) (ob := Mt.ob) (M := 3000) (loose := Mt.names) (d := HandSHeadRun.topDef (OpenLaw.row PySem.Challenge.rw_meantrace_k74_watches_walked).prog 33) (kwd := []) Mt.ob_eq
    (by kernel_rfl) (fun s => by kernel_rfl) Mt.run (by kernel_rfl) (by kernel_rfl) (by kernel_rfl) (by rfl) (by first | assumption | decide +kernel) (by decide +kernel) ⟨rfl, rfl, rfl, rfl, rfl, by decide +kernel⟩ ?hw ?hc
  case hw => w_witness2
  case hc =>
    refine L2.walk_ofE (l := PySem.Challenge.rw_meantrace_k74_watches_walked) (n := 63) (k := 10) (x := "script") (CX := L2.CX0) rfl (by decide) (by kernel_rfl) ⟨rfl, by decide, by decide⟩ ?F (fun _ _ _ _ z => z)
    intro w mg fa h Y G hmg0
    obtain ⟨K, KX, c⟩ := Y
    have hmg : mg ("law" : PySem.Str) = some (.ref fa) := by
      have e : (HandSHeadRun.topDef (OpenLaw.row PySem.Challenge.rw_meantrace_k74_watches_walked).prog 33).name = ("law" : PySem.Str) := by kernel_rfl
      rw [← e]
      exact hmg0
    obtain ⟨fd, hb, hF⟩ := Mt.facts (P := (PySem.Challenge.rw_meantrace_k74_watches_walked).prog) (w := w) KX G hmg c
    exact ⟨K, fd, Mt.spLaw K, KX, hb, fun H a ns hl hO hS => ⟨a, ns, rfl, hS, hl, fun _ => rfl⟩, hF⟩
