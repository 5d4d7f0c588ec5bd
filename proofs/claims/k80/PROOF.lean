import PyProof.Rows.All
import HandS.DictComp
import Wide.All
import OpenK.AllK
import Wide.FinOn
import KE.KStateDown
import HandS.ForMost
import HandS.Wide
import HandS.IsInst
import HandS.Walk
import HandS.Style
import HandS.Evl
import HandS.StrMore
import HandS.Exc
import HandS.WordsExc
import HandS.Defaults
import HandS.Head0
import HandS.Head1
import HandS.Head2
import HandS.HeadEnd
import HandS.HeadHook1
import HandS.HeadHook2
import HandS.Gcd
import HandS.Head3
import HandS.Star
import HandS.RaiseMore
import HandS.AnyAll
import HandS.Conv
import HandS.More
import HandS.Small
import HandS.HeadHook3
import HandS.HeadHook4
import HandS.HeadWalk
import HandS.EndTab
import PyProof.GenCompT
import PyProof.TupleOfGen
import PyProof.WalksPairs
import KE.KTupSum
import KE.DataMinMax
import HandS.SortKw
import HandS.TupAny
import HandS.TupMul
import KE.KDictKeyed
import KE.SortData
import KE.KDictSum
import KE.KDictPairs
import HandS.Zip
import HandS.Codes
import HandS.TryElse
import HandS.HeadNt
import HandS.Property
import HandS.SetBool
import HandS.SetKeys
import HandS.Nested
import HandS.ExcInit
import HandS.ExcField
import HandS.ExcIs
import HandS.FStr
import KE.KExcSuper
import KE.KSuper
import HandS.TupSets
import HandS.ExcCtx
import HandS.Hot
import HandS.HotCalls
import HandS.ExcOwn
import HandS.ExcInitHot
import KE.KIsAll
import KE.GoesMore
import PyProof.EnumMake
import PyProof.Draws
import PyProof.EnumFor
import HandS.GenList
import HandS.GenCall
import HandS.GenBody
import HandS.Comp
import PyProof.CollectWalk
import HandS.Lambda
import PySem.Challenge.RW_meantrace_k80_whole_rates
set_option Elab.async false
set_option linter.all false
set_option maxRecDepth 100000
/-! Our own words over the hand layer: defs of the top by name, the draws' state, heaps that go on. -/
namespace Mt
open PySem PySem.Spec PyProof.Rows L2
section
variable {P : Program} {w : World} {K : PySem.W.Frag} {mg : Str → Option Value} {base : Heap}
abbrev FnP (K : PySem.W.Frag) (x : Str) (st : Stmt) (f : Addr) (fd : FuncData) : Prop := FunD K x x (defArgs st) (defBody st) (defScope st) [] [] f fd
/-- a def that keeps its promise -/
def Kept (P : Program) (w : World) (K : PySem.W.Frag) (mg : Str → Option Value) (base : Heap) (k : Nat) (x : Str) (ps : List Str) (sp : Sp) : Prop :=
  ∃ f fd, FnOk P w K mg base CX0 k f fd ps sp ∧ mg x = some (.ref f) ∧ PySem.W.keepIn K (.ref f) = true ∧ Binds K fd ps []
/-- what the head tells: facts by names, defs, one more word of one's own -/
abbrev AlM : Type := He.AlD × Bool
def obsM (n : Nat) (fa : List He.Fa) (fn : List He.DefD) (ex : PySem.W.Frag → Bool) (g : Addr → Option Obj) : AlM := (He.obsDG n fa fn g, ex (He.frG g (He.asD g n)))
def SaysM (fa : List He.Fa) (fn : List He.DefD) (ex : PySem.W.Frag → Bool) (K : PySem.W.Frag) : Prop := He.SaysD fa fn K ∧ ex K = true
def hookM (n : Nat) (fa : List He.Fa) (fn : List He.DefD) (ex : PySem.W.Frag → Bool) : PySem.W.Hook where
  α := AlM
  obs := fun s => obsM n fa fn ex s.heap.get?
  val := fun _ => (He.valD fn, true)
  says := fun _ h => ∃ K : PySem.W.Frag, K.In h ∧ SaysM fa fn ex K
  of := fun _ _ e => ⟨_, He.frG_in, congrArg (fun z : AlM => z.1) e, congrArg (fun z : AlM => z.2) e⟩
  keeps := fun _ _ _ ⟨K, hK, c⟩ k => ⟨K, PySem.W.Frag.In.keeps hK k, c⟩
theorem obsM_eq {n : Nat} {fa : List He.Fa} {fn : List He.DefD} {ex : PySem.W.Frag → Bool} {g : Addr → Option Obj} {s : Shared} (h : ∀ a, g a = s.heap.get? a) : obsM n fa fn ex g = (hookM n fa fn ex).obs s := by
  have e : g = s.heap.get? := funext h
  rw [e] <;> rfl
theorem kept_of {h : Heap} (X : K.In h) (G : h.Ns mainGlobals mg) {x : Str} {ps : List Str} {st : Stmt} {k : Nat} {sp : Sp}
    (hd : ∃ fd, FnP K x st (He.ga K x) fd) (hg : (He.Fa.glo x).ok K = true)
    (hb : ∀ (kV doc pm : Value) (an : Option Addr) (cdv ct : Value) (us : List Value), us.length = ps.length → bindArgs (PySem.W.fnOf x x (defArgs st) (defBody st) (defScope st) .none kV doc pm an cdv ct) ⟨us, []⟩ = pure (ps.zip us))
    (ok : ∀ f fd, FnP K x st f fd → FnOk P w K mg base CX0 k f fd ps sp) : Kept P w K mg base k x ps sp := by
  obtain ⟨fd, F⟩ := hd
  exact ⟨_, fd, ok _ fd F, He.glo_ok X G hg, F.kp, F.bindsN hb⟩
end
section
variable {X : Cx}
theorem pe_d {k : Nat} {x : Str} {ps : List Str} {sp : Sp} {e : Expr} {es : List Expr} {t : TA} {p pos : Pos} (D : Kept X.prog X.w X.K X.mg X.base k x ps sp) (hr : Room k X.A) (hg : Gl X x) (ha : PA X (e :: es) t)
    (hdb : (x == ("__debug__" : Str)) = false := by decide) (he : starEach (e :: es) X.env = (false, eval e X.env) :: starEach es X.env := by rfl) (hpl : (backTo pos (starEach es X.env)).any (·.1) = false := by rfl) :
    PE X (.Call (.Name x p) (e :: es) [] pos) (tCall sp [] E0 t) := by
  obtain ⟨f, fd, F, g, kp, b⟩ := D
  exact pe_call F hr hg g kp b .nil pass0 ha hdb he hpl
theorem pe_d0 {k : Nat} {x : Str} {ps : List Str} {sp : Sp} {p pos : Pos} (D : Kept X.prog X.w X.K X.mg X.base k x ps sp) (hr : Room k X.A) (hg : Gl X x) (hdb : (x == ("__debug__" : Str)) = false := by decide) :
    PE X (.Call (.Name x p) [] [] pos) (tCall sp [] E0 tNil) := by
  obtain ⟨f, fd, F, g, kp, b⟩ := D
  exact pe_call0 F hr hg g kp b .nil pass0 hdb
/-- a text of the module; an object of the module -/
theorem pe_gs {x z : Str} {pos : Pos} (h : ∃ t, X.mg x = some (.str z t)) (hg : Gl X x) (hd : (x == ("__debug__" : Str)) = false := by decide) : PE X (.Name x pos) (tC (.str z)) := by
  obtain ⟨t, h⟩ := h
  exact pe_glob hg h ⟨_, rfl⟩ hd
/-- xs[i] op= e reads xs[i] -/
theorem get_list : PGet X (rIxL X.K) := by
  intro pins s σ H o i ov iv Q I ro ri h
  obtain ⟨p, xs, i, z, rfl, rfl, hq, he, q⟩ := h
  cases ro
  obtain ⟨t, rfl⟩ := ri
  obtain ⟨its, r, pl, hz⟩ := I.list hq
  obtain ⟨j, h1, h2, h3, h4, h5⟩ := atI_get he
  obtain ⟨w, ew, rw'⟩ := r.get h2
  have hl := r.length
  have hn := line63
  have fin : EP X pins σ Q w s := ⟨z, H, I, rw', q⟩
  by_cases h0 : 0 ≤ i
  · have hj : i.toNat = j := by
      rw [seqIndex_of h0 h5] at h1
      exact Option.some.inj h1
    exact wpAny_mono (wpAny_getItem_list (Q := fun r s' => r = w ∧ EP X pins σ Q r s') pl.isList h0 (by omega) (by rw [hj]; simpa using ew) ⟨rfl, fin⟩) (fun _ _ q => q.2) (fun _ _ q => q)
  · have hj : (i + (its.toArray.size : Int)).toNat = j := by
      rw [seqIndex_neg (by omega) h4] at h1
      rw [List.size_toArray, ← hl]
      exact Option.some.inj h1
    exact wpAny_mono (wpAny_getItem_list_neg (Q := fun r s' => r = w ∧ EP X pins σ Q r s') pl.isList (by omega) (by rw [List.size_toArray] <;> omega) (by omega) (by rw [hj]; simpa using ew) ⟨rfl, fin⟩) (fun _ _ q => q.2) (fun _ _ q => q)
end

/-! ### the draws: [cells, place, rest, seed] at D -/
structure DrawAt (S D : Addr) (H : Hp) : Prop where
  ne : S ≠ D
  cells : ∃ cs : List Int, H S = some (.lst (cs.map V.int))
  at_ : ∃ i r c : Int, 0 ≤ i ∧ H D = some (.lst [.ref S, .int i, .int r, .int c])
/-- all else that is tracked stays -/
def Keep (D : Addr) (H H' : Hp) : Prop := ∀ b o, H b = some o → b ≠ D → H' b = some o
def Go (S D : Addr) (H H' : Hp) : Prop := DrawAt S D H' ∧ Keep D H H'
theorem Keep.refl {D : Addr} {H : Hp} : Keep D H H := fun _ _ h _ => h
theorem Keep.trans {D : Addr} {H H1 H2 : Hp} (a : Keep D H H1) (b : Keep D H1 H2) : Keep D H H2 := fun x o h n => b x o (a x o h n) n
theorem Go.trans {S D : Addr} {H H1 H2 : Hp} (a : Go S D H H1) (b : Go S D H1 H2) : Go S D H H2 := ⟨b.1, a.2.trans b.2⟩
theorem Keep.set {D : Addr} {H H' : Hp} {o : HO} (k : Keep D H H') : Keep D H (upd H' D o) := fun b u h n => by
  rw [upd_ne n]
  exact k b u h n
theorem DrawAt.set {S D : Addr} {H : Hp} (d : DrawAt S D H) {i r c : Int} (h : 0 ≤ i) : DrawAt S D (upd H D (.lst [.ref S, .int i, .int r, .int c])) :=
  ⟨d.ne, d.cells.imp fun cs h => by rw [upd_ne d.ne]; exact h, ⟨i, r, c, h, upd_same⟩⟩
theorem DrawAt.new {S D p : Addr} {H : Hp} {o : HO} (d : DrawAt S D H) (h : H p = none) : DrawAt S D (upd H p o) := by
  obtain ⟨cs, h1⟩ := d.cells
  obtain ⟨i, r, c, h0, h2⟩ := d.at_
  exact ⟨d.ne, ⟨cs, by rw [upd_ne (ne_of_none h1 h)]; exact h1⟩, ⟨i, r, c, h0, by rw [upd_ne (ne_of_none h2 h)]; exact h2⟩⟩
theorem Keep.new {D p : Addr} {H : Hp} {o : HO} (h : H p = none) : Keep D H (upd H p o) := fun b u e _ => by
  rw [upd_ne (ne_of_none e h)]
  exact e
theorem Go.new {S D p : Addr} {H : Hp} {o : HO} (d : DrawAt S D H) (h : H p = none) : Go S D H (upd H p o) := ⟨d.new h, Keep.new h⟩
theorem Go.same {S D : Addr} {H H' : Hp} (d : DrawAt S D H) (h : Same H H') : Go S D H H' := by
  obtain ⟨cs, h1⟩ := d.cells
  obtain ⟨i, r, c, h0, h2⟩ := d.at_
  exact ⟨⟨d.ne, ⟨cs, h _ _ h1⟩, ⟨i, r, c, h0, h _ _ h2⟩⟩, fun b o e _ => h b o e⟩
theorem Go.refl {S D : Addr} {H : Hp} (d : DrawAt S D H) : Go S D H H := ⟨d, Keep.refl⟩
/-- a fresh place stays fresh when looked at from behind -/
theorem DrawAt.free {S D p : Addr} {H : Hp} (d : DrawAt S D H) (h : H p = none) : p ≠ D ∧ p ≠ S := by
  obtain ⟨cs, h1⟩ := d.cells
  obtain ⟨i, r, c, h0, h2⟩ := d.at_
  exact ⟨(ne_of_none h2 h).symm, (ne_of_none h1 h).symm⟩
theorem Go.free {S D p : Addr} {H H' : Hp} (g : Go S D H H') (d : DrawAt S D H) (h : H' p = none) : H p = none := by
  cases q : H p with
  | none => rfl
  | some o =>
    by_cases e : p = D
    · exact absurd e (g.1.free h).1
    · rw [g.2 p o q e] at h
      cases h
def spDraw : Sp := fun vs H Q _ => ∃ (S D : Addr) (many : Int), vs = [.ref D, .int many] ∧ CDivW 0 many ∧ DrawAt S D H ∧ ∀ H' v, 0 ≤ v → v < many → Go S D H H' → Q (.int v) H'
end Mt
/-! ### {k: v for x in xs}, the keys tuples -/
namespace DCK
open PySem PySem.Spec PyProof.Rows L2
section
variable {X : Cx} {pins : List (Addr × Obj)} {σ : L2.St} {H H' : Hp} {s : Shared} {D : Addr} {y v : V} {u r : Value}
/-- a pair goes into the dict that a block fills -/
theorem put_in {E : Value → Shared → Prop} {Q : Unit → Shared → Prop} (room : X.A.units < cLine) (I : Inv X pins σ H s) (p : DPut H D y v H') (hy : RelV y u) (hv : RelV v r) (q : ∀ s2, Inv X pins σ H' s2 → Q () s2) : wpAny (model X.prog X.w) X.A (dictSet D u r) Q E s := by
  rcases p with ⟨kvs, k, hD, rfl, few, rfl⟩ | ⟨kvs, k, b, hD, rfl, hb, few, rfl⟩
  · exact d_dictSet I hD few hy hv q
  · obtain rfl : u = Value.ref b := hy
    obtain ⟨z, nosys, ps, rel, dd⟩ := dt_of I.hok hD
    have small : ps.length ≤ sizeLine := by
      rw [← Paired.length rel]
      exact z
    have small2 : (putK kvs k v).length ≤ sizeLine := by
      have := length_putK kvs k v
      omega
    refine wpAny_dictSet_heap (hsz := small) (show (tupleKind (mixKind X.prog X.w)).room X.A from room) (key_of I.hok hb) dd fun h2 dd2 same => q _ ?_
    obtain ⟨o, es, ep, ho, c1, c2, c3, _, c4⟩ := dd2
    refine d_write I (by rw [hD]; exact True.intro) same ⟨o, ho⟩ ⟨small2, nosys, _, (rel.put k hb hv).keeps fun c ys ec => ?_, o, es, ep, ho, c1, c2, c3, c4⟩
    rw [upd_ne (ne_of ec hD (fun z => nomatch z))]
    exact ec
end
section
variable {X : Cx}
/-- as tDc, without tests, keys of any form that DPut knows -/
def tDcK (wi : TI) (g : TG) (tk tv : TE) (vs : List Nat) : TE := fun σ H Q => wi σ H fun J H1 => ∀ D, H1 D = none →
  ∃ W : Nat → Nat → Hp → Prop, (∃ m, W 0 m (upd H1 D (.dK []))) ∧ ∀ i m H, W i m H →
    (J.stop i H ∧ Q (.ref D) H) ∨ (J.go i H ∧ ∃ Nx : Hp → Prop, (∀ H2, Nx H2 → ∃ m2, m2 < m ∧ W (i + 1) m2 H2) ∧
      ∀ x H2, J.yld i H x H2 → g x (wipe σ vs) H2 fun σ3 H3 => wipe σ3 vs = wipe σ vs ∧ tk σ3 H3 fun y H4 => tv σ3 H4 fun z H5 => ∃ H6, DPut H5 D y z H6 ∧ Nx H6)
abbrev BX (X : Cx) (scope : Scope) (q : Shared × Hp × Addr × List (Str × Addr) × List Addr) : Cx := X.blk q.1 q.2.1 scope (compEnvC scope q.2.2.2.1 q.2.2.1 X.env) q.2.2.2.2
theorem run_dcT {pins : List (Addr × Obj)} {σ : L2.St} {H : Hp} {s : Shared} {Q : VK} {kx vx tg iter : Expr} {scope : Scope} {own : List (Str × Nat)} {pos pos2 : Pos} {wi : TI} {g : TG} {tk tv : TE} {use : Option (Value → Sem Unit)} {Qf : Value → Shared → Prop}
    (calm : X.calm = true) (nd : X.N.Nodup) (I : Inv X pins σ H s) (hi : PI X tg iter wi) (ok : BlkOk X.N X.env.scope scope own) (room : X.A.units < cLine)
    (pg : ∀ q, PG (BX X scope q) tg g) (pk : ∀ q, PE (BX X scope q) kx tk) (pv : ∀ q, PE (BX X scope q) vx tv) (plain : ∀ x, foldedSetIterable iter X.env x = pure x) (h : tDcK wi g tk tv (own.map (·.2)) σ H Q)
    (done : ∀ D L s2 m H2, Inv X pins σ H2 s2 → Q (.ref D) H2 → s2.heap.Ns L m → FpOk X pins H2 L → compPost (model X.prog X.w) X.A X.xe use Qf (.ref D) L (.ok .next) s2) :
    wpAny (model X.prog X.w) X.A (comprehension (.DictComp kx vx [⟨tg, iter, [], 0⟩] scope pos) scope X.env pos2 newDict false (eval iter X.env) use) Qf X.xe s := by
  have lk : ∀ y ∈ scope.names, y.2 = .free → ∃ c, X.env.cells.lookup y.1 = some c := fun y hy e => (ok.free y hy e).elim (fun k => I.ok.has _ (.inl k)) (fun k => I.ok.has _ (.inr k))
  refine wpAny_comprehension_free (use := use) rfl plain (closure_ok lk) ok.kind (fun y hy e => by rw [ok.uniq y hy, e]) (thn (hi.run pins s σ H _ I h) fun _ s1 h1 => thn h1 fun _ s2 h2 => ?_)
  obtain ⟨it, fp, tn, J, H2, rfl, I2, T, st2, f2, fill⟩ := h2
  refine wpAny_newObj_type (newEnv_comp ?_)
  obtain ⟨W, ⟨m0, w0⟩, turn⟩ := fill _ (I2.hok.fresh (Nat.le_refl _))
  obtain ⟨D, eD⟩ : ∃ D, D = s2.heap.objs.size := ⟨_, rfl⟩
  obtain ⟨hp, ehp⟩ : ∃ hp, hp = s2.heap.push { cls := .type "dict", data := .dict #[] } := ⟨_, rfl⟩
  rw [← eD] at w0 turn ⊢
  rw [← ehp]
  -- the empty dict stands
  have old : ∀ b o, s2.heap.get? b = some o → hp.get? b = some o := fun b o e => by
    rw [ehp]
    exact Heap.get?_push_of_some _ e
  have big : hp.objs.size = D + 1 := by rw [ehp, Heap.size_push, eD]
  have I3 : Inv X pins σ (upd H2 D (.dK [])) { s2 with heap := hp } := by
    subst eD ehp
    exact I2.laid (t' := s2.toks) (fun b o e => Heap.get?_push_of_some _ e) (Nat.le_refl _) (dk_empty s2.heap I2.big)
  have low : ∀ b ∈ fp, b < D := fun b hb => by
    obtain ⟨o, e, _⟩ := T.obj _ _ st2 b hb
    rw [eD]
    exact Heap.lt_size e
  have f3 : ∀ b ∈ fp, FpOk X pins (upd H2 D (.dK [])) b ∧ b < ({ s2 with heap := hp } : Shared).heap.objs.size := fun b hb => by
    have lb := low b hb
    refine ⟨⟨?_, (f2 b hb).2⟩, ?_⟩
    · rw [upd_ne (Nat.ne_of_lt lb)]
      exact (f2 b hb).1
    · show b < hp.objs.size
      rw [big]
      exact Nat.lt_succ_of_lt lb
  have st3 : tn 0 hp := T.keep _ _ _ st2 fun b _ o e => old b o e
  obtain ⟨s3, es3⟩ : ∃ s3 : Shared, s3 = { s2 with heap := hp } := ⟨_, rfl⟩
  have eh3 : s3.heap = hp := by rw [es3]
  rw [← es3] at I3 f3
  obtain ⟨H3, eH3⟩ : ∃ H3, H3 = upd H2 D (.dK []) := ⟨_, rfl⟩
  rw [← eH3] at I3 f3 w0
  have gone : ∀ b ∈ fp, H3 b = none := fun b hb => (f3 b hb).1.1
  have I4 := block_start I3 ok nd f3
  obtain ⟨cl, ecl⟩ : ∃ cl, cl = cellsFrom (s3.heap.objs.size + 1) scope.names (cloFrom X.env.cells scope.names []) := ⟨_, rfl⟩
  have kg := pg (s3, H3, s3.heap.objs.size, cl, fp)
  have kk := pk (s3, H3, s3.heap.objs.size, cl, fp)
  have kv := pv (s3, H3, s3.heap.objs.size, cl, fp)
  rw [← ecl] at I4
  obtain ⟨ce, ece⟩ : ∃ ce, ce = compEnvC scope cl s3.heap.objs.size X.env := ⟨_, rfl⟩
  have ceL : ce.locals = s3.heap.objs.size := by rw [ece]; rfl
  obtain ⟨s4, es4⟩ : ∃ s4 : Shared, s4 = { s3 with heap := pushCells (hp.push { cls := .type "dict", data := .dict #[] }) scope.names } := ⟨_, rfl⟩
  obtain ⟨B, eB⟩ : ∃ B, B = X.blk s3 H3 scope ce fp := ⟨_, rfl⟩
  have kg : PG B tg g := by
    rw [eB, ece]
    exact kg
  have kk : PE B kx tk := by
    rw [eB, ece]
    exact kk
  have kv : PE B vx tv := by
    rw [eB, ece]
    exact kv
  have J4 : Inv B [] (wipe σ (own.map (·.2))) H3 s4 := by
    rw [eB, ece, es4]
    rw [← eh3]
    exact I4
  have tn4 : tn 0 s4.heap := T.keep _ _ _ st3 fun b _ o e => by
    rw [es4]
    exact pushCells_keeps _ _ _ _ (Heap.get?_push_of_some _ e)
  have back : ∀ (H5 : Hp) (s6 : Shared) (σ5 : L2.St), Inv B [] σ5 H5 s6 → Inv X pins σ H5 s6 ∧ ∃ m, s6.heap.Ns s3.heap.objs.size m ∧ FpOk X pins H5 s3.heap.objs.size := fun H5 s6 σ5 I6 => by
    subst eB
    have nC : H5 s3.heap.objs.size = none := by
      have z : H5 ce.locals = none := I6.free
      rwa [ceL] at z
    obtain ⟨m, hn, _⟩ := I6.loc
    have hn : s6.heap.Ns ce.locals m := hn
    rw [ceL] at hn
    exact ⟨I3.call' (ch := fp) I6.os I6.base I6.hok I6.bare fun b hb => ⟨(f3 b hb).1.2.2.2.1, (f3 b hb).1.2.1, (f3 b hb).1.2.2.2.2.1, (f3 b hb).1.2.2.2.2.2⟩, m, hn, I3.fpOk (Nat.le_refl _) nC⟩
  have go4 : codeAny (model X.prog X.w) X.A (.compLoop (.DictComp kx vx [⟨tg, iter, [], 0⟩] scope pos) 0 (.ref it) (.ref D) ce) (compPost (model X.prog X.w) X.A X.xe use Qf (.ref D) s3.heap.objs.size) s4 := by
    subst eB
    refine compLoop_anyD (fun n s' => ∃ i H', Inv (X.blk s3 H3 scope ce fp) [] (wipe σ (own.map (·.2))) H' s' ∧ tn i s'.heap ∧ (∀ b ∈ fp, H' b = none) ∧ W i n H') ?_ m0 ⟨0, H3, J4, tn4, gone, w0⟩
    rintro n s5 ⟨i, H5, I5, st5, n5, w5⟩
    have stay : ∀ {σ' : L2.St} {K' : Hp} {s' : Shared}, Inv (X.blk s3 H3 scope ce fp) [] σ' K' s' → (∀ b ∈ fp, K' b = none) → ∀ b ∈ fp, FpOk (X.blk s3 H3 scope ce fp) [] K' b := fun {σ' K' s'} I' hn b hb =>
      ⟨hn b hb, (I'.ok.exf b hb).1, I'.ok.exfs b hb, .inl hb, (I'.ok.exf b hb).2, fun p hp => by simp at hp⟩
    rcases turn i n H5 w5 with ⟨stop, qq⟩ | ⟨go, Nx, hNx, step⟩
    · refine thnF (T.done (X.blk s3 H3 scope ce fp) rfl rfl rfl calm i [] s5 _ H5 (fun _ _ => False) I5 (stay I5 n5) st5 stop) fun r s6 ⟨er, I6⟩ => ?_
      subst er
      obtain ⟨I7, m, hn, free⟩ := back _ _ _ I6
      exact done D _ s6 m H5 I7 qq hn free
    · refine thnF (T.item (X.blk s3 H3 scope ce fp) rfl rfl rfl calm i [] s5 _ H5 (fun _ _ => False) I5 (stay I5 n5) st5 go) fun r s6 ⟨u, er, h6⟩ => ?_
      subst er
      refine thnF h6 fun _ s7 ⟨x, H7, I7, r7, y7, st7, n7⟩ => ?_
      have P7 := I7.pinned (stay I7 n7) (T.obj _ _ st7)
      refine thnF (kg.run _ s7 _ H7 x u _ P7 r7 (step x H7 y7)) fun _ s8 ⟨σ8, H8, I8, hw8, q8⟩ => ?_
      simp only [List.forIn_nil]
      refine wpAny_pure ?_
      simp only [if_true]
      refine thnF (kk.run _ s8 σ8 H8 _ I8 q8) fun k9 s9 ⟨yk, H9, I9, r9, q9⟩ => ?_
      refine thnF (kv.run _ s9 σ8 H9 _ I9 q9) fun v10 s10 ⟨yv, H10, I10, r10, H11, put, nx⟩ => ?_
      refine put_in (X := X.blk s3 H3 scope ce fp) room I10 put r9 r10 fun s11 I11 => ?_
      obtain ⟨m2, lt, w2⟩ := hNx H11 nx
      have pinned : ∀ b ∈ fp, ∀ o, s7.heap.get? b = some o → s11.heap.get? b = some o ∧ H11 b = none := fun b hb o e => by
        have z := I11.pin (b, o) (List.mem_append_right _ (List.mem_append_right _ (mem_pinsAt hb e)))
        exact ⟨z.1, z.2.1⟩
      refine ⟨m2, lt, i + 1, H11, (I11.unpinned (pins := [])).weak (by rw [← hw8, wipe_length]) (fun j v e => ?_), T.keep _ _ _ st7 fun b hb o e => (pinned b hb o e).1, fun b hb => ?_, w2⟩
      · rw [← hw8] at e
        exact (wipe_some e).1
      · obtain ⟨o, e, _⟩ := T.obj _ _ st7 b hb
        exact (pinned b hb o e).2
  have fin := codeAny_compStart_dict go4 (T.self X.A 0 _ _ _ tn4 go4)
  subst es4 es3 ece ecl
  exact fin
theorem pe_dcK {kx vx tg iter : Expr} {scope : Scope} {own : List (Str × Nat)} {pos : Pos} {wi : TI} {g : TG} {tk tv : TE} (calm : X.calm = true) (nd : X.N.Nodup) (hi : PI X tg iter wi) (ok : BlkOk X.N X.env.scope scope own) (room : X.A.units < cLine)
    (pg : ∀ q, PG (BX X scope q) tg g) (pk : ∀ q, PE (BX X scope q) kx tk) (pv : ∀ q, PE (BX X scope q) vx tv) (plain : ∀ x, foldedSetIterable iter X.env x = pure x := by intro _; rfl) :
    PE X (.DictComp kx vx [⟨tg, iter, [], 0⟩] scope pos) (tDcK wi g tk tv (own.map (·.2))) := by
  refine ⟨fun pins s σ H Q I h => ?_⟩
  rw [arm_eval_DictComp]
  refine run_dcT calm nd I hi ok room pg pk pv plain h fun D L s2 m H2 I2 q hn free => ⟨m, hn, fun h2 sb => ?_⟩
  obtain ⟨c0, c1, c2, c3, c4, c5⟩ := free
  exact ⟨.ref D, H2, I2.turned (t' := s2.toks) (fun b o hb e => (sb.2 b hb).trans e) c0 c1 c3 c4 c5, rfl, q⟩
theorem swaps {kx vx : Expr} {gs : List Comprehension} {scope : Scope} {pos py : Pos} {y : Str} {l : Nat} {env : Env} (fn : env.scope.kind = .function) (loc : env.scope.names.lookup y = some .local) (line : (py.line == pos.line) = true)
    (no : (scope.names.any fun (n, k) => n == y && (k == .local || k == .cell)) = false) : swapsWith (.DictComp kx vx gs scope pos) (some (.Name y py)) l env = pure true := by
  have e1 : env.blockKind = .function := by
    unfold Env.blockKind
    rw [fn]
    rfl
  have e2 : env.kindOf y = some .local := loc
  unfold swapsWith
  simp only [e1, e2, no, Expr.pos, line]
  rfl
/-- name = {..}, a local -/
theorem ps_setDcK {i : Nat} {y : Str} {py : Pos} {kx vx tg iter : Expr} {scope : Scope} {own : List (Str × Nat)} {pos spos : Pos} {wi : TI} {g : TG} {tk tv : TE} (calm : X.calm = true) (nd : X.N.Nodup) (hy : X.N[i]? = some y) (loc : X.env.scope.names.lookup y = some .local)
    (sw : swapsWith (.DictComp kx vx [⟨tg, iter, [], 0⟩] scope pos) (some (.Name y py)) spos.line X.env = pure true) (hi : PI X tg iter wi) (ok : BlkOk X.N X.env.scope scope own) (room : X.A.units < cLine)
    (pg : ∀ q, PG (BX X scope q) tg g) (pk : ∀ q, PE (BX X scope q) kx tk) (pv : ∀ q, PE (BX X scope q) vx tv) (plain : ∀ x, foldedSetIterable iter X.env x = pure x := by intro _; rfl) :
    PS X (.Assign [.Name y py] (.DictComp kx vx [⟨tg, iter, [], 0⟩] scope pos) spos) (tAsg (tDcK wi g tk tv (own.map (·.2))) (gName i)) := by
  refine ⟨fun pins s σ H E I h => ?_⟩
  rw [exec_Assign_Name_used _ _ _ _ sw]
  refine wpAny_bind (wpAny_standAt (wpAny_bind ?_))
  have h : tDcK wi g tk tv (own.map (·.2)) σ H (fun x H1 => gName i x σ H1 E.nx) := h
  have r := run_dcT (use := some (assign (.Name y py) X.env)) (Qf := fun _ s2 => SP X pins E .next s2) (pos := pos) (pos2 := firstIterPos [⟨tg, iter, [], 0⟩] pos) calm nd I hi ok room pg pk pv plain h fun D L s2 m H2 I2 q hn free => by
    show wpAny _ _ (assign (.Name y py) X.env (.ref D)) _ _ _
    refine wpAny_assign_Name (store_ok2 (v := V.ref D) I2 nd hy (.inl loc) rfl (fun s3 I3 ⟨a, sb, ha⟩ => ?_) (.inr loc))
    obtain ⟨c0, c1, c2, c3, c4, c5⟩ := free
    have La : L ≠ a := ha.elim (fun z => by rw [z]; exact c1) (fun z e => c4 y a z e.symm)
    exact ⟨m, hn.sameBut sb La, fun h4 sb4 => ⟨_, H2, I3.turned (t' := s3.toks) (fun b o hb e => (sb4.2 b hb).trans e) c0 c1 c3 c4 c5, q⟩⟩
  exact wpAny_bind (thn r fun _ s2 hq => wpAny_pure (wpAny_pure hq))
end
end DCK
/-! ### sorted of tuples, any length; dict(pairs); tuple() with its object known -/
namespace SR
open PySem PySem.Spec PyProof.Rows L2
section
variable {prog : Program} {w : World} {A : Around} {s : Shared}
theorem sorts_single {v : Value} {as : List Addr} (r : Reads s.heap v (.tuple []) as) : PySem.W.SortsAt prog w A s (PySem.W.dataKind s.heap [.tuple []]) [v] := by
  have hal : PySem.W.AllAlike [PyData.tuple []] := fun d hd d' hd' => by
    rw [List.mem_singleton.mp hd, List.mem_singleton.mp hd']
    rfl
  refine ⟨fun u hu => ?_, tuples' true, fun E x y a b Q ha hb hq => ?_, fun h2 => absurd h2 (by simp)⟩
  · rw [List.mem_singleton.mp hu]
    exact ⟨_, PySem.W.dataKind_some hal List.mem_cons_self r⟩
  · obtain ⟨d, as1, hd, ra, rfl⟩ := PySem.W.dataKind_inv ha
    obtain ⟨d', as2, hd', rb, rfl⟩ := PySem.W.dataKind_inv hb
    rw [List.mem_singleton.mp hd] at ra hq
    rw [List.mem_singleton.mp hd'] at rb hq
    have hq' : Q (PySem.W.dataLt (.tuple []) (.tuple [])) s := hq
    rw [PySem.W.dataLt_tuple] at hq'
    cases ra with
    | @tuple l o xs n _ _ h1 h2 h3 h4 =>
      cases rb with
      | @tuple l' o' xs' n' _ _ k1 k2 k3 k4 =>
        have n1 : xs.toList = [] := by
          cases hx : xs.toList with
          | nil => rfl
          | cons z t => rw [hx] at h4; cases h4
        have n2 : xs'.toList = [] := by
          cases hx : xs'.toList with
          | nil => rfl
          | cons z t => rw [hx] at k4; cases k4
        refine PySem.W.kat_lt h1 h3 k1 k3 ?_
        rw [n1, n2]
        have e1 : xs.size = 0 := by rw [← Array.length_toList, n1]; rfl
        have e2 : xs'.size = 0 := by rw [← Array.length_toList, n2]; rfl
        show Q (decide (xs.size < xs'.size)) s
        rw [e1, e2]
        exact hq'
end
section
variable {X : Cx}
/-- what a list of tuples of data holds, when it can be sorted -/
def SrtOk (ds : List PyData) : Prop := PySem.W.AllAlike ds ∧ (PySem.W.Sortable ds ∨ ds = [.tuple []]) ∧ ∀ d ∈ ds, d.depth ≤ 8
def rSrt (K : PySem.W.Frag) : List V → Hp → VK → Prop := fun vs H Q => ∃ (a : Addr) (bs : List (V × PyData)), vs = [V.ref a] ∧ SqL K H a (bs.map (·.1)) ∧ (∀ b ∈ bs, Dp K H b.1 b.2) ∧ SrtOk (bs.map (·.2)) ∧
  ∀ (ys : List (V × PyData)) (p : Addr), ys.Perm bs → H p = none → Q (.ref p) (upd H p (.lst (ys.map (·.1))))
theorem each_vals {bs : List (V × PyData)} {us : List Value} (r : Vals (bs.map (·.1)) us) : PySem.W.EachIs (fun v (b : V × PyData) => RelV b.1 v) us bs := by
  induction bs generalizing us with
  | nil =>
    cases r
    exact .nil
  | cons b t ih =>
    cases r with
    | cons h r => exact .cons h (ih r)
theorem vals_each {bs : List (V × PyData)} {us : List Value} (e : PySem.W.EachIs (fun v (b : V × PyData) => RelV b.1 v) us bs) : Vals (bs.map (·.1)) us := by
  induction e with
  | nil => exact .nil
  | cons h t ih => exact .cons h ih
theorem each_reads {pins : List (Addr × Obj)} {σ : L2.St} {H : Hp} {s : Shared} (I : Inv X pins σ H s) {bs : List (V × PyData)} {us : List Value} (e : PySem.W.EachIs (fun v (b : V × PyData) => RelV b.1 v) us bs) (h : ∀ b ∈ bs, Dp X.K H b.1 b.2) :
    PySem.W.EachIs (fun v (b : V × PyData) => ∃ as, Reads s.heap v b.2 as) us bs := by
  induction e with
  | nil => exact .nil
  | @cons v b us bs r t ih => exact .cons (Dp.reads I b.2 b.1 v (h b List.mem_cons_self) r) (ih fun x hx => h x (List.mem_cons_of_mem _ hx))
theorem cr_srt (hu : X.A.units + 64 < cLine) : CallR X (.builtin "sorted") (rSrt X.K) := by
  intro pins s σ H vs us Q I r q
  obtain ⟨a, bs, rfl, hs, hd, ⟨hal, hk, hdep⟩, q⟩ := q
  rw [Vals.ref1 r]
  obtain ⟨its, rv, hl, hz⟩ := I.list hs
  rw [List.length_map] at hz
  have e := each_vals rv
  have er := each_reads I e hd
  have fin : ∀ out : List Value, out.length = bs.length → PySem.W.EachIs (fun v (b : V × PyData) => RelV b.1 v) out (bs.mergeSort (PySem.W.dataLe false (·.2))) → EP X pins σ Q (.ref (s.heap.objs.size + 1)) { s with heap := sortedAll s.heap its (List.toArray out) } := fun out ho1 ho2 => by
    obtain ⟨ep, he'⟩ := PyProof.Rows.sortedAll_at s.heap its out.toArray
    have hp : (bs.mergeSort (PySem.W.dataLe false (·.2))).Perm bs := List.mergeSort_perm _ _
    exact ⟨.ref _, upd H (s.heap.objs.size + 1) (.lst ((bs.mergeSort (PySem.W.dataLe false (·.2))).map (·.1))), I.laid (t' := s.toks) (fun _ _ => PyProof.Rows.sortedAll_old) (Nat.le_succ _)
      ⟨by rw [List.length_map, hp.length_eq]; exact hz, out, ep, vals_each ho2, he'⟩, rfl, q _ _ hp (I.hok.fresh (Nat.le_succ _))⟩
  rcases hk with hk | h1
  · exact PySem.W.sorted_data (bs := bs) (enc := (·.2)) (R := fun v b => RelV b.1 v) hl.isList e er hal hk hz (fun b hb => by
      have := hdep b.2 (List.mem_map.mpr ⟨b, hb, rfl⟩)
      omega) fin
  · have hlen : its.length = bs.length := e.length
    match its, bs, e, er, hlen, h1, fin, hl, hz with
    | [u], [b], e, er, _, h1, fin, hl, hz =>
      have hb : b.2 = .tuple [] := by
        have : [b.2] = [PyData.tuple []] := h1
        exact (List.cons.inj this).1
      obtain ⟨as, rd⟩ : ∃ as, Reads s.heap u (.tuple []) as := by
        cases er with
        | cons h _ =>
          rw [hb] at h
          exact h
      have rd' : Reads (PySem.W.sortingHeap (PySem.W.copyHeap s.heap [u]) (s.heap.objs.size + 1) [u]) u (.tuple []) as := PyProof.Rows.Reads.keeps (fun _ _ => PySem.W.sorting_copy_old) rd
      have er' : PySem.W.EachIs (fun v (b : V × PyData) => ∃ as, Reads (PySem.W.sortingHeap (PySem.W.copyHeap s.heap [u]) (s.heap.objs.size + 1) [u]) v b.2 as) [u] [b] := .cons ⟨as, by rw [hb]; exact rd'⟩ .nil
      refine PySem.W.sorted_vals (κ := PySem.W.dataKind (PySem.W.sortingHeap (PySem.W.copyHeap s.heap [u]) (s.heap.objs.size + 1) [u]) [.tuple []]) hl.isList (sorts_single (s := { s with heap := PySem.W.sortingHeap (PySem.W.copyHeap s.heap [u]) (s.heap.objs.size + 1) [u] }) rd') hz ?_
      refine fin _ (by rw [PySem.W.sortVals_length false rfl]; rfl) ?_
      have := PySem.W.sortVals_data (h' := PySem.W.sortingHeap (PySem.W.copyHeap s.heap [u]) (s.heap.objs.size + 1) [u]) false e er' hal
      rw [show List.map (fun x : V × PyData => x.2) [b] = [PyData.tuple []] from h1] at this
      exact this
    | [], [], _, _, _, h1, _, _, _ => exact absurd h1 (by simp)
    | [], _ :: _, _, _, hlen, _, _, _, _ => exact absurd hlen (by simp)
    | _ :: _, [], _, _, hlen, _, _, _, _ => exact absurd hlen (by simp)
    | [_], _ :: _ :: _, _, _, hlen, _, _, _, _ => exact absurd hlen (by simp)
    | _ :: _ :: _, [_], _, _, hlen, _, _, _, _ => exact absurd hlen (by simp)
    | _ :: _ :: _, _ :: _ :: _, _, _, _, h1, _, _, _ => exact absurd h1 (by simp)
/-- a tuple whose object is known, one without attributes of its own -/
def TupK (H : Hp) (a : Addr) (ys : List V) : Prop := ∃ o : Obj, H a = some (.frz o (.tup ys)) ∧ o.dict = none
theorem TupK.sqt {K : PySem.W.Frag} {H : Hp} {a : Addr} {ys : List V} (h : TupK H a ys) : SqT K H a ys := let ⟨o, h, _⟩ := h; .inl (.inr ⟨o, h⟩)
theorem cr_tupleK : CallR X (.type "tuple") (fun xs H Q => ∃ p ys, xs = [.ref p] ∧ SqL X.K H p ys ∧ ∀ l (o : Obj), H l = none → o.dict = none → Q (.ref l) (upd H l (.frz o (.tup ys)))) := by
  intro pins s σ H xs us Q I r h
  obtain ⟨p, ys, rfl, hq, q⟩ := h
  rw [Vals.ref1 r]
  obtain ⟨its, r', pl, hz⟩ := I.list hq
  have hlen := r'.length
  refine call_tuple_list pl.isList (fun h' kp => ?_) (by simp only [List.size_toArray] <;> omega)
  have I1 : Inv X pins σ H { s with heap := h' } := I.kept (t' := s.toks) kp
  have I2 : Inv X pins σ (upd H h'.objs.size (.frz { cls := .type "tuple", data := .seq its.toArray } (.tup ys))) { s with heap := h'.push { cls := .type "tuple", data := .seq its.toArray } } :=
    I1.laid (t' := s.toks) (fun b o e => Heap.get?_push_of_some _ e) (Nat.le_refl _) (show ObjOk X.prog X.w _ _ _ (.frz _ (.tup ys)) from ⟨Heap.get?_push_size _ rfl, hz, its, r', IsTup.new _ _⟩)
  exact ⟨.ref h'.objs.size, _, I2, rfl, q _ _ (I1.hok.fresh (Nat.le_refl _)) rfl⟩
def tTupK (t : TA) : TE := fun σ H Q => t σ H fun xs H1 => xs.length ≤ sizeLine ∧ ∀ p (o : Obj), H1 p = none → o.dict = none → Q (.ref p) (upd H1 p (.frz o (.tup xs)))
theorem pe_tupK {es : List Expr} {t : TA} {pos : Pos} {x1} (h : PA X es t) : PE X (.Tuple es x1 pos) (tTupK t) := by
  refine ⟨fun pins s σ H Q I hq => ?_⟩
  refine wpAny_Tuple_spliced (thn (h.run pos pins s σ H _ I hq) fun us s1 ⟨xs, H1, I1, r, z, q⟩ => ⟨by rw [← r.length]; exact z, ?_⟩)
  have hf : H1 s1.heap.objs.size = none := I1.hok.fresh (Nat.le_refl _)
  exact ⟨.ref s1.heap.objs.size, upd H1 s1.heap.objs.size (.frz { cls := .type "tuple", data := .seq us.toArray } (.tup xs)), I1.laid (t' := s1.toks) (fun b u e => Heap.get?_push_of_some _ e) (Nat.le_refl _)
    ⟨Heap.get?_push_size _ rfl, z, us, r, ⟨_, Heap.get?_push_size _ rfl, rfl, _, rfl⟩⟩, rfl, q _ _ hf rfl⟩
/-- dict(t): t a tuple of pairs of a text and an int -/
abbrev Ptr : Type := Addr × Str × Int
def rDictT (K : PySem.W.Frag) : List V → Hp → VK → Prop := fun vs H Q => ∃ (a : Addr) (ps : List Ptr), vs = [V.ref a] ∧ TupK H a (ps.map fun p => V.ref p.1) ∧ (∀ p ∈ ps, SqT K H p.1 [.str p.2.1, .int p.2.2]) ∧
  ∀ q, H q = none → Q (.ref q) (upd H q (.dK (mergeK [] (ps.map fun p => ((.inr p.2.1 : L2.Key), V.int p.2.2)))))
def PairV (h : Heap) (p : Ptr) (q : Value × Value) : Prop := PairAt h p.1 q.1 q.2 ∧ RelV (.str p.2.1) q.1 ∧ RelV (.int p.2.2) q.2
theorem pairs_ex {pins : List (Addr × Obj)} {σ : L2.St} {H : Hp} {s : Shared} (I : Inv X pins σ H s) : ∀ {ps : List Ptr}, (∀ p ∈ ps, SqT X.K H p.1 [.str p.2.1, .int p.2.2]) → ∃ qs : List (Value × Value), Paired (PairV s.heap) ps qs
  | [], _ => ⟨[], .nil⟩
  | p :: r, h => by
    obtain ⟨qs, hq⟩ := pairs_ex I (ps := r) fun x hx => h x (List.mem_cons_of_mem _ hx)
    obtain ⟨its, rv, pl, _⟩ := I.tuple (h p List.mem_cons_self)
    obtain ⟨u1, u2, rfl, r1, r2⟩ := Vals.two rv
    exact ⟨(u1, u2) :: qs, .cons ⟨.inl pl, r1, r2⟩ hq⟩
theorem cr_dictT (hcalm : X.calm = true) : CallR X (.type "dict") (rDictT X.K) := by
  intro pins s σ H vs us Q I r q
  obtain ⟨a, ps, rfl, ⟨o, ha, hod⟩, hp, q⟩ := q
  rw [Vals.ref1 r]
  obtain ⟨hoa, hz, its, rv, ⟨o', e1, e2, n, e3⟩⟩ := I.hok a _ ha
  rw [hoa] at e1
  cases e1
  obtain ⟨qs, hq⟩ := pairs_ex I hp
  have hl : ps.length = qs.length := Paired.length hq
  have hil := rv.length
  rw [List.length_map] at hil hz
  let Ts : Nat → Addr := fun j => (ps[j]?.map (·.1)).getD 0
  have hT : ∀ j p, ps[j]? = some p → Ts j = p.1 := fun j p e => by
    show (ps[j]?.map (·.1)).getD 0 = p.1
    rw [e]
    rfl
  have hitem : PairItems s.heap its.toArray Ts qs := by
    refine ⟨by rw [List.size_toArray]; omega, fun j k v e => ?_⟩
    have hj : j < ps.length := by
      have := (List.getElem?_eq_some_iff.mp e).1
      omega
    have ej : ps[j]? = some ps[j] := List.getElem?_eq_getElem hj
    obtain ⟨b, hb, h1, _, _⟩ := paired_get hq ej
    rw [e] at hb
    cases hb
    have em : (ps.map fun p => V.ref p.1)[j]? = some (V.ref ps[j].1) := by rw [List.getElem?_map, ej]; rfl
    obtain ⟨u, hu, ru⟩ := rv.get em
    cases ru
    exact ⟨by rw [List.getElem?_toArray, hT j _ ej]; exact hu, by rw [hT j _ ej]; exact h1⟩
  let kvs : List (L2.Key × Value) := (ps.zip qs).map fun z => (.inr z.1.2.1, z.2.2)
  have hkv : KV (ps.map fun p => ((.inr p.2.1 : L2.Key), V.int p.2.2)) kvs := by
    have go : ∀ {ps : List Ptr} {qs : List (Value × Value)}, Paired (PairV s.heap) ps qs → KV (ps.map fun p => ((.inr p.2.1 : L2.Key), V.int p.2.2)) ((ps.zip qs).map fun z => (.inr z.1.2.1, z.2.2)) := fun {ps qs} h => by
      induction h with
      | nil => exact .nil
      | cons h t ih => exact .cons ⟨rfl, h.2.2⟩ ih
    exact go hq
  have hhave : PairsHave (mixKind X.prog X.w) qs.length (PairRel qs) kvs := by
    refine ⟨by show ((ps.zip qs).map _).length = _; rw [List.length_map, List.length_zip]; omega, fun i key v e => ?_⟩
    have hj : i < ps.length := by
      have := (List.getElem?_eq_some_iff.mp e).1
      omega
    have ej : ps[i]? = some ps[i] := List.getElem?_eq_getElem hj
    obtain ⟨b, hb, _, h2, _⟩ := paired_get hq ej
    have e' : qs[i]? = some (key, v) := e
    rw [e'] at hb
    cases hb
    refine ⟨.inr ps[i].2.1, ?_, ?_⟩
    · show ((ps.zip qs).map _)[i]? = _
      rw [List.getElem?_map, show (ps.zip qs)[i]? = some (ps[i], (key, v)) from List.getElem?_zip_eq_some.mpr ⟨ej, e'⟩]
      rfl
    · obtain ⟨t, rfl⟩ := h2
      exact mixKind_str _ _ _ _
  refine call_dict_pairs (PairArg.tuple a its.toArray Ts qs) (I.ok.hd hcalm) ⟨⟨o, n, hoa, e2, hod, e3⟩, hitem⟩ hhave (by rw [← hl]; exact hz) fun h' tk hd' hk => ?_
  have hm : (s.heap.objs.size == sysModules) = false := beq_eq_false_iff_ne.mpr (Nat.ne_of_gt I.big)
  have rel := KV.merge hkv (.nil : KV [] [])
  exact ⟨.ref s.heap.objs.size, _, I.laid (t' := tk) (fun b u e => hk b u List.not_mem_nil e) (Nat.le_refl _) (dk_new (by
    have := length_mergeK (ps.map fun p => ((.inr p.2.1 : L2.Key), V.int p.2.2)) []
    rw [List.length_map] at this
    exact Nat.le_trans this (by show 0 + ps.length ≤ sizeLine; omega)) hm rel hd'), rfl, q _ (I.hok.fresh (Nat.le_refl _))⟩
end
end SR
namespace Mt
open PySem PySem.Spec PyProof.Rows L2
def topS (i : Nat) : Stmt := PySem.Challenge.pw_meantrace_k80_whole_rates.main.body.getD i (.Pass ⟨0, 0, 0, 0⟩)
abbrev s_distances : Stmt := topS 2
abbrev N_distances : List Str := ["nexts", "begins", "found", "state", "layer", "further", "target"]
theorem sc_distances : FnScope N_distances ["nexts", "begins"] (defScope s_distances) := ⟨rfl, rfl, rfl, by decide +kernel, rfl, by decide +kernel, by decide +kernel⟩
abbrev s_turned : Stmt := topS 3
abbrev N_turned : List Str := ["nexts", "sources", "_", "state", "targets", "target"]
theorem sc_turned : FnScope N_turned ["nexts"] (defScope s_turned) := ⟨rfl, rfl, rfl, by decide +kernel, rfl, by decide +kernel, by decide +kernel⟩
abbrev s_longest : Stmt := topS 4
abbrev N_longest : List Str := ["nexts", "found", "_", "many", "fresh", "state", "targets", "target"]
theorem sc_longest : FnScope N_longest ["nexts"] (defScope s_longest) := ⟨rfl, rfl, rfl, by decide +kernel, rfl, by decide +kernel, by decide +kernel⟩
abbrev s_branches_along : Stmt := topS 6
abbrev N_branches_along : List Str := ["rows", "state", "blocks", "found", "block", "fitting", "branch"]
theorem sc_branches_along : FnScope N_branches_along ["rows", "state", "blocks"] (defScope s_branches_along) := ⟨rfl, rfl, rfl, by decide +kernel, rfl, by decide +kernel, by decide +kernel⟩
abbrev s_ring_along : Stmt := topS 7
abbrev N_ring_along : List Str := ["rows", "way", "ring", "there", "begin", "around"]
theorem sc_ring_along : FnScope N_ring_along ["rows", "way", "ring"] (defScope s_ring_along) := ⟨rfl, rfl, rfl, by decide +kernel, rfl, by decide +kernel, by decide +kernel⟩
abbrev s_ring_of : Stmt := topS 8
abbrev N_ring_of : List Str := ["picked", "state", "places", "blocks", "digits", "_", "at"]
theorem sc_ring_of : FnScope N_ring_of ["picked", "state"] (defScope s_ring_of) := ⟨rfl, rfl, rfl, by decide +kernel, rfl, by decide +kernel, by decide +kernel⟩
abbrev s_way_to : Stmt := topS 9
abbrev N_way_to : List Str := ["rows", "goal", "left", "_", "target", "row", "blocks", "state", "nearer", "branch"]
theorem sc_way_to : FnScope N_way_to ["rows", "goal"] (defScope s_way_to) := ⟨rfl, rfl, rfl, by decide +kernel, rfl, by decide +kernel, by decide +kernel⟩
abbrev s_make_fraction : Stmt := topS 14
abbrev N_make_fraction : List Str := ["n", "d", "common"]
theorem sc_make_fraction : FnScope N_make_fraction ["n", "d"] (defScope s_make_fraction) := ⟨rfl, rfl, rfl, by decide +kernel, rfl, by decide +kernel, by decide +kernel⟩
abbrev s_sum_of : Stmt := topS 15
abbrev N_sum_of : List Str := ["a", "b"]
theorem sc_sum_of : FnScope N_sum_of ["a", "b"] (defScope s_sum_of) := ⟨rfl, rfl, rfl, by decide +kernel, rfl, by decide +kernel, by decide +kernel⟩
abbrev s_product_of : Stmt := topS 16
abbrev N_product_of : List Str := ["a", "b"]
theorem sc_product_of : FnScope N_product_of ["a", "b"] (defScope s_product_of) := ⟨rfl, rfl, rfl, by decide +kernel, rfl, by decide +kernel, by decide +kernel⟩
abbrev s_is_less : Stmt := topS 17
abbrev N_is_less : List Str := ["a", "b"]
theorem sc_is_less : FnScope N_is_less ["a", "b"] (defScope s_is_less) := ⟨rfl, rfl, rfl, by decide +kernel, rfl, by decide +kernel, by decide +kernel⟩
abbrev s_least_of : Stmt := topS 18
abbrev N_least_of : List Str := ["fractions", "least", "fraction"]
theorem sc_least_of : FnScope N_least_of ["fractions"] (defScope s_least_of) := ⟨rfl, rfl, rfl, by decide +kernel, rfl, by decide +kernel, by decide +kernel⟩
abbrev s_greatest_of : Stmt := topS 19
abbrev N_greatest_of : List Str := ["fractions", "greatest", "fraction"]
theorem sc_greatest_of : FnScope N_greatest_of ["fractions"] (defScope s_greatest_of) := ⟨rfl, rfl, rfl, by decide +kernel, rfl, by decide +kernel, by decide +kernel⟩
abbrev s_worth_of : Stmt := topS 21
abbrev N_worth_of : List Str := ["worths", "shown", "table", "mark"]
theorem sc_worth_of : FnScope N_worth_of ["worths", "shown"] (defScope s_worth_of) := ⟨rfl, rfl, rfl, by decide +kernel, rfl, by decide +kernel, by decide +kernel⟩
abbrev s_greatest : Stmt := topS 23
abbrev N_greatest : List Str := ["chain", "worths", "n", "rows", "least", "_", "most", "worth", "target", "row"]
theorem sc_greatest : FnScope N_greatest ["chain", "worths", "n"] (defScope s_greatest) := ⟨rfl, rfl, rfl, by decide +kernel, rfl, by decide +kernel, by decide +kernel⟩
abbrev s_worth_rows : Stmt := topS 24
abbrev N_worth_rows : List Str := ["chain", "worths", "_", "shown", "target", "row"]
theorem sc_worth_rows : FnScope N_worth_rows ["chain", "worths"] (defScope s_worth_rows) := ⟨rfl, rfl, rfl, by decide +kernel, rfl, by decide +kernel, by decide +kernel⟩
abbrev s_rate : Stmt := topS 25
abbrev N_rate : List Str := ["chain", "worths", "rows", "reached", "_", "target", "row", "speed", "below", "spare", "worth", "heights", "potentials", "state", "tight", "branches", "way", "ring"]
theorem sc_rate : FnScope N_rate ["chain", "worths"] (defScope s_rate) := ⟨rfl, rfl, rfl, by decide +kernel, rfl, by decide +kernel, by decide +kernel⟩
abbrev s_greatest_mean : Stmt := topS 26
abbrev N_greatest_mean : List Str := ["rows", "many", "levels", "_", "level", "state", "best", "worth", "target", "means", "known", "k"]
theorem sc_greatest_mean : FnScope N_greatest_mean ["rows", "many"] (defScope s_greatest_mean) := ⟨rfl, rfl, rfl, by decide +kernel, rfl, by decide +kernel, by decide +kernel⟩
abbrev s_heights_of : Stmt := topS 27
abbrev N_heights_of : List Str := ["rows", "states", "heights", "state", "changed", "higher", "worth", "target"]
theorem sc_heights_of : FnScope N_heights_of ["rows", "states"] (defScope s_heights_of) := ⟨rfl, rfl, rfl, by decide +kernel, rfl, by decide +kernel, by decide +kernel⟩
abbrev s_tight_branches : Stmt := topS 28
abbrev N_tight_branches : List Str := ["branches", "row", "heights", "state", "branch", "worth", "target"]
theorem sc_tight_branches : FnScope N_tight_branches ["branches", "row", "heights", "state"] (defScope s_tight_branches) := ⟨rfl, rfl, rfl, by decide +kernel, rfl, by decide +kernel, by decide +kernel⟩
abbrev s_best_ring : Stmt := topS 29
abbrev N_best_ring : List Str := ["rows", "tight", "states", "ranks", "branch", "row", "picked", "state", "begin", "way", "ring"]
theorem sc_best_ring : FnScope N_best_ring ["rows", "tight", "states"] (defScope s_best_ring) := ⟨rfl, rfl, rfl, by decide +kernel, rfl, by decide +kernel, by decide +kernel⟩
abbrev s_judge_rate : Stmt := topS 30
abbrev N_judge_rate : List Str := ["chain", "worths", "paper", "speed", "potentials", "way", "ring", "rows", "row", "potential", "walked", "total", "branch"]
theorem sc_judge_rate : FnScope N_judge_rate ["chain", "worths", "paper"] (defScope s_judge_rate) := ⟨rfl, rfl, rfl, by decide +kernel, rfl, by decide +kernel, by decide +kernel⟩
abbrev s_is_bound : Stmt := topS 31
abbrev N_is_bound : List Str := ["row", "speed", "potentials", "potential", "most", "worth", "target", "ahead"]
theorem sc_is_bound : FnScope N_is_bound ["row", "speed", "potentials", "potential"] (defScope s_is_bound) := ⟨rfl, rfl, rfl, by decide +kernel, rfl, by decide +kernel, by decide +kernel⟩
abbrev s_walk : Stmt := topS 33
abbrev N_walk : List Str := ["chain", "tape", "ticks", "rows", "state", "read", "told", "_", "digits", "shown"]
theorem sc_walk : FnScope N_walk ["chain", "tape", "ticks"] (defScope s_walk) := ⟨rfl, rfl, rfl, by decide +kernel, rfl, by decide +kernel, by decide +kernel⟩
abbrev s_branch_at : Stmt := topS 34
abbrev N_branch_at : List Str := ["row", "tape", "at", "branch"]
theorem sc_branch_at : FnScope N_branch_at ["row", "tape", "at"] (defScope s_branch_at) := ⟨rfl, rfl, rfl, by decide +kernel, rfl, by decide +kernel, by decide +kernel⟩
abbrev s__law_begin : Stmt := topS 36
abbrev N__law_begin : List Str := ["script", "cell"]
theorem sc__law_begin : FnScope N__law_begin ["script"] (defScope s__law_begin) := ⟨rfl, rfl, rfl, by decide +kernel, rfl, by decide +kernel, by decide +kernel⟩
abbrev s__law_draw : Stmt := topS 37
abbrev N__law_draw : List Str := ["d", "many", "found", "size", "cell"]
theorem sc__law_draw : FnScope N__law_draw ["d", "many"] (defScope s__law_draw) := ⟨rfl, rfl, rfl, by decide +kernel, rfl, by decide +kernel, by decide +kernel⟩
abbrev s__law_pick : Stmt := topS 38
abbrev N__law_pick : List Str := ["d", "row"]
theorem sc__law_pick : FnScope N__law_pick ["d", "row"] (defScope s__law_pick) := ⟨rfl, rfl, rfl, by decide +kernel, rfl, by decide +kernel, by decide +kernel⟩
abbrev s__law_pop : Stmt := topS 39
abbrev N__law_pop : List Str := ["d", "row"]
theorem sc__law_pop : FnScope N__law_pop ["d", "row"] (defScope s__law_pop) := ⟨rfl, rfl, rfl, by decide +kernel, rfl, by decide +kernel, by decide +kernel⟩
abbrev s__law_rare : Stmt := topS 40
abbrev N__law_rare : List Str := ["d", "many"]
theorem sc__law_rare : FnScope N__law_rare ["d", "many"] (defScope s__law_rare) := ⟨rfl, rfl, rfl, by decide +kernel, rfl, by decide +kernel, by decide +kernel⟩
abbrev s__law_pool : Stmt := topS 41
abbrev N__law_pool : List Str := ["text"]
theorem sc__law_pool : FnScope N__law_pool [] (defScope s__law_pool) := ⟨rfl, rfl, rfl, by decide +kernel, rfl, by decide +kernel, by decide +kernel⟩
abbrev s__law_is_int : Stmt := topS 42
abbrev N__law_is_int : List Str := ["thing"]
theorem sc__law_is_int : FnScope N__law_is_int ["thing"] (defScope s__law_is_int) := ⟨rfl, rfl, rfl, by decide +kernel, rfl, by decide +kernel, by decide +kernel⟩
abbrev s__law_is_ints : Stmt := topS 43
abbrev N__law_is_ints : List Str := ["row", "part"]
theorem sc__law_is_ints : FnScope N__law_is_ints ["row"] (defScope s__law_is_ints) := ⟨rfl, rfl, rfl, by decide +kernel, rfl, by decide +kernel, by decide +kernel⟩
abbrev s__law_frac : Stmt := topS 44
abbrev N__law_frac : List Str := ["n", "d", "a", "b", "rest"]
theorem sc__law_frac : FnScope N__law_frac ["n", "d"] (defScope s__law_frac) := ⟨rfl, rfl, rfl, by decide +kernel, rfl, by decide +kernel, by decide +kernel⟩
abbrev s__law_plus : Stmt := topS 45
abbrev N__law_plus : List Str := ["a", "b"]
theorem sc__law_plus : FnScope N__law_plus ["a", "b"] (defScope s__law_plus) := ⟨rfl, rfl, rfl, by decide +kernel, rfl, by decide +kernel, by decide +kernel⟩
abbrev s__law_minus : Stmt := topS 46
abbrev N__law_minus : List Str := ["a", "b"]
theorem sc__law_minus : FnScope N__law_minus ["a", "b"] (defScope s__law_minus) := ⟨rfl, rfl, rfl, by decide +kernel, rfl, by decide +kernel, by decide +kernel⟩
abbrev s__law_times : Stmt := topS 47
abbrev N__law_times : List Str := ["a", "b"]
theorem sc__law_times : FnScope N__law_times ["a", "b"] (defScope s__law_times) := ⟨rfl, rfl, rfl, by decide +kernel, rfl, by decide +kernel, by decide +kernel⟩
abbrev s__law_less : Stmt := topS 48
abbrev N__law_less : List Str := ["a", "b"]
theorem sc__law_less : FnScope N__law_less ["a", "b"] (defScope s__law_less) := ⟨rfl, rfl, rfl, by decide +kernel, rfl, by decide +kernel, by decide +kernel⟩
abbrev s__law_is_frac : Stmt := topS 49
abbrev N__law_is_frac : List Str := ["thing"]
theorem sc__law_is_frac : FnScope N__law_is_frac ["thing"] (defScope s__law_is_frac) := ⟨rfl, rfl, rfl, by decide +kernel, rfl, by decide +kernel, by decide +kernel⟩
abbrev s__law_is_fracs : Stmt := topS 50
abbrev N__law_is_fracs : List Str := ["row", "part"]
theorem sc__law_is_fracs : FnScope N__law_is_fracs ["row"] (defScope s__law_is_fracs) := ⟨rfl, rfl, rfl, by decide +kernel, rfl, by decide +kernel, by decide +kernel⟩
abbrev s__law_words : Stmt := topS 51
abbrev N__law_words : List Str := ["d", "base", "many", "words", "k", "at", "word", "digit"]
theorem sc__law_words : FnScope N__law_words ["d", "base", "many"] (defScope s__law_words) := ⟨rfl, rfl, rfl, by decide +kernel, rfl, by decide +kernel, by decide +kernel⟩
abbrev s__law_worth : Stmt := topS 52
abbrev N__law_worth : List Str := ["worths", "shown", "found", "mark", "worth", "one"]
theorem sc__law_worth : FnScope N__law_worth ["worths", "shown"] (defScope s__law_worth) := ⟨rfl, rfl, rfl, by decide +kernel, rfl, by decide +kernel, by decide +kernel⟩
abbrev s__law_wide_shown : Stmt := topS 53
abbrev N__law_wide_shown : List Str := ["d", "marks", "k"]
theorem sc__law_wide_shown : FnScope N__law_wide_shown ["d", "marks"] (defScope s__law_wide_shown) := ⟨rfl, rfl, rfl, by decide +kernel, rfl, by decide +kernel, by decide +kernel⟩
abbrev s__law_wide_chain : Stmt := topS 54
abbrev N__law_wide_chain : List Str := ["d", "base", "states", "marks", "rows", "s", "row", "word"]
theorem sc__law_wide_chain : FnScope N__law_wide_chain ["d", "base", "states", "marks"] (defScope s__law_wide_chain) := ⟨rfl, rfl, rfl, by decide +kernel, rfl, by decide +kernel, by decide +kernel⟩
abbrev s__law_rich_chain : Stmt := topS 55
abbrev N__law_rich_chain : List Str := ["d", "marks", "most", "base", "states", "chain", "rows", "s", "row", "digits", "shown", "there"]
theorem sc__law_rich_chain : FnScope N__law_rich_chain ["d", "marks", "most"] (defScope s__law_rich_chain) := ⟨rfl, rfl, rfl, by decide +kernel, rfl, by decide +kernel, by decide +kernel⟩
abbrev s__law_drawn_worths : Stmt := topS 56
abbrev N__law_drawn_worths : List Str := ["d", "marks", "found", "mark", "way"]
theorem sc__law_drawn_worths : FnScope N__law_drawn_worths ["d", "marks"] (defScope s__law_drawn_worths) := ⟨rfl, rfl, rfl, by decide +kernel, rfl, by decide +kernel, by decide +kernel⟩
abbrev s__law_ways_to : Stmt := topS 57
abbrev N__law_ways_to : List Str := ["chain", "found", "line", "k", "digits", "shown", "there"]
theorem sc__law_ways_to : FnScope N__law_ways_to ["chain"] (defScope s__law_ways_to) := ⟨rfl, rfl, rfl, by decide +kernel, rfl, by decide +kernel, by decide +kernel⟩
abbrev s__law_best_ring : Stmt := topS 58
abbrev N__law_best_ring : List Str := ["chain", "worths", "states", "best", "s", "sums", "step", "fresh", "here", "digits", "shown", "there", "size", "pace"]
theorem sc__law_best_ring : FnScope N__law_best_ring ["chain", "worths", "states"] (defScope s__law_best_ring) := ⟨rfl, rfl, rfl, by decide +kernel, rfl, by decide +kernel, by decide +kernel⟩
abbrev s__law_along : Stmt := topS 59
abbrev N__law_along : List Str := ["chain", "worths", "start", "blocks", "state", "size", "block", "found", "branch"]
theorem sc__law_along : FnScope N__law_along ["chain", "worths", "start", "blocks"] (defScope s__law_along) := ⟨rfl, rfl, rfl, by decide +kernel, rfl, by decide +kernel, by decide +kernel⟩
abbrev s__law_rate_taken : Stmt := topS 60
abbrev N__law_rate_taken : List Str := ["chain", "worths", "paper", "pace", "potentials", "way", "ring", "s", "most", "digits", "shown", "there", "ahead", "around"]
theorem sc__law_rate_taken : FnScope N__law_rate_taken ["chain", "worths", "paper"] (defScope s__law_rate_taken) := ⟨rfl, rfl, rfl, by decide +kernel, rfl, by decide +kernel, by decide +kernel⟩
abbrev s__law_is_bool : Stmt := topS 61
abbrev N__law_is_bool : List Str := ["told", "due"]
theorem sc__law_is_bool : FnScope N__law_is_bool ["told", "due"] (defScope s__law_is_bool) := ⟨rfl, rfl, rfl, by decide +kernel, rfl, by decide +kernel, by decide +kernel⟩
abbrev s__law_is_paper : Stmt := topS 62
abbrev N__law_is_paper : List Str := ["paper", "part", "blocks", "block"]
theorem sc__law_is_paper : FnScope N__law_is_paper ["paper"] (defScope s__law_is_paper) := ⟨rfl, rfl, rfl, by decide +kernel, rfl, by decide +kernel, by decide +kernel⟩
abbrev s__law_lasso_walked : Stmt := topS 63
abbrev N__law_lasso_walked : List Str := ["chain", "worths", "paper", "tape", "block", "many", "told", "sums", "shown", "ring"]
theorem sc__law_lasso_walked : FnScope N__law_lasso_walked ["chain", "worths", "paper"] (defScope s__law_lasso_walked) := ⟨rfl, rfl, rfl, by decide +kernel, rfl, by decide +kernel, by decide +kernel⟩
abbrev s__law_bounded : Stmt := topS 64
abbrev N__law_bounded : List Str := ["chain", "worths", "paper", "counts", "least", "part", "n", "told", "most"]
theorem sc__law_bounded : FnScope N__law_bounded ["chain", "worths", "paper", "counts"] (defScope s__law_bounded) := ⟨rfl, rfl, rfl, by decide +kernel, rfl, by decide +kernel, by decide +kernel⟩
abbrev s__law_asked : Stmt := topS 65
abbrev N__law_asked : List Str := ["chain", "worths", "counts", "states", "s", "best", "paper", "more", "other"]
theorem sc__law_asked : FnScope N__law_asked ["chain", "worths", "counts"] (defScope s__law_asked) := ⟨rfl, rfl, rfl, by decide +kernel, rfl, by decide +kernel, by decide +kernel⟩
abbrev s_law : Stmt := topS 66
abbrev N_law : List Str := ["script", "d", "names", "marks", "k", "chain", "worths", "counts", "before", "mark", "worth"]
theorem sc_law : FnScope N_law ["script"] (defScope s_law) := ⟨rfl, rfl, rfl, by decide +kernel, rfl, by decide +kernel, by decide +kernel⟩
structure Txt (K : PySem.W.Frag) (mg : Str → Option Value) : Prop where
  b_int : mg "int" = none
  b_abs : mg "abs" = none
  b_len : mg "len" = none
  b_isinstance : mg "isinstance" = none
  b_bool : mg "bool" = none
  b_tuple : mg "tuple" = none
  b_list : mg "list" = none
  b_range : mg "range" = none
  b_sum : mg "sum" = none
  b_all : mg "all" = none
  b_any : mg "any" = none
  b_sorted : mg "sorted" = none
  b_zip : mg "zip" = none
  b_dict : mg "dict" = none
  b_max : mg "max" = none
  b_min : mg "min" = none
  b_enumerate : mg "enumerate" = none
  f_gcd : mg "gcd" = some (.builtin "math.gcd")
theorem upd_upd {H : Hp} {p : Addr} {a b : HO} : upd (upd H p a) p b = upd H p b := by
  funext x
  unfold upd
  split <;> rfl
theorem take_map_succ {α β : Type} {f : α → β} {l : List α} {i : Nat} {c : α} (h : l[i]? = some c) : (l.take i).map f ++ [f c] = (l.take (i + 1)).map f := by
  rw [List.take_add_one, h, List.map_append]
  rfl
theorem divW_of {n : Int} (h : 0 < n) (h2 : n < 2 ^ 64) : CDivW 0 n := wide_div h (b := 64) (by omega) (by decide) (by decide)
theorem getV {ns : List Int} {i : Nat} {x : V} (h : (ns.map V.int)[i]? = some x) : ∃ z, x = .int z ∧ ns[i]? = some z := by
  rw [List.getElem?_map] at h
  cases e : ns[i]? with
  | none =>
    rw [e] at h
    cases h
  | some z =>
    rw [e] at h
    exact ⟨z, (Option.some.inj h).symm, rfl⟩
def spBegin (K : PySem.W.Frag) : Sp := fun vs H Q _ => ∃ (a : Addr) (ns : List Int), vs = [.ref a] ∧ SqL K H a (ns.map V.int) ∧ ns.length ≤ 63 ∧ ∀ S D H', Same H H' → H D = none → DrawAt S D H' → Q (.ref D) H'
/-- a text or a list, what it holds -/
def Row (K : PySem.W.Frag) (H : Hp) (v : V) (xs : List V) : Prop := (∃ z : Str, v = .str z ∧ xs = z.cps.toList.map fun c => .str ⟨#[c]⟩) ∨ (∃ p, v = .ref p ∧ SqL K H p xs) ∨ ∃ p, v = .ref p ∧ SqT K H p xs
def spPick (K : PySem.W.Frag) : Sp := fun vs H Q _ => ∃ (S D : Addr) (r : V) (xs : List V), vs = [.ref D, r] ∧ DrawAt S D H ∧ (∀ H', Go S D H H' → Row K H' r xs) ∧ 0 < xs.length ∧ xs.length ≤ 100000 ∧ ∀ H' x, x ∈ xs → Go S D H H' → Q x H'

theorem same_new {H : Hp} {p : Addr} {o : HO} (h : H p = none) : Same H (upd H p o) := fun b x e => by
  rw [upd_ne (ne_of_none e h)]
  exact e
/-- a change at a place that H does not know -/
theorem same_mut {H H' : Hp} {p : Addr} {o : HO} (s : Same H H') (h : H p = none) : Same H (upd H' p o) := fun b u e => by
  rw [upd_ne (ne_of_none e h)]
  exact s b u e
theorem iteNT {A B : Prop} (h : B) : if (!true) = true then A else B := iteF h
theorem line5 {n : Nat} (h : n ≤ 100000) : n ≤ sizeLine := Nat.le_trans h (by decide)
theorem line6 {n : Nat} (h : n < 100000) : n < sizeLine := Nat.lt_of_lt_of_le h (by decide)
/-! ### data as it stands in the heap -/
def KeepT (H H' : Hp) : Prop := ∀ p xs, Rd H p (.tup xs) → Rd H' p (.tup xs)
theorem KeepT.of_same {H H' : Hp} (s : Same H H') : KeepT H H' := fun p xs h => by
  rcases h with h | ⟨o, h⟩
  · exact .inl (s _ _ h)
  · exact .inr ⟨o, s _ _ h⟩
theorem KeepT.trans {H H1 H2 : Hp} (a : KeepT H H1) (b : KeepT H1 H2) : KeepT H H2 := fun p xs h => b p xs (a p xs h)
mutual
def noL : PyData → Bool
  | .list _ => false
  | .dict _ => false
  | .tuple ds => noLs ds
  | _ => true
def noLs : List PyData → Bool
  | [] => true
  | d :: ds => noL d && noLs ds
end
theorem sqt_keep {K : PySem.W.Frag} {H H' : Hp} {a : Addr} {xs : List V} (k : KeepT H H') (h : SqT K H a xs) : SqT K H' a xs := by
  rcases h with h | h
  · exact .inl (k _ _ h)
  · exact .inr h
mutual
theorem dp_keep {K : PySem.W.Frag} {H H' : Hp} (k : KeepT H H') : ∀ (d : PyData) (v : V), noL d = true → Dp K H v d → Dp K H' v d
  | .none, _, _, h => by
    cases h
    exact .non
  | .bool b, _, _, h => by
    cases h
    exact .bl b
  | .int i, _, _, h => by
    cases h
    exact .int i
  | .str x, _, _, h => by
    cases h
    exact .str x
  | .list ds, _, n, _ => by
    have n2 : false = true := n
    cases n2
  | .dict ds, _, n, _ => by
    have n2 : false = true := n
    cases n2
  | .tuple ds, _, n, h => by
    cases h with
    | tup h1 h2 => exact .tup (sqt_keep k h1) (dpA_keep k ds _ n h2)
theorem dpA_keep {K : PySem.W.Frag} {H H' : Hp} (k : KeepT H H') : ∀ (ds : List PyData) (xs : List V), noLs ds = true → DpAll K H xs ds → DpAll K H' xs ds
  | [], _, _, h => by
    cases h
    exact .nil
  | d :: ds, _, n, h => by
    cases h with
    | cons h1 h2 =>
      have n2 : (noL d && noLs ds) = true := n
      rw [Bool.and_eq_true] at n2
      exact .cons (dp_keep k d _ n2.1 h1) (dpA_keep k ds _ n2.2 h2)
end
theorem dp_tup {K : PySem.W.Frag} {H : Hp} {v : V} {ds : List PyData} (h : Dp K H v (.tuple ds)) : ∃ a xs, v = .ref a ∧ SqT K H a xs ∧ DpAll K H xs ds := by
  cases h with
  | tup h1 h2 => exact ⟨_, _, rfl, h1, h2⟩
theorem dp_str {K : PySem.W.Frag} {H : Hp} {v : V} {z : Str} (h : Dp K H v (.str z)) : v = .str z := by
  cases h
  rfl
theorem dp_int {K : PySem.W.Frag} {H : Hp} {v : V} {z : Int} (h : Dp K H v (.int z)) : v = .int z := by
  cases h
  rfl
theorem dp_non {K : PySem.W.Frag} {H : Hp} {v : V} (h : Dp K H v .none) : v = .non := by
  cases h
  rfl
theorem dpA_nil {K : PySem.W.Frag} {H : Hp} {xs : List V} (h : DpAll K H xs []) : xs = [] := by
  cases h
  rfl
theorem dpA_cons {K : PySem.W.Frag} {H : Hp} {xs : List V} {d : PyData} {ds : List PyData} (h : DpAll K H xs (d :: ds)) : ∃ x r, xs = x :: r ∧ Dp K H x d ∧ DpAll K H r ds := by
  cases h with
  | cons h1 h2 => exact ⟨_, _, rfl, h1, h2⟩
theorem dpA_len {K : PySem.W.Frag} {H : Hp} : ∀ {ds : List PyData} {xs : List V}, DpAll K H xs ds → xs.length = ds.length
  | [], _, h => by rw [dpA_nil h]; rfl
  | d :: ds, _, h => by
    obtain ⟨x, r, rfl, _, h2⟩ := dpA_cons h
    rw [List.length_cons, List.length_cons, dpA_len h2]
theorem dpA_at {K : PySem.W.Frag} {H : Hp} : ∀ {ds : List PyData} {xs : List V} {i : Nat} {x : V}, DpAll K H xs ds → xs[i]? = some x → ∃ d, ds[i]? = some d ∧ Dp K H x d
  | [], _, i, x, h, e => by
    rw [dpA_nil h] at e
    simp at e
  | d :: ds, _, 0, x, h, e => by
    obtain ⟨y, r, rfl, h1, h2⟩ := dpA_cons h
    have e2 : y = x := Option.some.inj e
    subst e2
    exact ⟨d, rfl, h1⟩
  | d :: ds, _, i + 1, x, h, e => by
    obtain ⟨y, r, rfl, h1, h2⟩ := dpA_cons h
    obtain ⟨d', h3, h4⟩ := dpA_at (i := i) (x := x) h2 (by simpa using e)
    exact ⟨d', by simpa using h3, h4⟩
theorem noLs_map {α : Type} (f : α → PyData) : ∀ l : List α, (∀ x ∈ l, noL (f x) = true) → noLs (l.map f) = true
  | [], _ => rfl
  | x :: r, h => by
    show (noL (f x) && noLs (r.map f)) = true
    rw [h x List.mem_cons_self, noLs_map f r fun y hy => h y (List.mem_cons_of_mem _ hy)]
    rfl
theorem keepT_new {H : Hp} {L : Addr} {o : HO} (h : H L = none) : KeepT H (upd H L o) := KeepT.of_same (same_new h)
theorem ixT {X : Cx} {K : PySem.W.Frag} (h : X.K = K) : IxR X (rIxT K) := h ▸ ix_tup
theorem isiT {X : Cx} {K : PySem.W.Frag} (h : X.K = K) : CallR X (.builtin "isinstance") (rIsi K) := h ▸ call_isi
theorem map_at {α : Type} {f : α → PyData} {l : List α} {i : Nat} {d : PyData} (h : (l.map f)[i]? = some d) : ∃ x, l[i]? = some x ∧ f x = d := by
  rw [List.getElem?_map] at h
  cases e : l[i]? with
  | none =>
    rw [e] at h
    cases h
  | some x =>
    rw [e] at h
    exact ⟨x, rfl, Option.some.inj h⟩
theorem dpA_snoc {K : PySem.W.Frag} {H : Hp} : ∀ {ds : List PyData} {xs : List V} {x : V} {d : PyData}, DpAll K H xs ds → Dp K H x d → DpAll K H (xs ++ [x]) (ds ++ [d])
  | [], _, _, _, h, hx => by
    rw [dpA_nil h]
    exact .cons hx .nil
  | d0 :: ds, _, _, _, h, hx => by
    obtain ⟨y, r, rfl, h1, h2⟩ := dpA_cons h
    exact .cons h1 (dpA_snoc h2 hx)
theorem sqt_ty {K : PySem.W.Frag} {H : Hp} {a : Addr} {xs : List V} (h : SqT K H a xs) : TyX K H (.ref a) (.type "tuple") := by
  rcases h with (h | ⟨o, h⟩) | ⟨o, its, n, hk, hc, _⟩
  · exact .base (.tup h)
  · exact .fTuple h
  · exact .kTuple hk hc
/-! ### fractions -/
abbrev F2 : Type := Int × Int
def gg (n d : Int) : Nat := Nat.gcd n.natAbs d.natAbs
def fr (n d : Int) : F2 := ((if d < 0 then -n else n) / (gg n d : Int), (if d < 0 then -d else d) / (gg n d : Int))
def add2 (a b : F2) : Int × Int := (a.1 * b.2 + b.1 * a.2, a.2 * b.2)
def sub2 (a b : F2) : Int × Int := (a.1 * b.2 - b.1 * a.2, a.2 * b.2)
def mul2 (a b : F2) : Int × Int := (a.1 * b.1, a.2 * b.2)
def div2 (a b : F2) : Int × Int := (a.1 * b.2, a.2 * b.1)
def frp (x : Int × Int) : F2 := fr x.1 x.2
theorem gg_pos {n d : Int} (h : d ≠ 0) : 0 < gg n d := Nat.gcd_pos_of_pos_right _ (Int.natAbs_pos.mpr h)
theorem gg_le {n d : Int} (h : d ≠ 0) : gg n d ≤ d.natAbs := Nat.gcd_le_right _ (Int.natAbs_pos.mpr h)
/-- in lowest terms, the second at least 1 -/
structure Low (x : F2) : Prop where
  pos : 1 ≤ x.2
  co : Nat.gcd x.1.natAbs x.2.natAbs = 1
theorem fr_low {n d : Int} (h : d ≠ 0) : Low (fr n d) := by
  have g0 := gg_pos (n := n) h
  have gd1 : (gg n d : Int) ∣ d := Int.ofNat_dvd_left.mpr (Nat.gcd_dvd_right _ _)
  have gn1 : (gg n d : Int) ∣ n := Int.ofNat_dvd_left.mpr (Nat.gcd_dvd_left _ _)
  have key : ∀ a b : Int, a.natAbs = n.natAbs → b.natAbs = d.natAbs → 0 < b → Low (a / (gg n d : Int), b / (gg n d : Int)) := fun a b ha hb hp => by
    have g1 : (gg n d : Int) ∣ b := Int.ofNat_dvd_left.mpr (by rw [hb]; exact Nat.gcd_dvd_right _ _)
    have g2 : (gg n d : Int) ∣ a := Int.ofNat_dvd_left.mpr (by rw [ha]; exact Nat.gcd_dvd_left _ _)
    refine ⟨?_, ?_⟩
    · have := Int.ediv_pos_of_pos_of_dvd hp (by omega) g1
      show 1 ≤ b / (gg n d : Int)
      omega
    · show Nat.gcd (a / (gg n d : Int)).natAbs (b / (gg n d : Int)).natAbs = 1
      rw [Int.natAbs_ediv_of_dvd g2, Int.natAbs_ediv_of_dvd g1, ha, hb, Int.natAbs_natCast]
      exact Nat.gcd_div_gcd_div_gcd_of_pos_right (Int.natAbs_pos.mpr h)
  unfold fr
  by_cases hd : d < 0
  · rw [if_pos hd, if_pos hd]
    exact key _ _ (Int.natAbs_neg n) (Int.natAbs_neg d) (by omega)
  · rw [if_neg hd, if_neg hd]
    exact key _ _ rfl rfl (by omega)
theorem low_fr {x : F2} (h : Low x) : fr x.1 x.2 = x := by
  have h1 := h.pos
  unfold fr
  rw [if_neg (by omega), if_neg (by omega)]
  have : gg x.1 x.2 = 1 := h.co
  rw [this]
  show (x.1 / 1, x.2 / 1) = x
  rw [Int.ediv_one, Int.ediv_one]
/-- the size: below 2 ^ k both -/
def Sz (k : Nat) (x : Int × Int) : Prop := x.1.natAbs < 2 ^ k ∧ x.2.natAbs < 2 ^ k
theorem div_small (a : Int) (g : Nat) : (a / (g : Int)).natAbs ≤ a.natAbs := Int.natAbs_ediv_le_natAbs a g
theorem fr_sz {k : Nat} {x : Int × Int} (h : Sz k x) : Sz k (frp x) := by
  have key : ∀ (c : Prop) [Decidable c] (a : Int) (g : Nat), ((if c then -a else a) / (g : Int)).natAbs ≤ a.natAbs := fun c _ a g => by
    split
    · exact Nat.le_trans (div_small _ _) (Nat.le_of_eq (Int.natAbs_neg a))
    · exact div_small _ _
  exact ⟨Nat.lt_of_le_of_lt (key _ _ _) h.1, Nat.lt_of_le_of_lt (key _ _ _) h.2⟩
theorem sz_mul {a b : Int} {j k : Nat} (ha : a.natAbs < 2 ^ j) (hb : b.natAbs < 2 ^ k) : (a * b).natAbs < 2 ^ (j + k) := wide_lt ha hb
theorem sz_add {a b : Int} {k : Nat} (ha : a.natAbs < 2 ^ k) (hb : b.natAbs < 2 ^ k) : (a + b).natAbs < 2 ^ (k + 1) := by
  have := Int.natAbs_add_le a b
  rw [Nat.pow_succ]
  omega
theorem sz_sub {a b : Int} {k : Nat} (ha : a.natAbs < 2 ^ k) (hb : b.natAbs < 2 ^ k) : (a - b).natAbs < 2 ^ (k + 1) := by
  have := sz_add ha (b := -b) (by rw [Int.natAbs_neg]; exact hb)
  rw [Int.sub_eq_add_neg]
  exact this
theorem sz_up {x : Int × Int} {j k : Nat} (h : Sz j x) (hl : j ≤ k) : Sz k x :=
  ⟨Nat.lt_of_lt_of_le h.1 (Nat.pow_le_pow_right (by decide) hl), Nat.lt_of_lt_of_le h.2 (Nat.pow_le_pow_right (by decide) hl)⟩
theorem n_up {a : Int} {j k : Nat} (h : a.natAbs < 2 ^ j) (hl : j ≤ k) : a.natAbs < 2 ^ k := Nat.lt_of_lt_of_le h (Nat.pow_le_pow_right (by decide) hl)
theorem add2_sz {a b : F2} {j k : Nat} (ha : Sz j a) (hb : Sz k b) : Sz (j + k + 1) (add2 a b) :=
  ⟨sz_add (sz_mul ha.1 hb.2) (by rw [Nat.add_comm j k]; exact sz_mul hb.1 ha.2), n_up (sz_mul ha.2 hb.2) (Nat.le_succ _)⟩
theorem sub2_sz {a b : F2} {j k : Nat} (ha : Sz j a) (hb : Sz k b) : Sz (j + k + 1) (sub2 a b) :=
  ⟨sz_sub (sz_mul ha.1 hb.2) (by rw [Nat.add_comm j k]; exact sz_mul hb.1 ha.2), n_up (sz_mul ha.2 hb.2) (Nat.le_succ _)⟩
theorem mul2_sz {a b : F2} {j k : Nat} (ha : Sz j a) (hb : Sz k b) : Sz (j + k + 1) (mul2 a b) := ⟨n_up (sz_mul ha.1 hb.1) (Nat.le_succ _), n_up (sz_mul ha.2 hb.2) (Nat.le_succ _)⟩
theorem div2_sz {a b : F2} {j k : Nat} (ha : Sz j a) (hb : Sz k b) : Sz (j + k + 1) (div2 a b) := ⟨n_up (sz_mul ha.1 hb.2) (Nat.le_succ _), n_up (sz_mul ha.2 hb.1) (Nat.le_succ _)⟩
/-- the sum of a row, from the left -/
def tot : List F2 → F2 → F2
  | [], t => t
  | x :: r, t => tot r (frp (add2 t x))
theorem gg_if (n d : Int) : (if d < 0 then -n else n).natAbs.gcd (if d < 0 then -d else d).natAbs = gg n d := by
  unfold gg
  split <;> simp
theorem low0 : Low (0, 1) := ⟨by decide, by decide⟩
theorem sz0 : Sz 1 (0, 1) := ⟨by decide, by decide⟩
theorem low_frp {x : Int × Int} (h : x.2 ≠ 0) : Low (frp x) := fr_low h
theorem add2_ne {a b : F2} (ha : Low a) (hb : Low b) : (add2 a b).2 ≠ 0 := by
  have h1 := ha.pos
  have h2 := hb.pos
  exact Int.ne_of_gt (Int.mul_pos (by omega) (by omega))
theorem tot_ok : ∀ (fs : List F2) (t : F2) {k : Nat}, Low t → Sz k t → (∀ x ∈ fs, Sz 100 x ∧ Low x) → Sz (k + 101 * fs.length) (tot fs t) ∧ Low (tot fs t)
  | [], t, k, h1, h2, _ => ⟨h2, h1⟩
  | x :: r, t, k, h1, h2, h3 => by
    obtain ⟨a, b⟩ := h3 x (List.mem_cons_self)
    have := tot_ok r (frp (add2 t x)) (k := k + 100 + 1) (low_frp (add2_ne h1 b)) (fr_sz (add2_sz h2 a)) (fun y hy => h3 y (List.mem_cons_of_mem _ hy))
    refine ⟨sz_up this.1 ?_, this.2⟩
    rw [List.length_cons]
    omega
theorem tot_snoc (x : F2) : ∀ (l : List F2) (t : F2), tot (l ++ [x]) t = frp (add2 (tot l t) x)
  | [], _ => rfl
  | y :: r, t => tot_snoc x r (frp (add2 t y))
theorem same_l {K : PySem.W.Frag} {H H' : Hp} {a : Addr} {xs : List V} (e : Same H H') (h : SqL K H a xs) : SqL K H' a xs := e.seq h
theorem same_t {K : PySem.W.Frag} {H H' : Hp} {a : Addr} {xs : List V} (e : Same H H') (h : SqT K H a xs) : SqT K H' a xs := by
  rcases h with (h | ⟨o, h⟩) | h
  · exact .inl (.inl (e _ _ h))
  · exact .inl (.inr ⟨o, e _ _ h⟩)
  · exact .inr h
theorem Paired.at {α β : Type} {R : α → β → Prop} : ∀ {xs : List α} {ys : List β} {i : Nat} {x : α}, Paired R xs ys → xs[i]? = some x → ∃ y, ys[i]? = some y ∧ R x y
  | _, _, _, _, .nil, e => by simp at e
  | _, _, 0, _, .cons r _, e => by
    have e : _ = _ := Option.some.inj e
    subst e
    exact ⟨_, rfl, r⟩
  | _, _, i + 1, x, .cons _ t, e => by
    obtain ⟨y, h1, h2⟩ := Paired.at (i := i) (x := x) t (by simpa using e)
    exact ⟨y, by simpa using h1, h2⟩
def dF (x : Int × Int) : PyData := .tuple [.int x.1, .int x.2]
def dFs (l : List (Int × Int)) : PyData := .list (l.map dF)
theorem dF_sh (x : Int × Int) : SeqAt.shaped (dF x) = true := rfl
theorem dFs_lay : ∀ l : List (Int × Int), PyData.canLayAll0 (l.map dF) = true
  | [] => rfl
  | x :: r => by
    show (PyData.canLay0 (dF x) && PyData.canLayAll0 (r.map dF)) = true
    rw [dFs_lay r]
    rfl
theorem dFs_dep : ∀ l : List (Int × Int), PyData.depthAll (l.map dF) ≤ 1
  | [] => Nat.zero_le _
  | x :: r => by
    show max (PyData.depth (dF x)) (PyData.depthAll (r.map dF)) ≤ 1
    have := dFs_dep r
    have e : PyData.depth (dF x) = 1 := rfl
    omega
theorem dFs_sh (l : List (Int × Int)) : SeqAt.shaped (dFs l) = true := by
  unfold SeqAt.shaped
  rw [Bool.and_eq_true]
  refine ⟨dFs_lay l, decide_eq_true ?_⟩
  show PyData.depthAll (l.map dF) + 1 ≤ 64
  have := dFs_dep l
  omega
theorem dFs_eqv (l : List (Int × Int)) : PyData.eqv (dFs l) (dFs l) = true := SeqAt.eqv_refl _ (dFs_lay l)
theorem dF_eqv (x : Int × Int) : PyData.eqv (dF x) (dF x) = true := SeqAt.eqv_refl _ rfl
theorem frv {n d : Int} (h : d ≠ 0) : (fr n d).1 * d = n * (fr n d).2 := by
  have g0 : (gg n d : Int) ≠ 0 := by
    have := Nat.gcd_pos_of_pos_right n.natAbs (Int.natAbs_pos.mpr h)
    show ((Nat.gcd n.natAbs d.natAbs : Nat) : Int) ≠ 0
    omega
  obtain ⟨a, ha⟩ : (gg n d : Int) ∣ n := Int.ofNat_dvd_left.mpr (Nat.gcd_dvd_left _ _)
  obtain ⟨b, hb⟩ : (gg n d : Int) ∣ d := Int.ofNat_dvd_left.mpr (Nat.gcd_dvd_right _ _)
  show ((if d < 0 then -n else n) / (gg n d : Int)) * d = n * ((if d < 0 then -d else d) / (gg n d : Int))
  generalize (gg n d : Int) = g at *
  split
  · rw [show -n = g * -a by rw [ha]; grind, show -d = g * -b by rw [hb]; grind, Int.mul_ediv_cancel_left _ g0, Int.mul_ediv_cancel_left _ g0]
    subst ha hb
    grind
  · rw [show n / g = a by rw [ha, Int.mul_ediv_cancel_left _ g0], show d / g = b by rw [hb, Int.mul_ediv_cancel_left _ g0]]
    subst ha hb
    grind
theorem low_uniq {x y : F2} (hx : Low x) (hy : Low y) (e : x.1 * y.2 = y.1 * x.2) : x = y := by
  obtain ⟨a, b⟩ := x
  obtain ⟨c, d⟩ := y
  have b1 : 1 ≤ b := hx.pos
  have d1 : 1 ≤ d := hy.pos
  have e1 : a.natAbs * d.natAbs = c.natAbs * b.natAbs := by
    rw [← Int.natAbs_mul, ← Int.natAbs_mul]
    exact congrArg Int.natAbs e
  have h1 : b.natAbs ∣ d.natAbs := Nat.Coprime.dvd_of_dvd_mul_left (Nat.Coprime.symm hx.co) ⟨c.natAbs, by rw [e1, Nat.mul_comm]⟩
  have h2 : d.natAbs ∣ b.natAbs := Nat.Coprime.dvd_of_dvd_mul_left (Nat.Coprime.symm hy.co) ⟨a.natAbs, by rw [← e1, Nat.mul_comm]⟩
  have h3 := Nat.dvd_antisymm h1 h2
  have h4 : b = d := by omega
  subst h4
  have h5 : a = c := Int.eq_of_mul_eq_mul_right (by omega) (show a * b = c * b from e)
  rw [h5]
/-! ### promises -/
def tupV (x : Int × Int) : List V := [.int x.1, .int x.2]
def tupF (x : Int × Int) : HO := .tup (tupV x)
def spFrac : Sp := fun vs H Q _ => ∃ n d : Int, vs = [.int n, .int d] ∧ d ≠ 0 ∧ Sz 9000 (n, d) ∧ ∀ p, H p = none → Q (.ref p) (upd H p (tupF (fr n d)))
def spBin (K : PySem.W.Frag) (op : F2 → F2 → Int × Int) : Sp := fun vs H Q _ => ∃ (p q : Addr) (a b : F2), vs = [.ref p, .ref q] ∧ SqT K H p (tupV a) ∧ SqT K H q (tupV b) ∧ Sz 4400 a ∧ Sz 4400 b ∧ (op a b).2 ≠ 0 ∧ ∀ r, H r = none → Q (.ref r) (upd H r (tupF (frp (op a b))))
def spIsInt : Sp := fun vs H Q _ => ∃ i : Int, vs = [.int i] ∧ Q (.bl true) H
def spIsInts (K : PySem.W.Frag) : Sp := fun vs H Q _ => ∃ (p : Addr) (ns : List Int), vs = [.ref p] ∧ SqT K H p (ns.map V.int) ∧ ns.length ≤ 100 ∧ ∀ H', Same H H' → Q (.bl true) H'
def spIsFrac (K : PySem.W.Frag) : Sp := fun vs H Q _ => ∃ (p : Addr) (x : F2), vs = [.ref p] ∧ H p = some (tupF x) ∧ Low x ∧ Sz 9000 x ∧ ∀ H', Same H H' → Q (.bl true) H'
def spLaw (K : PySem.W.Frag) : Sp := fun vs H Q _ => ∃ (a : Addr) (ns : List Int), vs = [.ref a] ∧ SqL K H a (ns.map V.int) ∧ ns.length ≤ 63 ∧ ∀ H', Q (.bl true) H'
theorem dp_F {K : PySem.W.Frag} {H : Hp} {p : Addr} {x : Int × Int} (h : SqT K H p (tupV x)) : Dp K H (.ref p) (dF x) := .tup h (.cons (.int _) (.cons (.int _) .nil))
theorem all_true {α : Type} (l : List α) : (l.map fun _ => true).all id = true := by
  rw [List.all_map]
  exact List.all_eq_true.mpr fun _ _ => rfl
def NT (o : HO) : Prop := (∀ xs, o ≠ .tup xs) ∧ ∀ ob u, o ≠ .frz ob u
theorem nt_lst (l : List V) : NT (.lst l) := ⟨fun _ e => (nomatch e), fun _ _ e => (nomatch e)⟩
theorem nt_dk (l : List (Key × V)) : NT (.dK l) := ⟨fun _ e => (nomatch e), fun _ _ e => (nomatch e)⟩
theorem DrawAt.upd {S D L : Addr} {H : Hp} {o : HO} (d : DrawAt S D H) (n1 : L ≠ D) (n2 : L ≠ S) : DrawAt S D (upd H L o) := by
  obtain ⟨cs, h1⟩ := d.cells
  obtain ⟨i, r, c, h0, h2⟩ := d.at_
  exact ⟨d.ne, ⟨cs, by rw [upd_ne n2.symm]; exact h1⟩, ⟨i, r, c, h0, by rw [upd_ne n1.symm]; exact h2⟩⟩
/-- the draws, and one thing F that may change -/
structure StF (S D F : Addr) (H : Hp) : Prop where
  dr : DrawAt S D H
  nS : F ≠ S
  fl : ∃ o, H F = some o ∧ NT o
def GoL (S D F : Addr) (H H' : Hp) : Prop := StF S D F H' ∧ ∀ b o, H b = some o → b ≠ D → b ≠ F → H' b = some o
section
variable {S D F L p : Addr} {H H1 H2 H' : Hp} {o : HO} {K : PySem.W.Frag}
theorem StF.of_draw (d : DrawAt S D H) : StF S D D H := ⟨d, d.ne.symm, let ⟨_, _, _, _, h⟩ := d.at_; ⟨_, h, nt_lst _⟩⟩
theorem StF.free (st : StF S D F H) (h : H p = none) : p ≠ D ∧ p ≠ S ∧ p ≠ F := by
  obtain ⟨o, hF, _⟩ := st.fl
  exact ⟨(st.dr.free h).1, (st.dr.free h).2, (ne_of_none hF h).symm⟩
theorem GoL.refl (st : StF S D F H) : GoL S D F H H := ⟨st, fun _ _ h _ _ => h⟩
theorem GoL.trans (a : GoL S D F H H1) (b : GoL S D F H1 H2) : GoL S D F H H2 := ⟨b.1, fun x o h n m => b.2 x o (a.2 x o h n m) n m⟩
theorem GoL.of_go (st : StF S D F H) (g : Go S D H H') : GoL S D F H H' := by
  refine ⟨⟨g.1, st.nS, ?_⟩, fun b o h n _ => g.2 b o h n⟩
  obtain ⟨o, hF, nt⟩ := st.fl
  by_cases e : F = D
  · rw [e]
    obtain ⟨_, _, _, _, h⟩ := g.1.at_
    exact ⟨_, h, nt_lst _⟩
  · exact ⟨o, g.2 F _ hF e, nt⟩
theorem GoL.to_go (g : GoL S D D H H') : Go S D H H' := ⟨g.1.dr, fun b o h n => g.2 b o h n n⟩
theorem GoL.mut (st : StF S D F H) (g : GoL S D F H H') (h : H L = none) : GoL S D F H (upd H' L o) := by
  obtain ⟨n1, n2, n3⟩ := st.free h
  obtain ⟨u, hF, nt⟩ := g.1.fl
  exact ⟨⟨g.1.dr.upd n1 n2, st.nS, ⟨u, by rw [upd_ne n3.symm]; exact hF, nt⟩⟩, fun b v hb m1 m2 => by
    rw [upd_ne (ne_of_none hb h)]
    exact g.2 b v hb m1 m2⟩
theorem GoL.new (st : StF S D F H) (h : H p = none) : GoL S D F H (upd H p o) := GoL.mut st (GoL.refl st) h
theorem GoL.setF (nD : F ≠ D) (nt : NT o) (g : GoL S D F H H') : GoL S D F H (upd H' F o) :=
  ⟨⟨g.1.dr.upd nD g.1.nS, g.1.nS, ⟨o, upd_same, nt⟩⟩, fun b v hb m1 m2 => by
    rw [upd_ne m2]
    exact g.2 b v hb m1 m2⟩
theorem GoL.back (st : StF S D F H) (g : GoL S D F H H') (h : H' p = none) : H p = none := by
  cases q : H p with
  | none => rfl
  | some u =>
    obtain ⟨n1, n2, n3⟩ := g.1.free h
    rw [g.2 p u q n1 n3] at h
    cases h
theorem nt_not {xs : List V} (nt : NT o) (h : H p = some o) (r : Rd H L (.tup xs)) : L ≠ p := fun e => by
  subst e
  rcases r with r | ⟨ob, r⟩
  · rw [h] at r
    exact nt.1 _ (Option.some.inj r)
  · rw [h] at r
    exact nt.2 _ _ (Option.some.inj r)
theorem GoL.keepT (st : StF S D F H) (g : GoL S D F H H') : KeepT H H' := fun p xs r => by
  obtain ⟨_, _, _, _, hD⟩ := st.dr.at_
  obtain ⟨o, hF, nt⟩ := st.fl
  have n1 := nt_not (nt_lst _) hD r
  have n2 := nt_not nt hF r
  rcases r with r | ⟨o, r⟩
  · exact .inl (g.2 _ _ r n1 n2)
  · exact .inr ⟨o, g.2 _ _ r n1 n2⟩
theorem Go.keepT (d : DrawAt S D H) (g : Go S D H H') : KeepT H H' := GoL.keepT (StF.of_draw d) (GoL.of_go (StF.of_draw d) g)
theorem keepT_nt {o2 : HO} (nt : NT o2) (h : H L = some o2) : KeepT H (upd H L o) := fun p xs r => by
  have n := nt_not nt h r
  rcases r with r | ⟨o, r⟩
  · exact .inl (by rw [upd_ne n]; exact r)
  · exact .inr ⟨o, by rw [upd_ne n]; exact r⟩
theorem noLs_of {α : Type} {f : α → PyData} (h : ∀ a, noL (f a) = true) (l : List α) : noLs (l.map f) = true := noLs_map f l fun a _ => h a
end
/-- a list that is being filled -/
structure BL (K : PySem.W.Frag) (S D F L : Addr) (H0 H : Hp) {α : Type} (f : α → PyData) (as : List α) : Prop where
  g : GoL S D F H0 H
  l : ∃ zs, H L = some (.lst zs) ∧ DpAll K H zs (as.map f)
section
variable {S D F L : Addr} {H0 H H1 : Hp} {K : PySem.W.Frag} {α : Type} {f : α → PyData} {as : List α}
theorem BL.nil (st : StF S D F H0) (h : H0 L = none) : BL K S D F L H0 (upd H0 L (.lst [])) f [] := ⟨GoL.new st h, [], upd_same, .nil⟩
theorem BL.go (st : StF S D F H0) (hL : H0 L = none) (hn : ∀ a, noL (f a) = true) (b : BL K S D F L H0 H f as) (g : GoL S D F H H1) : BL K S D F L H0 H1 f as := by
  obtain ⟨zs, h1, h2⟩ := b.l
  obtain ⟨n1, n2, n3⟩ := st.free hL
  exact ⟨b.g.trans g, zs, g.2 _ _ h1 n1 n3, dpA_keep (GoL.keepT b.g.1 g) _ _ (noLs_of hn as) h2⟩
theorem BL.add (st : StF S D F H0) (hL : H0 L = none) (hn : ∀ a, noL (f a) = true) {a : α} {x : V} {zs : List V} (g : GoL S D F H0 H) (h1 : H L = some (.lst zs)) (h2 : DpAll K H zs (as.map f)) (hx : Dp K H x (f a)) :
    BL K S D F L H0 (upd H L (.lst (zs ++ [x]))) f (as ++ [a]) := by
  have k := keepT_nt (o := .lst (zs ++ [x])) (nt_lst _) h1
  refine ⟨GoL.mut st g hL, zs ++ [x], upd_same, ?_⟩
  rw [List.map_append]
  exact dpA_snoc (dpA_keep k _ _ (noLs_of hn as) h2) (dp_keep k _ _ (hn a) hx)
theorem BL.len (b : BL K S D F L H0 H f as) : ∃ zs, H L = some (.lst zs) ∧ DpAll K H zs (as.map f) ∧ zs.length = as.length := by
  obtain ⟨zs, h1, h2⟩ := b.l
  exact ⟨zs, h1, h2, by have := dpA_len h2; rw [List.length_map] at this; exact this⟩
theorem GoL.drop {H' : Hp} (g : GoL S D F H H') (h : H F = none) : Go S D H H' := ⟨g.1.dr, fun b o hb n => g.2 b o hb n (ne_of_none hb h)⟩
end
theorem snoc_str (l : List Str) (z : Str) : l.map V.str ++ [V.str z] = (l ++ [z]).map V.str := by
  rw [List.map_append]
  rfl
theorem int_noL (p : Int) : noL (.int p) = true := rfl
theorem str_noL (p : Str) : noL (.str p) = true := rfl
/-! ### promises of the small draws -/
def spPop : Sp := fun vs H Q _ => ∃ (S D p : Addr) (xs : List V), vs = [.ref D, .ref p] ∧ DrawAt S D H ∧ p ≠ D ∧ H p = some (.lst xs) ∧ 0 < xs.length ∧ xs.length ≤ 1000 ∧ ∀ (H1 : Hp) (j : Nat) (x : V), Go S D H H1 → xs[j]? = some x → Q x (upd H1 p (.lst (xs.eraseIdx j)))
def spRare : Sp := fun vs H Q _ => ∃ (S D : Addr) (m : Int), vs = [.ref D, .int m] ∧ 0 < m ∧ m < 1000 ∧ DrawAt S D H ∧ ∀ H' b, Go S D H H' → Q (.bl b) H'
def spShuf (K : PySem.W.Frag) : Sp := fun vs H Q _ => ∃ (S D p : Addr) (xs : List V), vs = [.ref D, .ref p] ∧ DrawAt S D H ∧ SqL K H p xs ∧ xs.length ≤ 1000 ∧
  ∀ (H' : Hp) (q : Addr) (ys : List V), Go S D H H' → H q = none → H' q = some (.lst ys) → ys.length = xs.length → (∀ y ∈ ys, y ∈ xs) → Q (.ref q) H'
abbrev PA : Str := "a b2 sum left r k0 carry z9z full tail n m8 aa busy cnt p t4 even2 ab1 head u v2 w lowest high mid "
abbrev PB : Str := "s t e f g h i j k x y q7 deep turn gate l5 next1 o c0 d two zz1 near far9 last ring2 "
abbrev PC : Str := "aaaaaaa8 b c1 top2 net3 row col7 v"
def POOL : List Str := Txt.split (PA ++ PB ++ PC) " "
theorem pool_len : POOL.length = 60 := by decide +kernel
def spPool : Sp := fun vs H Q _ => vs = [] ∧ ∀ p, H p = none → Q (.ref p) (upd H p (.lst (POOL.map V.str)))
section
variable {P : Program} {w : World} {K : PySem.W.Frag} {mg : Str → Option Value} {base : Heap}
theorem ok__law_draw (T : Txt K mg) {f : Addr} {fd : FuncData} (F : FnP K "_law_draw" s__law_draw f fd) : FnOk P w K mg base CX0 1 f fd ["d", "many"] spDraw := by
  refine F.ok sc__law_draw (fun vs H Q E h => ?_) (fun cdv A outer s H vs Q E hr h => ?_)
  · obtain ⟨S, D, m, rfl, _⟩ := h
    rfl
  · obtain ⟨S, D, m, rfl, hm, d, q⟩ := h
    obtain ⟨cs, hS⟩ := id d.cells
    obtain ⟨i, r, c, h0, hD⟩ := id d.at_
    have hm0 : 0 < m := hm.1
    refine ⟨_, PSs.nox (pss_cons (ps_if (pt_cmpR op_gt (pe_ix ix_list (pv 0) pe_int (fun _ _ => rfl)) pe_int (nomark _)) (pss_cons (ps_set (i := 2) sc__law_draw.nd rfl (Or.inl rfl) (pe_ix ix_list (pv 0) pe_int (fun _ _ => rfl)))
      (pss_cons (ps_asg (pe_op op_fdivW (pv 2) (pv 1)) (pg_sub (pv 0) pe_int set_list))
      (pss_one (ps_ret (pe_op op_mod (pe_callTy call_int1 (by rfl) T.b_int (by decide +kernel) (pa_cons (pv 2) pa_nil)) (pv 1)))))) pss_nil)
      (pss_cons (ps_set (i := 3) sc__law_draw.nd rfl (Or.inl rfl) pe_int)
      (Evl.pss_cut (ps_if (pt_cmpR op_lt (pe_ix ix_list (pv 0) pe_int (fun _ _ => rfl)) (pe_callB call_len (by rfl) T.b_len (by decide +kernel) (pa_cons (pe_ix ix_list (pv 0) pe_int (fun _ _ => rfl)) pa_nil)) (nomark _)) (pss_cons (ps_set (i := 4) sc__law_draw.nd rfl (Or.inl rfl) (pe_ix ix_list (pe_ix ix_list (pv 0) pe_int (fun _ _ => rfl)) (pe_ix ix_list (pv 0) pe_int (fun _ _ => rfl)) (fun _ _ => rfl)))
      (pss_one (ps_set (i := 3) sc__law_draw.nd rfl (Or.inl rfl) (pe_op op_add (pe_op op_mul pe_int (pe_callB call_abs (by rfl) T.b_abs (by decide +kernel) (pa_cons (pv 4) pa_nil))) (pe_callTy call_int1 (by rfl) T.b_int (by decide +kernel) (pa_cons (pe_cmpR op_lt (pv 4) pe_int (nomark _)) pa_nil)))))) pss_nil)
      (pss_cons (ps_augS (pv 0) pe_int get_list pe_int ip_add set_list)
      (pss_cons (ps_if (pt_cmpR op_ge (pv 3) (pe_op op_mul pe_int (pe_op op_pow pe_int pe_int)) (nomark _)) (pss_cons (ps_set (i := 2) sc__law_draw.nd rfl (Or.inl rfl) (pe_op op_mod (pe_callTy call_int1 (by rfl) T.b_int (by decide +kernel) (pa_cons (pe_op op_fdivW (pv 3) pe_int) pa_nil)) (pe_op op_shl pe_int pe_int)))
      (pss_cons (ps_asg (pe_op op_fdivW (pv 2) (pv 1)) (pg_sub (pv 0) pe_int set_list))
      (pss_one (ps_ret (pe_op op_mod (pe_callTy call_int1 (by rfl) T.b_int (by decide +kernel) (pa_cons (pv 2) pa_nil)) (pv 1)))))) pss_nil)
      (pss_cons (ps_asg (pe_op op_mod (pe_callTy call_int1 (by rfl) T.b_int (by decide +kernel) (pa_cons (pe_op op_add (pe_op op_add (pe_op op_add (pe_op op_mul (pe_ix ix_list (pv 0) pe_int (fun _ _ => rfl)) pe_int) (pe_op op_mul (pe_op op_mod (pe_callTy call_int1 (by rfl) T.b_int (by decide +kernel) (pa_cons (pv 3) pa_nil)) pe_int) pe_int)) (pe_op op_mul (pe_ix ix_list (pv 0) pe_int (fun _ _ => rfl)) pe_int)) pe_int) pa_nil)) pe_int) (pg_sub (pv 0) pe_int set_list))
      (pss_one (ps_ret (pe_op op_mod (pe_callTy call_int1 (by rfl) T.b_int (by decide +kernel) (pa_cons (pe_op op_fdivW (pe_ix ix_list (pv 0) pe_int (fun _ _ => rfl)) pe_int) pa_nil)) (pv 1)))))))))), ?_⟩
    refine ⟨_, rfl, D, _, _, _, rfl, rfl, SqL.of hD, atI_nat (j := 2) rfl, _, _, rfl, rfl, _, rfl, ?_⟩
    refine ite2 (fun e => ?_) (fun e => ?_)
    · refine ⟨_, rfl, D, _, _, _, rfl, rfl, SqL.of hD, atI_nat (j := 2) rfl, ?_⟩
      refine ⟨_, rfl, _, rfl, _, _, rfl, rfl, hm, _, rfl, D, _, _, 2, rfl, rfl, hD, rfl, ?_⟩
      refine ⟨_, rfl, .inl ⟨_, rfl, _, rfl, _, _, rfl, rfl, hm0, ?_⟩⟩
      refine q _ _ (Int.emod_nonneg _ (by omega)) (Int.emod_lt_of_pos _ hm0) ⟨d.set h0, Keep.refl.set⟩
    · refine ⟨fun σ' H' => ∃ (z : Int) (x : Option V), σ' = [some (.ref D), some (.int m), none, some (.int z), x] ∧ H' = H, ?_, ?_⟩
      · refine ⟨_, rfl, D, _, _, _, rfl, rfl, SqL.of hD, atI_nat (j := 1) rfl, ?_⟩
        refine ⟨_, rfl, D, _, _, _, rfl, rfl, SqL.of hD, atI_nat (j := 0) rfl, _, _, rfl, .inl ⟨_, SqL.of hS, rfl⟩, _, _, rfl, rfl, _, rfl, ?_⟩
        refine ite2 (fun e1 => ?_) (fun e1 => ?_)
        · have e2 : i < ((cs.map V.int).length : Int) := of_decide_eq_true e1
          have e3 : i.toNat < (cs.map V.int).length := by omega
          have e4 : i.toNat < cs.length := by rw [List.length_map] at e3; exact e3
          have e5 : (cs.map V.int)[i.toNat]? = some (.int cs[i.toNat]) := by
            rw [List.getElem?_map, List.getElem?_eq_getElem e4]
            rfl
          have e6 : atI (cs.map V.int) i = some (.int cs[i.toNat]) := by
            have := atI_nat (xs := cs.map V.int) e5
            rw [show ((i.toNat : Nat) : Int) = i by omega] at this
            exact this
          refine ⟨_, rfl, D, _, _, _, rfl, rfl, SqL.of hD, atI_nat (j := 0) rfl, ?_⟩
          refine ⟨_, rfl, D, _, _, _, rfl, rfl, SqL.of hD, atI_nat (j := 1) rfl, ?_⟩
          refine ⟨S, _, _, _, rfl, rfl, SqL.of hS, e6, ?_⟩
          refine ⟨_, rfl, _, rfl, _, _, rfl, rfl, .inl ⟨by decide, by decide⟩, ?_⟩
          refine ⟨_, rfl, _, _, rfl, rfl, .inr ⟨_, rfl, _, _, rfl, rfl, ?_⟩⟩
          exact ⟨_, _, rfl, rfl⟩
        · exact ⟨_, _, rfl, rfl⟩
      · rintro σ' H' ⟨z, x, rfl, rfl⟩
        refine ⟨_, rfl, D, _, _, _, rfl, rfl, SqL.of hD, atI_nat (j := 1) rfl, ?_⟩
        refine ⟨_, _, rfl, rfl, D, _, _, 1, rfl, rfl, hD, rfl, ?_⟩
        have hD1 : (upd H' D (.lst [.ref S, .int (i + 1), .int r, .int c])) D = some (.lst [.ref S, .int (i + 1), .int r, .int c]) := upd_same
        have d1 : DrawAt S D (upd H' D (.lst [.ref S, .int (i + 1), .int r, .int c])) := d.set (by omega)
        refine ⟨_, rfl, _, _, rfl, rfl, ⟨by decide, by decide, by decide⟩, _, _, rfl, rfl, .inl ⟨by decide, by decide⟩, _, _, rfl, rfl, _, rfl, ?_⟩
        refine ite2 (fun e1 => ?_) (fun e1 => ?_)
        · refine ⟨_, rfl, _, _, rfl, rfl, ⟨by decide, by decide⟩, .inl ⟨_, rfl, _, _, rfl, rfl, ⟨by decide, by decide, by decide⟩, ?_⟩⟩
          refine ⟨_, _, rfl, rfl, ?_, ?_⟩
          · show (0 : Int) < 1 * 2 ^ (6000 : Int).toNat
            exact Int.mul_pos (by decide) (Int.pow_pos (by decide))
          · refine ⟨_, rfl, _, rfl, _, _, rfl, rfl, hm, _, rfl, D, _, _, 2, rfl, rfl, hD1, rfl, ?_⟩
            refine ⟨_, rfl, .inl ⟨_, rfl, _, rfl, _, _, rfl, rfl, hm0, ?_⟩⟩
            exact q _ _ (Int.emod_nonneg _ (by omega)) (Int.emod_lt_of_pos _ hm0) ⟨d1.set (by omega), Keep.refl.set.set⟩
        · refine ⟨_, rfl, D, _, _, _, rfl, rfl, SqL.of hD1, atI_nat (j := 3) rfl, _, _, rfl, rfl, .inr ⟨by decide, by decide⟩, ?_⟩
          refine ⟨_, rfl, .inl ⟨_, rfl, _, _, rfl, rfl, (by show (0 : Int) < 2147483629; decide), _, _, rfl, rfl, .inr ⟨by decide, by decide⟩, _, _, rfl, rfl, ?_⟩⟩
          refine ⟨_, rfl, D, _, _, _, rfl, rfl, SqL.of hD1, atI_nat (j := 1) rfl, _, _, rfl, rfl, .inr ⟨by decide, by decide⟩, _, _, rfl, rfl, _, _, rfl, rfl, .inl ⟨_, rfl, ?_⟩⟩
          refine ⟨_, _, rfl, rfl, (by show (0 : Int) < 2147483647; decide), _, rfl, D, _, _, 3, rfl, rfl, hD1, rfl, ?_⟩
          refine ⟨_, rfl, D, _, _, _, rfl, rfl, SqL.of upd_same, atI_nat (j := 3) rfl, _, _, rfl, rfl, ⟨by decide, by decide⟩, ?_⟩
          refine .inl ⟨_, rfl, _, rfl, _, _, rfl, rfl, hm0, ?_⟩
          exact q _ _ (Int.emod_nonneg _ (by omega)) (Int.emod_lt_of_pos _ hm0) ⟨d1.set (by omega), Keep.refl.set.set⟩
theorem ok__law_begin (T : Txt K mg) {f : Addr} {fd : FuncData} (F : FnP K "_law_begin" s__law_begin f fd) : FnOk P w K mg base CX0 1 f fd ["script"] (spBegin K) := by
  refine F.ok sc__law_begin (fun vs H Q E h => ?_) (fun cdv A outer s H vs Q E hr h => ?_)
  · obtain ⟨a, ns, rfl, _⟩ := h
    rfl
  · obtain ⟨a, ns, rfl, hS, hlen, q⟩ := h
    refine ⟨_, PSs.nox (pss_one (ps_ret (pe_lst (pa_cons (pe_lc (own := [("cell", 1)]) (g := (gName 1)) (tt := tYes) rfl sc__law_begin.nd (pi_list (pv 0)) (blkOk_by (N := N__law_begin) (sc := defScope s__law_begin) (by decide +kernel)) (fun _ _ _ _ _ => (pg_name (i := 1) sc__law_begin.nd rfl (Or.inl rfl))) (fun _ _ _ _ _ => pts_nil) (fun _ _ _ _ _ => (pe_callTy call_int1 (by rfl) T.b_int (by decide +kernel) (pa_cons (pv 1) pa_nil)))) (pa_cons pe_int (pa_cons pe_int (pa_cons pe_int pa_nil))))))), ?_⟩
    refine ⟨_, rfl, a, rfl, ⟨_, hS⟩, fun L hL => lc_list (xs := ns.map V.int) (fun i H' => H' = upd H L (.lst ((ns.take i).map V.int))) rfl (fun i H' _ e => ?_) ?_ ?_⟩
    · subst e
      exact (show Same H _ from fun b o h => by rw [upd_ne (ne_of_none h hL)]; exact h).seq hS
    · rintro i x H1 hi rfl
      obtain ⟨z, rfl, hz⟩ := getV hi
      refine ⟨rfl, _, rfl, .inl ⟨_, rfl, _, upd_same, ?_, ?_⟩⟩
      · rw [List.length_map, List.length_take]
        exact Nat.lt_of_le_of_lt (Nat.min_le_right _ _) (small1000 (by omega))
      · rw [upd_upd, take_map_succ (f := V.int) hz]
    · rintro H' rfl
      refine ⟨by show 4 ≤ sizeLine; decide, fun D hD => ?_⟩
      have nLD : D ≠ L := fun e => by
        rw [e, upd_same] at hD
        cases hD
      have hD0 : H D = none := by
        rw [upd_ne nLD] at hD
        exact hD
      refine q L D _ (fun b o h => ?_) hD0 ⟨fun e => nLD e.symm, ⟨ns, ?_⟩, ⟨0, 0, 7, by decide, upd_same⟩⟩
      · rw [upd_ne (ne_of_none h hD0), upd_ne (ne_of_none h hL)]
        exact h
      · rw [upd_ne (fun e => nLD e.symm), upd_same]
        rw [List.take_of_length_le (by rw [List.length_map]; exact Nat.le_refl _)]
theorem ok__law_pick (T : Txt K mg) (D__law_draw : Kept P w K mg base 1 "_law_draw" ["d", "many"] spDraw) {f : Addr} {fd : FuncData} (F : FnP K "_law_pick" s__law_pick f fd) : FnOk P w K mg base CX0 2 f fd ["d", "row"] (spPick K) := by
  refine F.ok sc__law_pick (fun vs H Q E h => ?_) (fun cdv A outer s H vs Q E hr h => ?_)
  · obtain ⟨S, D, r, xs, rfl, _⟩ := h
    rfl
  · obtain ⟨S, D, r, xs, rfl, d, hR, h0, h1, q⟩ := h
    refine ⟨_, PSs.nox (pss_one (ps_ret (pe_ix ix_seq (pv 1) (pe_d D__law_draw (hr.mono (by decide)) (by rfl) (pa_cons (pv 0) (pa_cons (pe_callB call_len (by rfl) T.b_len (by decide +kernel) (pa_cons (pv 1) pa_nil)) pa_nil))) (fun _ _ => rfl)))), ?_⟩
    refine ⟨r, rfl, _, rfl, _, rfl, r, xs.length, rfl, ?_, ?_⟩
    · rcases hR H (Go.refl d) with ⟨z, rfl, rfl⟩ | ⟨p, rfl, hp⟩ | ⟨p, rfl, hp⟩
      · refine ⟨?_, by simp [Str.length]⟩
        rw [List.length_map] at h1
        have : z.length = z.cps.toList.length := by simp [Str.length]
        rw [this]
        exact Nat.le_trans h1 (by decide)
      · exact .inl ⟨_, hp, rfl⟩
      · exact .inr ⟨_, hp, rfl⟩
    · refine ⟨S, D, _, rfl, divW_of (by omega) (by omega), d, fun H' v hv0 hv1 g => ?_⟩
      have hv : v.toNat < xs.length := by omega
      have e : ((v.toNat : Nat) : Int) = v := by omega
      have ex : xs[v.toNat]? = some xs[v.toNat] := List.getElem?_eq_getElem hv
      have ea : atI xs v = some xs[v.toNat] := by
        have := atI_nat (xs := xs) ex
        rw [e] at this
        exact this
      rcases hR H' g with ⟨z, rfl, rfl⟩ | ⟨p, rfl, hp⟩ | ⟨p, rfl, hp⟩
      · refine .inr (.inr ⟨z, v, z.cps.toList[v.toNat]'(by rw [List.length_map] at hv; exact hv), rfl, rfl, ?_, ?_, ?_⟩)
        · rw [List.length_map] at h1
          have : z.length = z.cps.toList.length := by simp [Str.length]
          rw [this]
          exact Nat.le_trans h1 (by decide)
        · have := atI_nat (xs := z.cps.toList) (List.getElem?_eq_getElem (show v.toNat < z.cps.toList.length by rw [List.length_map] at hv; exact hv))
          rw [e] at this
          exact this
        · refine q H' _ ?_ g
          exact List.mem_map_of_mem (List.getElem_mem _)
      · exact .inl ⟨p, xs, v, _, rfl, rfl, hp, ea, q H' _ (List.getElem_mem _) g⟩
      · exact .inr (.inl ⟨p, xs, v, _, rfl, rfl, hp, ea, q H' _ (List.getElem_mem _) g⟩)
theorem ok__law_pop (T : Txt K mg) (D__law_draw : Kept P w K mg base 1 "_law_draw" ["d", "many"] spDraw) {f : Addr} {fd : FuncData} (F : FnP K "_law_pop" s__law_pop f fd) : FnOk P w K mg base CX0 2 f fd ["d", "row"] spPop := by
  refine F.ok sc__law_pop (fun vs H Q E h => ?_) (fun cdv A outer s H vs Q E hr h => ?_)
  · obtain ⟨S, D, p, xs, rfl, _⟩ := h
    rfl
  · obtain ⟨S, D, p, xs, rfl, d, nD, hp, h0, h1, q⟩ := h
    refine ⟨_, PSs.nox (pss_one (ps_ret (pe_bm PySem.F.plainAttrs_list PySem.F.slot_list_pop PySem.F.type_list_pop mt_popAt (pv 1) (pa_cons (pe_d D__law_draw (hr.mono (by decide)) (by rfl) (pa_cons (pv 0) (pa_cons (pe_callB call_len (by rfl) T.b_len (by decide +kernel) (pa_cons (pv 1) pa_nil)) pa_nil))) pa_nil)))), ?_⟩
    refine ⟨_, rfl, .inl ⟨rfl, _, SqL.of hp⟩, _, rfl, _, rfl, _, _, rfl, .inl ⟨_, SqL.of hp, rfl⟩, S, D, _, rfl, divW_of (by omega) (by omega), d, fun H1 v v0 v1 g => ?_⟩
    have hv : v.toNat < xs.length := by omega
    have ex : xs[v.toNat]? = some xs[v.toNat] := List.getElem?_eq_getElem hv
    refine ⟨p, xs, v, v.toNat, _, rfl, rfl, g.2 _ _ hp nD, by omega, by omega, ?_, ex, q H1 _ _ g ex⟩
    exact seqIndex_of v0 (by omega)
theorem ok__law_rare (T : Txt K mg) (D__law_draw : Kept P w K mg base 1 "_law_draw" ["d", "many"] spDraw) {f : Addr} {fd : FuncData} (F : FnP K "_law_rare" s__law_rare f fd) : FnOk P w K mg base CX0 2 f fd ["d", "many"] spRare := by
  refine F.ok sc__law_rare (fun vs H Q E h => ?_) (fun cdv A outer s H vs Q E hr h => ?_)
  · obtain ⟨S, D, m, rfl, _⟩ := h
    rfl
  · obtain ⟨S, D, m, rfl, m0, m1, d, q⟩ := h
    refine ⟨_, PSs.nox (pss_one (ps_ret (pe_cmpR op_eq (pe_d D__law_draw (hr.mono (by decide)) (by rfl) (pa_cons (pv 0) (pa_cons (pv 1) pa_nil))) (pe_op op_fdivW (pv 1) pe_int) (nomark _)))), ?_⟩
    exact ⟨_, rfl, _, rfl, S, D, m, rfl, divW_of m0 (by omega), d, fun H1 v _ _ g => ⟨_, rfl, _, _, rfl, rfl, ⟨by decide, by decide⟩, rfl, q H1 _ g⟩⟩
theorem ok__law_pool (T : Txt K mg) {f : Addr} {fd : FuncData} (F : FnP K "_law_pool" s__law_pool f fd) : FnOk P w K mg base CX0 1 f fd [] spPool := by
  refine F.ok sc__law_pool (fun vs H Q E h => ?_) (fun cdv A outer s H vs Q E hr h => ?_)
  · obtain ⟨rfl, _⟩ := h
    rfl
  · obtain ⟨rfl, q⟩ := h
    refine ⟨_, PSs.nox (pss_cons (ps_set (i := 0) sc__law_pool.nd rfl (Or.inl rfl) pe_str)
      (pss_cons (ps_set (i := 0) sc__law_pool.nd rfl (Or.inl rfl) (pe_op op_add_str (pv 0) pe_str))
      (pss_one (ps_ret (pe_split (pe_op op_add_str (pv 0) pe_str) pe_str))))), ?_⟩
    exact ⟨_, rfl, _, _, rfl, rfl, by decide +kernel, _, rfl, _, _, rfl, rfl, by decide +kernel, ⟨_, rfl⟩, _, _, rfl, rfl, by decide +kernel, by decide +kernel, fun p hp => q p hp⟩
theorem ok_make_fraction (T : Txt K mg) {f : Addr} {fd : FuncData} (F : FnP K "make_fraction" s_make_fraction f fd) : FnOk P w K mg base CX0 1 f fd ["n", "d"] spFrac := by
  refine F.ok sc_make_fraction (fun vs H Q E h => ?_) (fun cdv A outer s H vs Q E hr h => ?_)
  · obtain ⟨n, d, rfl, _⟩ := h
    rfl
  · obtain ⟨n, d, rfl, hd, hz, q⟩ := h
    refine ⟨_, PSs.nox (Evl.pss_cut (ps_if (pt_cmpR op_lt (pv 1) pe_int (nomark _)) (pss_one (ps_par (i := 0) (j := 1) (by rfl) sc_make_fraction.nd rfl rfl (by decide) rfl rfl (pa_cons (pe_un un_neg (pv 0)) (pa_cons (pe_un un_neg (pv 1)) pa_nil)) (by rfl))) pss_nil)
      (pss_cons (ps_set (i := 2) sc_make_fraction.nd rfl (Or.inl rfl) (pe_callBfun cr_gcd (by rfl) T.f_gcd (pa_cons (pv 0) (pa_cons (pv 1) pa_nil))))
      (pss_one (ps_ret (pe_tup (pa_cons (pe_op op_fdivW (pv 0) (pv 2)) (pa_cons (pe_op op_fdivW (pv 1) (pv 2)) pa_nil))))))), ?_⟩
    have g0 := gg_pos (n := n) hd
    have gl := gg_le (n := n) hd
    have cw : CDivW 0 (gg n d : Int) := wide_div (b := 9000) (by omega) (Nat.lt_of_le_of_lt (by rw [Int.natAbs_natCast]; exact gl) hz.2) (by decide) (by decide)
    refine ⟨fun σ H' => σ = [some (.int (if d < 0 then -n else n)), some (.int (if d < 0 then -d else d)), none] ∧ H' = H, ?_, ?_⟩
    · refine ⟨_, rfl, _, _, rfl, rfl, _, rfl, ?_⟩
      refine ite2 (fun e => ?_) (fun e => ?_)
      · have e1 : d < 0 := of_decide_eq_true e
        rw [if_pos e1, if_pos e1]
        exact ⟨_, rfl, _, rfl, _, rfl, _, rfl, _, _, rfl, rfl, rfl⟩
      · have e1 : ¬ d < 0 := fun z => e (decide_eq_true z)
        rw [if_neg e1, if_neg e1]
        exact ⟨rfl, rfl⟩
    · rintro σ H' ⟨rfl, rfl⟩
      refine ⟨_, rfl, _, rfl, _, _, rfl, ?_⟩
      rw [gg_if]
      refine ⟨_, rfl, _, rfl, _, _, rfl, rfl, cw, _, rfl, _, rfl, _, _, rfl, rfl, cw, by show 2 ≤ sizeLine; decide, fun p hp => ?_⟩
      exact q p hp
theorem ok__law_frac (T : Txt K mg) {f : Addr} {fd : FuncData} (F : FnP K "_law_frac" s__law_frac f fd) : FnOk P w K mg base CX0 1 f fd ["n", "d"] spFrac := by
  refine F.ok sc__law_frac (fun vs H Q E h => ?_) (fun cdv A outer s H vs Q E hr h => ?_)
  · obtain ⟨n, d, rfl, _⟩ := h
    rfl
  · obtain ⟨n, d, rfl, hd, hz, q⟩ := h
    refine ⟨_, PSs.nox (Evl.pss_cut (ps_if (pt_cmpR op_lt (pv 1) pe_int (nomark _)) (pss_cons (ps_set (i := 0) sc__law_frac.nd rfl (Or.inl rfl) (pe_un un_neg (pv 0)))
      (pss_one (ps_set (i := 1) sc__law_frac.nd rfl (Or.inl rfl) (pe_un un_neg (pv 1))))) pss_nil)
      (pss_cons (ps_set (i := 2) sc__law_frac.nd rfl (Or.inl rfl) (pe_callB call_abs (by rfl) T.b_abs (by decide +kernel) (pa_cons (pv 0) pa_nil)))
      (pss_cons (ps_set (i := 3) sc__law_frac.nd rfl (Or.inl rfl) (pv 1))
      (pss_cons (ps_while PassesOwn.never (pt_cmpR op_gt (pv 3) pe_int (nomark _)) (pss_cons (ps_set (i := 4) sc__law_frac.nd rfl (Or.inl rfl) (pe_op op_mod (pe_callTy call_int1 (by rfl) T.b_int (by decide +kernel) (pa_cons (pv 2) pa_nil)) (pv 3)))
      (pss_cons (ps_set (i := 2) sc__law_frac.nd rfl (Or.inl rfl) (pv 3))
      (pss_one (ps_set (i := 3) sc__law_frac.nd rfl (Or.inl rfl) (pv 4))))))
      (pss_one (ps_ret (pe_tup (pa_cons (pe_op op_fdivW (pv 0) (pv 2)) (pa_cons (pe_op op_fdivW (pv 1) (pv 2)) pa_nil))))))))), ?_⟩
    have g0 := gg_pos (n := n) hd
    have gl := gg_le (n := n) hd
    have cw : CDivW 0 (gg n d : Int) := wide_div (b := 9000) (by omega) (Nat.lt_of_le_of_lt (by rw [Int.natAbs_natCast]; exact gl) hz.2) (by decide) (by decide)
    refine ⟨fun σ H' => σ = [some (.int (if d < 0 then -n else n)), some (.int (if d < 0 then -d else d)), none, none, none] ∧ H' = H, ?_, ?_⟩
    · refine ⟨_, rfl, _, _, rfl, rfl, _, rfl, ?_⟩
      refine ite2 (fun e => ?_) (fun e => ?_)
      · have e1 : d < 0 := of_decide_eq_true e
        rw [if_pos e1, if_pos e1]
        exact ⟨_, rfl, _, rfl, _, rfl, _, rfl, rfl, rfl⟩
      · have e1 : ¬ d < 0 := fun z => e (decide_eq_true z)
        rw [if_neg e1, if_neg e1]
        exact ⟨rfl, rfl⟩
    · rintro σ H' ⟨rfl, rfl⟩
      refine ⟨_, rfl, _, rfl, _, rfl, ?_⟩
      have ea : (if (if d < 0 then -n else n) < 0 then -(if d < 0 then -n else n) else (if d < 0 then -n else n)) = ((n.natAbs : Nat) : Int) := by
        split <;> split <;> omega
      have eb : (if d < 0 then -d else d) = ((d.natAbs : Nat) : Int) := by
        split <;> omega
      refine ⟨fun m σ' H1 => ∃ (x y : Nat) (r : Option V), σ' = [some (.int (if d < 0 then -n else n)), some (.int (if d < 0 then -d else d)), some (.int (x : Nat)), some (.int (y : Nat)), r] ∧ y = m ∧ Nat.gcd x y = gg n d ∧ H1 = H', ⟨_, n.natAbs, d.natAbs, none, ?_, rfl, rfl, rfl⟩, ?_⟩
      · rw [← ea, ← eb]
        rfl
      · rintro m σ' H1 ⟨x, y, r, rfl, rfl, hg, rfl⟩
        refine ⟨_, rfl, _, _, rfl, rfl, _, rfl, ?_⟩
        refine ite2 (fun e => ?_) (fun e => ?_)
        · have e1 : (0 : Int) < (y : Int) := of_decide_eq_true e
          have e2 : 0 < y := by omega
          refine ⟨fun σ2 H2 => ∃ r : Option V, σ2 = [some (.int (if d < 0 then -n else n)), some (.int (if d < 0 then -d else d)), some (.int (y : Nat)), some (.int ((x % y : Nat) : Int)), r] ∧ H2 = H1, ?_, ?_⟩
          · rintro σ2 H2 ⟨r, rfl, rfl⟩
            refine ⟨x % y, Nat.mod_lt _ e2, y, x % y, r, rfl, rfl, ?_, rfl⟩
            rw [← hg, Nat.gcd_comm x y, Nat.gcd_rec y x, Nat.gcd_comm]
          · exact ⟨_, rfl, .inl ⟨_, rfl, _, rfl, _, _, rfl, rfl, e1, _, rfl, _, rfl, _, rfl, rfl⟩⟩
        · have e1 : ¬ (0 : Int) < (y : Int) := fun z => e (decide_eq_true z)
          have e2 : y = 0 := by omega
          subst e2
          have e3 : x = gg n d := by rw [← hg, Nat.gcd_zero_right]
          subst e3
          exact ⟨_, rfl, _, rfl, _, _, rfl, rfl, cw, _, rfl, _, rfl, _, _, rfl, rfl, cw, by show 2 ≤ sizeLine; decide, fun p hp => q p hp⟩
theorem ok_sum_of (T : Txt K mg) (D_make_fraction : Kept P w K mg base 1 "make_fraction" ["n", "d"] spFrac) {f : Addr} {fd : FuncData} (F : FnP K "sum_of" s_sum_of f fd) : FnOk P w K mg base CX0 2 f fd ["a", "b"] (spBin K add2) := by
  refine F.ok sc_sum_of (fun vs H Q E h => ?_) (fun cdv A outer s H vs Q E hr h => ?_)
  · obtain ⟨p, p2, a, b, rfl, _⟩ := h
    rfl
  · obtain ⟨p, p2, a, b, rfl, hp, hp2, za, zb, hne, q⟩ := h
    refine ⟨_, PSs.nox (pss_one (ps_ret (pe_d D_make_fraction (hr.mono (by decide)) (by rfl) (pa_cons (pe_op op_add (pe_op op_mulW (pe_ix ix_tup (pv 0) pe_int (fun _ _ => rfl)) (pe_ix ix_tup (pv 1) pe_int (fun _ _ => rfl))) (pe_op op_mulW (pe_ix ix_tup (pv 1) pe_int (fun _ _ => rfl)) (pe_ix ix_tup (pv 0) pe_int (fun _ _ => rfl)))) (pa_cons (pe_op op_mulW (pe_ix ix_tup (pv 0) pe_int (fun _ _ => rfl)) (pe_ix ix_tup (pv 1) pe_int (fun _ _ => rfl))) pa_nil))))), ?_⟩
    exact ⟨_, rfl, p, _, _, _, rfl, rfl, hp, atI_nat (j := 0) rfl, _, rfl, p2, _, _, _, rfl, rfl, hp2, atI_nat (j := 1) rfl, _, _, rfl, rfl, wide_mul za.1 zb.2 (by decide) (by decide) (by decide), _, rfl, p2, _, _, _, rfl, rfl, hp2, atI_nat (j := 0) rfl, _, rfl, p, _, _, _, rfl, rfl, hp, atI_nat (j := 1) rfl, _, _, rfl, rfl, wide_mul zb.1 za.2 (by decide) (by decide) (by decide), _, _, rfl, rfl, _, rfl, p, _, _, _, rfl, rfl, hp, atI_nat (j := 1) rfl, _, rfl, p2, _, _, _, rfl, rfl, hp2, atI_nat (j := 1) rfl, _, _, rfl, rfl, wide_mul za.2 zb.2 (by decide) (by decide) (by decide), _, _, rfl, hne, sz_up (add2_sz za zb) (by decide), q⟩
theorem ok__law_plus (T : Txt K mg) (D__law_frac : Kept P w K mg base 1 "_law_frac" ["n", "d"] spFrac) {f : Addr} {fd : FuncData} (F : FnP K "_law_plus" s__law_plus f fd) : FnOk P w K mg base CX0 2 f fd ["a", "b"] (spBin K add2) := by
  refine F.ok sc__law_plus (fun vs H Q E h => ?_) (fun cdv A outer s H vs Q E hr h => ?_)
  · obtain ⟨p, p2, a, b, rfl, _⟩ := h
    rfl
  · obtain ⟨p, p2, a, b, rfl, hp, hp2, za, zb, hne, q⟩ := h
    refine ⟨_, PSs.nox (pss_one (ps_ret (pe_d D__law_frac (hr.mono (by decide)) (by rfl) (pa_cons (pe_op op_add (pe_op op_mulW (pe_ix ix_tup (pv 0) pe_int (fun _ _ => rfl)) (pe_ix ix_tup (pv 1) pe_int (fun _ _ => rfl))) (pe_op op_mulW (pe_ix ix_tup (pv 1) pe_int (fun _ _ => rfl)) (pe_ix ix_tup (pv 0) pe_int (fun _ _ => rfl)))) (pa_cons (pe_op op_mulW (pe_ix ix_tup (pv 0) pe_int (fun _ _ => rfl)) (pe_ix ix_tup (pv 1) pe_int (fun _ _ => rfl))) pa_nil))))), ?_⟩
    exact ⟨_, rfl, p, _, _, _, rfl, rfl, hp, atI_nat (j := 0) rfl, _, rfl, p2, _, _, _, rfl, rfl, hp2, atI_nat (j := 1) rfl, _, _, rfl, rfl, wide_mul za.1 zb.2 (by decide) (by decide) (by decide), _, rfl, p2, _, _, _, rfl, rfl, hp2, atI_nat (j := 0) rfl, _, rfl, p, _, _, _, rfl, rfl, hp, atI_nat (j := 1) rfl, _, _, rfl, rfl, wide_mul zb.1 za.2 (by decide) (by decide) (by decide), _, _, rfl, rfl, _, rfl, p, _, _, _, rfl, rfl, hp, atI_nat (j := 1) rfl, _, rfl, p2, _, _, _, rfl, rfl, hp2, atI_nat (j := 1) rfl, _, _, rfl, rfl, wide_mul za.2 zb.2 (by decide) (by decide) (by decide), _, _, rfl, hne, sz_up (add2_sz za zb) (by decide), q⟩
theorem ok__law_times (T : Txt K mg) (D__law_frac : Kept P w K mg base 1 "_law_frac" ["n", "d"] spFrac) {f : Addr} {fd : FuncData} (F : FnP K "_law_times" s__law_times f fd) : FnOk P w K mg base CX0 2 f fd ["a", "b"] (spBin K mul2) := by
  refine F.ok sc__law_times (fun vs H Q E h => ?_) (fun cdv A outer s H vs Q E hr h => ?_)
  · obtain ⟨p, p2, a, b, rfl, _⟩ := h
    rfl
  · obtain ⟨p, p2, a, b, rfl, hp, hp2, za, zb, hne, q⟩ := h
    refine ⟨_, PSs.nox (pss_one (ps_ret (pe_d D__law_frac (hr.mono (by decide)) (by rfl) (pa_cons (pe_op op_mulW (pe_ix ix_tup (pv 0) pe_int (fun _ _ => rfl)) (pe_ix ix_tup (pv 1) pe_int (fun _ _ => rfl))) (pa_cons (pe_op op_mulW (pe_ix ix_tup (pv 0) pe_int (fun _ _ => rfl)) (pe_ix ix_tup (pv 1) pe_int (fun _ _ => rfl))) pa_nil))))), ?_⟩
    exact ⟨_, rfl, p, _, _, _, rfl, rfl, hp, atI_nat (j := 0) rfl, _, rfl, p2, _, _, _, rfl, rfl, hp2, atI_nat (j := 0) rfl, _, _, rfl, rfl, wide_mul za.1 zb.1 (by decide) (by decide) (by decide), _, rfl, p, _, _, _, rfl, rfl, hp, atI_nat (j := 1) rfl, _, rfl, p2, _, _, _, rfl, rfl, hp2, atI_nat (j := 1) rfl, _, _, rfl, rfl, wide_mul za.2 zb.2 (by decide) (by decide) (by decide), _, _, rfl, hne, sz_up (mul2_sz za zb) (by decide), q⟩
theorem ok__law_minus (T : Txt K mg) (D__law_frac : Kept P w K mg base 1 "_law_frac" ["n", "d"] spFrac) {f : Addr} {fd : FuncData} (F : FnP K "_law_minus" s__law_minus f fd) : FnOk P w K mg base CX0 2 f fd ["a", "b"] (spBin K sub2) := by
  refine F.ok sc__law_minus (fun vs H Q E h => ?_) (fun cdv A outer s H vs Q E hr h => ?_)
  · obtain ⟨p, p2, a, b, rfl, _⟩ := h
    rfl
  · obtain ⟨p, p2, a, b, rfl, hp, hp2, za, zb, hne, q⟩ := h
    refine ⟨_, PSs.nox (pss_one (ps_ret (pe_d D__law_frac (hr.mono (by decide)) (by rfl) (pa_cons (pe_op op_sub (pe_op op_mulW (pe_ix ix_tup (pv 0) pe_int (fun _ _ => rfl)) (pe_ix ix_tup (pv 1) pe_int (fun _ _ => rfl))) (pe_op op_mulW (pe_ix ix_tup (pv 1) pe_int (fun _ _ => rfl)) (pe_ix ix_tup (pv 0) pe_int (fun _ _ => rfl)))) (pa_cons (pe_op op_mulW (pe_ix ix_tup (pv 0) pe_int (fun _ _ => rfl)) (pe_ix ix_tup (pv 1) pe_int (fun _ _ => rfl))) pa_nil))))), ?_⟩
    exact ⟨_, rfl, p, _, _, _, rfl, rfl, hp, atI_nat (j := 0) rfl, _, rfl, p2, _, _, _, rfl, rfl, hp2, atI_nat (j := 1) rfl, _, _, rfl, rfl, wide_mul za.1 zb.2 (by decide) (by decide) (by decide), _, rfl, p2, _, _, _, rfl, rfl, hp2, atI_nat (j := 0) rfl, _, rfl, p, _, _, _, rfl, rfl, hp, atI_nat (j := 1) rfl, _, _, rfl, rfl, wide_mul zb.1 za.2 (by decide) (by decide) (by decide), _, _, rfl, rfl, _, rfl, p, _, _, _, rfl, rfl, hp, atI_nat (j := 1) rfl, _, rfl, p2, _, _, _, rfl, rfl, hp2, atI_nat (j := 1) rfl, _, _, rfl, rfl, wide_mul za.2 zb.2 (by decide) (by decide) (by decide), _, _, rfl, hne, sz_up (sub2_sz za zb) (by decide), q⟩
end
end Mt
namespace Mt
open PySem PySem.Spec PyProof.Rows L2
/-! ### fractions over one denominator -/
structure Fr (f : F2) (N : Int) (M : Nat) : Prop where
  low : Low f
  eq : f.1 * (M : Int) = N * f.2
  pos : 0 < M
theorem Fr.of {x : Int × Int} {N : Int} {M : Nat} (h : x.2 ≠ 0) (e : x.1 * (M : Int) = N * x.2) (hM : 0 < M) : Fr (frp x) N M := by
  have h1 := frv (n := x.1) h
  have l := low_frp h
  refine ⟨l, ?_, hM⟩
  have h2 : ((frp x).1 * (M : Int)) * x.2 = (N * (frp x).2) * x.2 := by
    have h3 : (frp x).1 * x.2 = x.1 * (frp x).2 := h1
    grind
  exact Int.eq_of_mul_eq_mul_right h h2
theorem Fr.add {a b : F2} {N1 N2 : Int} {M : Nat} (ha : Fr a N1 M) (hb : Fr b N2 M) : Fr (frp (add2 a b)) (N1 + N2) M := by
  refine Fr.of (add2_ne ha.low hb.low) ?_ ha.pos
  have h1 := ha.eq
  have h2 := hb.eq
  show (a.1 * b.2 + b.1 * a.2) * (M : Int) = (N1 + N2) * (a.2 * b.2)
  grind
theorem mul2_ne {a b : F2} (ha : Low a) (hb : Low b) : (mul2 a b).2 ≠ 0 := add2_ne ha hb
theorem Fr.mul {a b : F2} {N1 N2 : Int} {M1 M2 : Nat} (ha : Fr a N1 M1) (hb : Fr b N2 M2) : Fr (frp (mul2 a b)) (N1 * N2) (M1 * M2) := by
  refine Fr.of (mul2_ne ha.low hb.low) ?_ (Nat.mul_pos ha.pos hb.pos)
  have h1 := ha.eq
  have h2 := hb.eq
  show (a.1 * b.1) * ((M1 * M2 : Nat) : Int) = (N1 * N2) * (a.2 * b.2)
  rw [Int.natCast_mul]
  grind
theorem Fr.zero {M : Nat} (h : 0 < M) : Fr (0, 1) 0 M := ⟨low0, by simp, h⟩
theorem low1 : Low (1, 1) := ⟨by decide, by decide⟩
theorem Fr.one : Fr (1, 1) 1 1 := ⟨low1, rfl, Nat.one_pos⟩
theorem Fr.uniq {a b : F2} {N : Int} {M : Nat} (ha : Fr a N M) (hb : Fr b N M) : a = b := by
  refine low_uniq ha.low hb.low ?_
  have h1 := ha.eq
  have h2 := hb.eq
  have hM : (M : Int) ≠ 0 := by
    have := ha.pos
    omega
  refine Int.eq_of_mul_eq_mul_right hM ?_
  grind
theorem Fr.sz {a : F2} {N : Int} {M k : Nat} (h : Fr a N M) (hN : N.natAbs < 2 ^ k) (hM : M < 2 ^ k) : Sz k a := by
  have e : a.1.natAbs * M = N.natAbs * a.2.natAbs := by
    have := congrArg Int.natAbs h.eq
    rw [Int.natAbs_mul, Int.natAbs_mul, Int.natAbs_natCast] at this
    exact this
  have p := h.low.pos
  have h0 := h.pos
  have h1 : a.2.natAbs ∣ M := Nat.Coprime.dvd_of_dvd_mul_left (Nat.Coprime.symm h.low.co) ⟨N.natAbs, by rw [e, Nat.mul_comm]⟩
  have h2 := Nat.le_of_dvd h0 h1
  refine ⟨?_, by omega⟩
  have h3 : a.1.natAbs * M ≤ N.natAbs * M := by
    rw [e]
    exact Nat.mul_le_mul_left _ h2
  have h4 := Nat.le_of_mul_le_mul_right h3 h0
  omega
/-! ### webs -/
end Mt
namespace Mt
open PySem PySem.Spec PyProof.Rows L2
theorem ixL {X : Cx} {K : PySem.W.Frag} (h : X.K = K) : IxR X (rIxL K) := h ▸ ix_list
theorem tupOfT {X : Cx} {K : PySem.W.Frag} (h : X.K = K) : CallR X (.type "tuple") (fun xs H Q => ∃ p ys, xs = [.ref p] ∧ ((SqL K H p ys ∧ ∀ l, H l = none → Q (.ref l) (upd H l (.tup ys))) ∨ (SqT K H p ys ∧ Q (.ref p) H))) := h ▸ call_tuple_of
theorem catA {X : Cx} {K : PySem.W.Frag} (h : X.K = K) : OpR X (binaryOp .Add) (rCatA K) := h ▸ op_catA
theorem srtK {X : Cx} {K : PySem.W.Frag} (h : X.K = K) (hu : X.A.units + 64 < cLine) : CallR X (.builtin "sorted") (SR.rSrt K) := h ▸ SR.cr_srt hu
theorem goU {S D L : Addr} {H0 H : Hp} {o : HO} (L0 : H0 L = none) (d0 : DrawAt S D H0) (g : Go S D H0 H) : Go S D H0 (upd H L o) := by
  obtain ⟨LD, LS⟩ := d0.free L0
  obtain ⟨cs, hc⟩ := g.1.cells
  obtain ⟨j, r, c, j0, hD⟩ := g.1.at_
  refine ⟨⟨g.1.ne, ⟨cs, ?_⟩, ⟨j, r, c, j0, ?_⟩⟩, fun b o h n => ?_⟩
  · rw [upd_ne LS.symm]
    exact hc
  · rw [upd_ne LD.symm]
    exact hD
  · rw [upd_ne (ne_of_none h L0)]
    exact g.2 b o h n
theorem catA_mono {K : PySem.W.Frag} {x y : V} {H : Hp} {Q Q' : VK} (h : rCatA K x y H Q) (m : ∀ x H, Q x H → Q' x H) : rCatA K x y H Q' := by
  obtain ⟨a, b, xs, ys, e1, e2, h1, h2, h3, q0, q1, q2⟩ := h
  exact ⟨a, b, xs, ys, e1, e2, h1, h2, h3, fun e => m _ _ (q0 e), fun e1 e2 => m _ _ (q1 e1 e2), fun e1 e2 p hp => m _ _ (q2 e1 e2 p hp)⟩
/-! ### words and chains -/
def dI (l : List Int) : PyData := .tuple (l.map .int)
def dSh (ss : List Str) : PyData := .tuple (ss.map .str)
abbrev Br : Type := List Int × List Str × Nat
def dBr (b : Br) : PyData := .tuple [dI b.1, dSh b.2.1, .int b.2.2]
def dRw (r : List Br) : PyData := .tuple (r.map dBr)
abbrev Chn : Type := List (List Br)
def dChn (base : Int) (C : Chn) : PyData := .tuple [.str "chain", .int base, .tuple (C.map dRw)]
theorem dI_noL (l : List Int) : noL (dI l) = true := noLs_map _ _ fun _ _ => rfl
theorem dSh_noL (l : List Str) : noL (dSh l) = true := noLs_map _ _ fun _ _ => rfl
theorem dBr_noL (b : Br) : noL (dBr b) = true := by
  show (noL (dI b.1) && (noL (dSh b.2.1) && (true && true))) = true
  rw [dI_noL, dSh_noL]
  rfl
theorem dRw_noL (r : List Br) : noL (dRw r) = true := noLs_map _ _ fun b _ => dBr_noL b
theorem dChn_noL (base : Int) (C : Chn) : noL (dChn base C) = true := by
  show (true && (true && (noLs (C.map dRw) && true))) = true
  rw [noLs_map _ _ fun r _ => dRw_noL r]
  rfl
theorem noLs_I (ws : List (List Int)) : noLs (ws.map dI) = true := noLs_map _ _ fun w _ => dI_noL w
section
variable {K : PySem.W.Frag} {H H' : Hp} {v : V}
theorem dp_strs : ∀ {ss : List Str} {xs : List V}, DpAll K H xs (ss.map .str) → xs = ss.map V.str
  | [], _, h => dpA_nil h
  | s :: r, _, h => by
    obtain ⟨x, t, rfl, h1, h2⟩ := dpA_cons h
    rw [dp_str h1, dp_strs h2]
    rfl
theorem strs_dp : ∀ ss : List Str, DpAll K H (ss.map V.str) (ss.map .str)
  | [] => .nil
  | s :: r => .cons (.str s) (strs_dp r)
theorem dp_ints : ∀ {ss : List Int} {xs : List V}, DpAll K H xs (ss.map .int) → xs = ss.map V.int
  | [], _, h => dpA_nil h
  | s :: r, _, h => by
    obtain ⟨x, t, rfl, h1, h2⟩ := dpA_cons h
    rw [dp_int h1, dp_ints h2]
    rfl
theorem ints_dp : ∀ ss : List Int, DpAll K H (ss.map V.int) (ss.map .int)
  | [] => .nil
  | s :: r => .cons (.int s) (ints_dp r)
theorem sh_of {p : Addr} {ss : List Str} (h : SqT K H p (ss.map V.str)) : Dp K H (.ref p) (dSh ss) := .tup h (strs_dp ss)
theorem sh_at {ss : List Str} (h : Dp K H v (dSh ss)) : ∃ p, v = .ref p ∧ SqT K H p (ss.map V.str) := by
  obtain ⟨p, xs, rfl, h1, h2⟩ := dp_tup h
  rw [dp_strs h2] at h1
  exact ⟨p, rfl, h1⟩
theorem i_of {p : Addr} {ss : List Int} (h : SqT K H p (ss.map V.int)) : Dp K H (.ref p) (dI ss) := .tup h (ints_dp ss)
theorem i_at {ss : List Int} (h : Dp K H v (dI ss)) : ∃ p, v = .ref p ∧ SqT K H p (ss.map V.int) := by
  obtain ⟨p, xs, rfl, h1, h2⟩ := dp_tup h
  rw [dp_ints h2] at h1
  exact ⟨p, rfl, h1⟩
theorem br_at {b : Br} (h : Dp K H v (dBr b)) : ∃ p x0 x1, v = .ref p ∧ SqT K H p [x0, x1, .int b.2.2] ∧ Dp K H x0 (dI b.1) ∧ Dp K H x1 (dSh b.2.1) := by
  obtain ⟨p, xs, rfl, h1, hA⟩ := dp_tup h
  obtain ⟨x0, r0, rfl, h0, hA⟩ := dpA_cons hA
  obtain ⟨x1, r1, rfl, h2, hA⟩ := dpA_cons hA
  obtain ⟨x2, r2, rfl, h3, hA⟩ := dpA_cons hA
  cases dpA_nil hA
  rw [dp_int h3] at h1
  exact ⟨p, x0, x1, rfl, h1, h0, h2⟩
theorem chn_at {base : Int} {C : Chn} (h : Dp K H v (dChn base C)) : ∃ p q xs, v = .ref p ∧ SqT K H p [.str "chain", .int base, .ref q] ∧ SqT K H q xs ∧ DpAll K H xs (C.map dRw) := by
  obtain ⟨p, xs, rfl, h1, hA⟩ := dp_tup h
  obtain ⟨x0, r0, rfl, h0, hA⟩ := dpA_cons hA
  obtain ⟨x1, r1, rfl, h2, hA⟩ := dpA_cons hA
  obtain ⟨x2, r2, rfl, h3, hA⟩ := dpA_cons hA
  cases dpA_nil hA
  rw [dp_str h0, dp_int h2] at h1
  obtain ⟨q, ys, rfl, h4, h5⟩ := dp_tup h3
  exact ⟨p, q, ys, rfl, h1, h4, h5⟩
theorem dpA_get {α : Type} {f : α → PyData} {l : List α} {xs : List V} {i : Nat} {a : α} (h : DpAll K H xs (l.map f)) (e : l[i]? = some a) : ∃ x, xs[i]? = some x ∧ Dp K H x (f a) := by
  have hl := dpA_len h
  rw [List.length_map] at hl
  have hi : i < l.length := (List.getElem?_eq_some_iff.mp e).1
  obtain ⟨x, hx⟩ : ∃ x, xs[i]? = some x := ⟨xs[i]'(by omega), List.getElem?_eq_getElem _⟩
  obtain ⟨d, h1, h2⟩ := dpA_at h hx
  rw [List.getElem?_map, e] at h1
  obtain rfl : f a = d := Option.some.inj h1
  exact ⟨x, hx, h2⟩
theorem dpA_mem {α : Type} {f : α → PyData} {l : List α} {xs : List V} {i : Nat} {x : V} (h : DpAll K H xs (l.map f)) (e : xs[i]? = some x) : ∃ a, l[i]? = some a ∧ Dp K H x (f a) := by
  obtain ⟨d, h1, h2⟩ := dpA_at h e
  obtain ⟨a, h3, rfl⟩ := map_at h1
  exact ⟨a, h3, h2⟩
theorem dpA_app : ∀ {ds es : List PyData} {xs ys : List V}, DpAll K H xs ds → DpAll K H ys es → DpAll K H (xs ++ ys) (ds ++ es)
  | [], _, _, _, h, h' => by
    rw [dpA_nil h]
    exact h'
  | d :: ds, _, _, _, h, h' => by
    obtain ⟨x, r, rfl, h1, h2⟩ := dpA_cons h
    exact .cons h1 (dpA_app h2 h')
theorem dpA_erase : ∀ {ds : List PyData} {xs : List V} (i : Nat), DpAll K H xs ds → DpAll K H (xs.eraseIdx i) (ds.eraseIdx i)
  | [], _, _, h => by
    rw [dpA_nil h]
    exact .nil
  | d :: ds, _, 0, h => by
    obtain ⟨x, r, rfl, h1, h2⟩ := dpA_cons h
    exact h2
  | d :: ds, _, i + 1, h => by
    obtain ⟨x, r, rfl, h1, h2⟩ := dpA_cons h
    exact .cons h1 (dpA_erase i h2)
end
def NP (a b : List Int) : Prop := ¬ a <+: b ∧ ¬ b <+: a
theorem NP.symm {a b : List Int} (h : NP a b) : NP b a := ⟨h.2, h.1⟩
theorem erase_perm {α : Type} : ∀ {l : List α} {i : Nat} {z : α}, l[i]? = some z → (z :: l.eraseIdx i).Perm l
  | [], i, _, h => by simp at h
  | x :: r, 0, z, h => by
    have : x = z := Option.some.inj h
    subst this
    exact .refl _
  | x :: r, i + 1, z, h => by
    have h' : r[i]? = some z := by simpa using h
    exact (List.Perm.swap x z _).trans ((erase_perm h').cons x)
theorem np_erase {l : List (List Int)} {i : Nat} {w u : List Int} (p : l.Pairwise NP) (h : l[i]? = some w) (hu : u ∈ l.eraseIdx i) : NP w u := by
  have q := ((erase_perm h).pairwise_iff fun {_ _} => NP.symm).mpr p
  exact (List.pairwise_cons.mp q).1 u hu
theorem np_snoc {u w : List Int} {x : Int} (h : NP w u) : NP u (w ++ [x]) := by
  refine ⟨fun k => ?_, fun k => h.1 ((List.prefix_append w [x]).trans k)⟩
  obtain ⟨t, ht⟩ := k
  rcases List.eq_nil_or_concat t with e | ⟨t', y, e⟩
  · subst e
    rw [List.append_nil] at ht
    rw [ht] at h
    exact h.1 (List.prefix_append w [x])
  · subst e
    rw [List.concat_eq_append, ← List.append_assoc] at ht
    have := (List.append_inj' ht rfl).1
    exact h.2 ⟨t', this⟩
/-- every tape that is long enough begins with one of them -/
structure Cmpl (base : Int) (ws : List (List Int)) : Prop where
  all : ∀ t : List Int, (∀ x ∈ t, 0 ≤ x ∧ x < base) → 3 ≤ t.length → ∃ w ∈ ws, w <+: t
  short : ∀ w ∈ ws, w.length ≤ 3
  one : ws = [[]] ∨ ∀ w ∈ ws, w ≠ []
  pf : ws.Pairwise NP
theorem Cmpl.start (base : Int) : Cmpl base [[]] := ⟨fun t _ _ => ⟨[], List.mem_singleton.mpr rfl, List.nil_prefix⟩, fun w h => by rw [List.mem_singleton.mp h]; exact Nat.zero_le _, .inl rfl, List.pairwise_singleton _ _⟩
def digits (base : Int) : List Int := (List.range base.toNat).map fun k : Nat => (0 : Int) + (k : Int)
theorem Cmpl.open {base : Int} {ws : List (List Int)} {i : Nat} {w : List Int} (c : Cmpl base ws) (hi : ws[i]? = some w) (hw : w.length < 3) : Cmpl base (ws.eraseIdx i ++ (digits base).map fun x => w ++ [x]) := by
  refine ⟨fun t ht hl => ?_, fun u hu => ?_, .inr fun u hu => ?_, ?_⟩
  · obtain ⟨u, hu, hp⟩ := c.all t ht hl
    by_cases e : u = w
    · subst e
      obtain ⟨r, rfl⟩ := hp
      cases r with
      | nil =>
        rw [List.append_nil] at hl
        omega
      | cons x r =>
        obtain ⟨h1, h2⟩ := ht x (List.mem_append.mpr (.inr List.mem_cons_self))
        refine ⟨u ++ [x], List.mem_append.mpr (.inr (List.mem_map.mpr ⟨x, List.mem_map.mpr ⟨x.toNat, List.mem_range.mpr (by omega), by omega⟩, rfl⟩)), ⟨r, by simp⟩⟩
    · refine ⟨u, List.mem_append.mpr (.inl ?_), hp⟩
      obtain ⟨j, hj⟩ := List.mem_iff_getElem?.mp hu
      have hji : j ≠ i := fun z => e (by rw [z, hi] at hj; exact (Option.some.inj hj).symm)
      rw [List.mem_eraseIdx_iff_getElem?]
      exact ⟨j, hji, hj⟩
  · rcases List.mem_append.mp hu with h | h
    · exact c.short u (List.mem_of_mem_eraseIdx h)
    · obtain ⟨x, _, rfl⟩ := List.mem_map.mp h
      rw [List.length_append, List.length_singleton]
      omega
  · rcases List.mem_append.mp hu with h | h
    · rcases c.one with e | e
      · rw [e] at h hi
        cases i with
        | zero => cases h
        | succ i => cases hi
      · exact e u (List.mem_of_mem_eraseIdx h)
    · obtain ⟨x, _, rfl⟩ := List.mem_map.mp h
      simp
  · refine List.pairwise_append.mpr ⟨c.pf.sublist (List.eraseIdx_sublist _ _), ?_, fun u hu v hv => ?_⟩
    · unfold digits
      rw [List.map_map, List.pairwise_map]
      refine (List.nodup_range (n := base.toNat)).imp fun {a b} hab => ?_
      have key : ∀ a b : Nat, a ≠ b → ¬ (w ++ [(0 : Int) + (a : Int)]) <+: (w ++ [(0 : Int) + (b : Int)]) := fun a b h k => by
        have e := k.eq_of_length (by rw [List.length_append, List.length_append]; rfl)
        have := (List.append_inj' e rfl).2
        have : (0 : Int) + (a : Int) = 0 + (b : Int) := (List.cons.inj this).1
        omega
      exact ⟨key a b hab, key b a hab.symm⟩
    · obtain ⟨x, _, rfl⟩ := List.mem_map.mp hv
      exact np_snoc (np_erase c.pf hi hu)
end Mt
namespace Mt
open PySem PySem.Spec PyProof.Rows L2
def spWords (K : PySem.W.Frag) : Sp := fun vs H Q _ => ∃ (S D : Addr) (base many : Int), vs = [.ref D, .int base, .int many] ∧ DrawAt S D H ∧ 2 ≤ base ∧ base ≤ 6 ∧ 0 ≤ many ∧ many ≤ 2 ∧
  ∀ (H' : Hp) (L : Addr) (xs : List V) (ws : List (List Int)), Go S D H H' → H L = none → H' L = some (.lst xs) → DpAll K H' xs (ws.map dI) → Cmpl base ws → 0 < ws.length → ws.length ≤ 20 → Q (.ref L) H'
def spShown (K : PySem.W.Frag) : Sp := fun vs H Q _ => ∃ (S D m : Addr) (ms : List Str), vs = [.ref D, .ref m] ∧ DrawAt S D H ∧ m ≠ D ∧ H m = some (.lst (ms.map V.str)) ∧ 0 < ms.length ∧ ms.length ≤ 100 ∧
  ∀ (H' : Hp) (p : Addr) (ss : List Str), Go S D H H' → H p = none → H' p = some (.tup (ss.map V.str)) → (∀ s ∈ ss, s ∈ ms) → ss.length ≤ 6 → Q (.ref p) H'
theorem dig_at {base : Int} {j : Nat} (h : j < base.toNat) : (digits base)[j]? = some (0 + (j : Int)) := by
  unfold digits
  rw [List.getElem?_map, List.getElem?_range h]
  rfl
theorem dig_len (base : Int) : (digits base).length = base.toNat := by
  unfold digits
  rw [List.length_map, List.length_range]
theorem alike_I (a b : List Int) : PySem.W.alike (dI a) (dI b) = true := by
  unfold dI
  simp [PySem.W.alike, PySem.W.alike_ints]
theorem dep_I (a : List Int) : (dI a).depth ≤ 1 := by
  unfold dI
  simp [PyData.depth, PySem.W.depth_ints]
theorem srt_words {base : Int} {ws : List (List Int)} (c : Cmpl base ws) : SR.SrtOk (ws.map dI) := by
  refine ⟨PySem.W.AllAlike.of alike_I, ?_, fun d hd => ?_⟩
  · rcases c.one with e | e
    · right
      rw [e]
      rfl
    · left
      left
      intro d hd
      obtain ⟨w, hw, rfl⟩ := List.mem_map.mp hd
      cases h : w with
      | nil => exact absurd h (e w hw)
      | cons x r => exact ⟨_, _, rfl⟩
  · obtain ⟨w, hw, rfl⟩ := List.mem_map.mp hd
    exact Nat.le_trans (dep_I w) (by decide)
/-- data beside the values -/
theorem zip_dp {K : PySem.W.Frag} {H : Hp} : ∀ {ds : List PyData} {xs : List V}, DpAll K H xs ds → (xs.zip ds).map (·.1) = xs ∧ (xs.zip ds).map (·.2) = ds ∧ ∀ b ∈ xs.zip ds, Dp K H b.1 b.2
  | [], _, h => by
    rw [dpA_nil h]
    exact ⟨rfl, rfl, fun _ h => absurd h List.not_mem_nil⟩
  | d :: ds, _, h => by
    obtain ⟨x, r, rfl, h1, h2⟩ := dpA_cons h
    obtain ⟨a, b, c⟩ := zip_dp h2
    refine ⟨by rw [List.zip_cons_cons, List.map_cons, a], by rw [List.zip_cons_cons, List.map_cons, b], fun y hy => ?_⟩
    rw [List.zip_cons_cons] at hy
    rcases List.mem_cons.mp hy with rfl | hy
    · exact h1
    · exact c y hy
theorem dpA_of {K : PySem.W.Frag} {H : Hp} : ∀ {bs : List (V × PyData)}, (∀ b ∈ bs, Dp K H b.1 b.2) → DpAll K H (bs.map (·.1)) (bs.map (·.2))
  | [], _ => .nil
  | b :: r, h => .cons (h b List.mem_cons_self) (dpA_of fun x hx => h x (List.mem_cons_of_mem _ hx))
theorem perm_back {α β : Type} {f : α → β} {l : List α} {l2 : List β} (h : l2.Perm (l.map f)) : ∃ l' : List α, l'.Perm l ∧ l2 = l'.map f := by
  generalize hm : l.map f = m at h
  induction h generalizing l with
  | nil =>
    cases l with
    | nil => exact ⟨[], .nil, rfl⟩
    | cons x r => cases hm
  | @cons x l1 l2 p ih =>
    cases l with
    | nil => cases hm
    | cons y r =>
      obtain ⟨e1, e2⟩ := List.cons.inj hm
      obtain ⟨l', h1, h2⟩ := ih e2
      exact ⟨y :: l', h1.cons y, by rw [List.map_cons, e1, h2]⟩
  | @swap x y l1 =>
    match l, hm with
    | a :: b :: r, hm =>
      obtain ⟨e1, e2⟩ := List.cons.inj hm
      obtain ⟨e3, e4⟩ := List.cons.inj e2
      exact ⟨b :: a :: r, .swap a b r, by rw [List.map_cons, List.map_cons, e1, e3, e4]⟩
  | @trans l1 l2 l3 p1 p2 ih1 ih2 =>
    obtain ⟨l', h1, h2⟩ := ih2 hm
    obtain ⟨l'', h3, h4⟩ := ih1 h2.symm
    exact ⟨l'', h3.trans h1, h4⟩
theorem Cmpl.perm {base : Int} {ws ws' : List (List Int)} (c : Cmpl base ws) (p : ws'.Perm ws) : Cmpl base ws' := by
  refine ⟨fun t h1 h2 => ?_, fun w hw => c.short w (p.mem_iff.mp hw), ?_, (p.pairwise_iff fun {_ _} => NP.symm).mpr c.pf⟩
  · obtain ⟨w, hw, h⟩ := c.all t h1 h2
    exact ⟨w, p.mem_iff.mpr hw, h⟩
  · rcases c.one with e | e
    · left
      rw [e] at p
      exact List.perm_singleton.mp p
    · exact .inr fun w hw => e w (p.mem_iff.mp hw)
section
variable {P : Program} {w : World} {K : PySem.W.Frag} {mg : Str → Option Value} {base : Heap}
theorem ok__law_words (T : Txt K mg) (D__law_draw : Kept P w K mg base 1 "_law_draw" ["d", "many"] spDraw) {f : Addr} {fd : FuncData} (F : FnP K "_law_words" s__law_words f fd) : FnOk P w K mg base CX0 2 f fd ["d", "base", "many"] (spWords K) := by
  refine F.ok sc__law_words (fun vs H Q E h => ?_) (fun cdv A outer s H vs Q E hr h => ?_)
  · obtain ⟨S, D, b, many, rfl, _⟩ := h
    rfl
  · obtain ⟨S, D, b, many, rfl, d, b2, b6, m0, m2, q⟩ := h
    refine ⟨_, PSs.nox (pss_cons (ps_set (i := 3) sc__law_words.nd rfl (Or.inl rfl) (pe_lst (pa_cons (pe_tup pa_nil) pa_nil)))
      (pss_cons (ps_for PassesOwn.never rfl (pi_range1 (by rfl) T.b_range (pa_cons (pv 2) pa_nil)) (pg_name (i := 4) sc__law_words.nd rfl (Or.inl rfl)) (pss_cons (ps_set (i := 5) sc__law_words.nd rfl (Or.inl rfl) (pe_d D__law_draw (hr.mono (by decide)) (by rfl) (pa_cons (pv 0) (pa_cons (pe_callB call_len (by rfl) T.b_len (by decide +kernel) (pa_cons (pv 3) pa_nil)) pa_nil))))
      (pss_one (ps_if (pt_cmpR op_lt (pe_callB call_len (by rfl) T.b_len (by decide +kernel) (pa_cons (pe_ix ix_list (pv 3) (pv 5) (fun _ _ => rfl)) pa_nil)) pe_int (nomark _)) (pss_cons (ps_set (i := 6) sc__law_words.nd rfl (Or.inr rfl) (pe_bm PySem.F.plainAttrs_list PySem.F.slot_list_pop PySem.F.type_list_pop mt_popAt (pv 3) (pa_cons (pv 5) pa_nil)))
      (pss_one (ps_set (i := 3) sc__law_words.nd rfl (Or.inl rfl) (pe_op op_cat (pv 3) (pe_lc (own := [("digit", 7)]) (g := (gName 7)) (tt := tYes) rfl sc__law_words.nd (pi_range1 (by rfl) T.b_range (pa_cons (pv 1) pa_nil)) (blkOk_by (N := N__law_words) (sc := defScope s__law_words) (by decide +kernel)) (fun _ _ _ _ _ => (pg_name (i := 7) sc__law_words.nd rfl (Or.inl rfl))) (fun _ _ _ _ _ => pts_nil) (fun _ _ _ _ _ => (pe_op (catA (K := K) rfl) (pv 6) (pe_tup (pa_cons (pv 7) pa_nil))))))))) pss_nil))))
      (pss_one (ps_ret (pe_callB (srtK (K := K) rfl hr.units) (by rfl) T.b_sorted (by decide +kernel) (pa_cons (pv 3) pa_nil)))))), ?_⟩
    refine ⟨Nat.zero_le _, fun p0 hp0 => ⟨by show 1 ≤ sizeLine; decide, fun L0 hL0 => ?_⟩⟩
    have g1 := Go.new (o := .tup []) d hp0
    have g2 := g1.trans (Go.new (o := .lst [.ref p0]) g1.1 hL0)
    have L00 := g1.free d hL0
    have hp2 : (upd (upd H p0 (.tup [])) L0 (.lst [.ref p0])) p0 = some (.tup []) := same_new hL0 _ _ upd_same
    refine ⟨_, rfl, _, rfl, by omega, by omega, for_range (lo := 0) (n := many.toNat) (fun i σ H' => ∃ (y4 y5 y6 y7 : Option V) (Lw : Addr) (xs : List V) (ws : List (List Int)), σ = [some (.ref D), some (.int b), some (.int many), some (.ref Lw), y4, y5, y6, y7] ∧ Go S D H H' ∧ H Lw = none ∧ H' Lw = some (.lst xs) ∧ DpAll K H' xs (ws.map dI) ∧ Cmpl b ws ∧ 0 < ws.length ∧ ws.length ≤ 1 + 6 * i) ⟨_, _, _, _, L0, _, [[]], rfl, g2, L00, upd_same, .cons (i_of (ss := []) (SqT.of hp2)) .nil, Cmpl.start b, by decide, by decide⟩ ?_ ?_⟩
    · rintro i σ H1 hi ⟨y4, y5, y6, y7, Lw, xs, ws, rfl, g, hL0, hL, hA, hc, l0, l1⟩
      have LD := (d.free hL0).1
      have xl := dpA_len hA
      rw [List.length_map] at xl
      refine ⟨_, rfl, _, rfl, _, _, rfl, .inl ⟨_, SqL.of hL, rfl⟩, S, D, _, rfl, divW_of (by omega) (by omega), g.1, fun H2 v v0 v1 g2 => ?_⟩
      have hv : v.toNat < xs.length := by omega
      have ex : xs[v.toNat]? = some xs[v.toNat] := List.getElem?_eq_getElem hv
      have hL2 := g2.2 _ _ hL LD
      have hA2 := dpA_keep (Go.keepT g.1 g2) _ _ (noLs_I ws) hA
      obtain ⟨wd, hw, hx⟩ := dpA_mem hA2 ex
      obtain ⟨pw, hpw, hpT⟩ := i_at hx
      have ea : atI xs v = some (.ref pw) := by
        have := atI_nat (xs := xs) ex
        rw [hpw, show ((v.toNat : Nat) : Int) = v by omega] at this
        exact this
      refine ⟨_, rfl, _, rfl, Lw, xs, v, _, rfl, rfl, SqL.of hL2, ea, _, _, rfl, .inr ⟨_, hpT, rfl⟩, ?_⟩
      refine ⟨_, _, rfl, rfl, _, rfl, ?_⟩
      refine ite2 (fun e3 => ?_) (fun _ => ⟨_, _, _, _, Lw, xs, ws, rfl, g.trans g2, hL0, hL2, hA2, hc, l0, by omega⟩)
      have hw3 : wd.length < 3 := by
        have := of_decide_eq_true e3
        rw [List.length_map] at this
        omega
      refine ⟨_, rfl, .inl ⟨rfl, _, SqL.of hL2⟩, _, rfl, Lw, xs, v, v.toNat, _, rfl, rfl, hL2, by omega, by omega, seqIndex_of v0 (by omega), ex, ?_⟩
      rw [hpw]
      have kL := keepT_nt (o := .lst (xs.eraseIdx v.toNat)) (nt_lst _) hL2
      have g3 : Go S D H (upd H2 Lw (.lst (xs.eraseIdx v.toNat))) := goU hL0 d (g.trans g2)
      have hL3 := upd_same (H := H2) (a := Lw) (o := .lst (xs.eraseIdx v.toNat))
      have hA3 := dpA_keep kL _ _ (noLs_I ws) hA2
      have hp3 := sqt_keep kL hpT
      generalize upd H2 Lw (.lst (xs.eraseIdx v.toNat)) = H3 at g3 hL3 hA3 hp3
      refine ⟨_, rfl, _, rfl, _, rfl, by omega, by omega, fun Lc hLc => lc_range (lo := 0) (n := b.toNat) (fun j H' => Same H3 H' ∧ ∃ zs, H' Lc = some (.lst zs) ∧ DpAll K H' zs ((((digits b).take j).map fun x => wd ++ [x]).map dI)) ⟨same_new hLc, [], upd_same, .nil⟩ ?_ ?_⟩
      · rintro j H4 hj ⟨s4, zs, hz, hzA⟩
        refine ⟨rfl, _, rfl, _, rfl, by show 1 ≤ sizeLine; decide, fun p1 hp1 => ?_⟩
        have s5 := s4.trans (same_new (o := .tup [V.int (0 + (j : Int))]) hp1)
        have h15 := upd_same (H := H4) (a := p1) (o := .tup [V.int (0 + (j : Int))])
        have hz5 := same_new (o := .tup [V.int (0 + (j : Int))]) hp1 _ _ hz
        have hzA5 := dpA_keep (keepT_new (o := .tup [V.int (0 + (j : Int))]) hp1) _ _ (noLs_I _) hzA
        generalize upd H4 p1 (.tup [V.int (0 + (j : Int))]) = H5 at s5 h15 hz5 hzA5
        have hdj := dig_at (base := b) hj
        have zl := dpA_len hzA5
        rw [List.length_map, List.length_map, List.length_take] at zl
        have fin : ∀ (H6 : Hp) (p : Addr), Same H5 H6 → SqT K H6 p ((wd ++ [0 + (j : Int)]).map V.int) → ∃ acc, H6 Lc = some (.lst acc) ∧ acc.length < sizeLine ∧ Same H3 (upd H6 Lc (.lst (acc ++ [.ref p]))) ∧ ∃ zs, upd H6 Lc (.lst (acc ++ [.ref p])) Lc = some (.lst zs) ∧ DpAll K (upd H6 Lc (.lst (acc ++ [.ref p]))) zs ((((digits b).take (j + 1)).map fun x => wd ++ [x]).map dI) := fun H6 p s6 hp => by
          have hz6 := s6 _ _ hz5
          have kc := keepT_nt (o := .lst (zs ++ [.ref p])) (nt_lst _) hz6
          refine ⟨zs, hz6, line6 (by omega), same_mut (s5.trans s6) hLc, zs ++ [.ref p], upd_same, ?_⟩
          rw [List.take_add_one, hdj, List.map_append, List.map_append]
          exact dpA_snoc (dpA_keep kc _ _ (noLs_I _) (dpA_keep (KeepT.of_same s6) _ _ (noLs_I _) hzA5)) (dp_keep kc _ _ (dI_noL _) (i_of hp))
        have hpw5 := sqt_keep (KeepT.of_same s5) hp3
        refine ⟨pw, p1, _, _, rfl, rfl, hpw5, SqT.of h15, by rw [List.length_map]; exact line5 (by show _ + 1 ≤ _; omega), fun e => ?_, fun _ e => (by cases e), fun _ _ p hp => ?_⟩
        · have : wd = [] := List.map_eq_nil_iff.mp e
          subst this
          exact fin H5 p1 (Same.refl _) (SqT.of h15)
        · exact fin _ p (same_new hp) (SqT.of (by rw [upd_same, List.map_append]; rfl))
      · rintro H4 ⟨s4, zs, hz, hzA⟩
        rw [List.take_of_length_le (by rw [dig_len]; exact Nat.le_refl _)] at hzA
        have zl := dpA_len hzA
        rw [List.length_map, List.length_map, dig_len] at zl
        have hA4 := dpA_keep (KeepT.of_same s4) _ _ (noLs_I ws) hA3
        have hE := dpA_erase v.toNat hA4
        refine ⟨Lw, Lc, _, zs, rfl, rfl, s4 _ _ hL3, hz, by rw [List.length_eraseIdx_of_lt hv]; exact line5 (by omega), fun Ln hLn => ?_⟩
        have s5 := same_new (o := .lst (xs.eraseIdx v.toNat ++ zs)) hLn
        have k5 := KeepT.of_same s5
        have hLnH : H Ln = none := by
          have g4 := g3.trans (Go.same g3.1 s4)
          exact g4.free d hLn
        have ee : (ws.map dI).eraseIdx v.toNat = (ws.eraseIdx v.toNat).map dI := by
          simp [List.eraseIdx_eq_take_drop_succ]
        rw [ee] at hE
        have wl : (ws.eraseIdx v.toNat).length + 1 = ws.length := by
          rw [List.length_eraseIdx_of_lt (by omega)]
          omega
        refine ⟨_, _, _, _, Ln, _, ws.eraseIdx v.toNat ++ (digits b).map fun x => wd ++ [x], rfl, g3.trans (Go.same g3.1 (s4.trans s5)), hLnH, upd_same, ?_, hc.open hw hw3, ?_, ?_⟩
        · rw [List.map_append]
          exact dpA_app (dpA_keep k5 _ _ (noLs_I _) hE) (dpA_keep k5 _ _ (noLs_I _) hzA)
        · rw [List.length_append, List.length_map, dig_len]
          omega
        · rw [List.length_append, List.length_map, dig_len]
          omega
    · rintro σ H1 ⟨y4, y5, y6, y7, Lw, xs, ws, rfl, g, hL0, hL, hA, hc, l0, l1⟩
      obtain ⟨z1, z2, z3⟩ := zip_dp hA
      refine ⟨_, rfl, Lw, xs.zip (ws.map dI), rfl, SqL.of (by rw [z1]; exact hL), z3, by rw [z2]; exact srt_words hc, fun ys p hy hp => ?_⟩
      have hperm : (ys.map (·.2)).Perm (ws.map dI) := by
        have := hy.map (fun b : V × PyData => b.2)
        rw [z2] at this
        exact this
      obtain ⟨ws', w1, w2⟩ := perm_back hperm
      have gp := Go.new (o := .lst (ys.map (·.1))) g.1 hp
      have hA' := dpA_of (bs := ys) fun b hb => z3 b (hy.mem_iff.mp hb)
      rw [w2] at hA'
      exact q _ p _ ws' (g.trans gp) (g.free d hp) upd_same (dpA_keep (Go.keepT g.1 gp) _ _ (noLs_I ws') hA') (hc.perm w1) (by rw [w1.length_eq]; exact l0) (by rw [w1.length_eq]; omega)
end
end Mt
namespace Mt
open PySem PySem.Spec PyProof.Rows L2
structure RwOk (base : Int) (n : Nat) (r : List Br) : Prop where
  ne : 0 < r.length
  few : r.length ≤ 20
  to : ∀ b ∈ r, b.2.2 < n ∧ b.2.1.length ≤ 6
  cm : Cmpl base (r.map (·.1))
structure ChnOk (base : Int) (C : Chn) : Prop where
  b2 : 2 ≤ base
  b6 : base ≤ 6
  pos : 0 < C.length
  few : C.length ≤ 50
  row : ∀ r ∈ C, RwOk base C.length r
def spWChain (K : PySem.W.Frag) : Sp := fun vs H Q _ => ∃ (S D m : Addr) (base n : Int) (ms : List Str), vs = [.ref D, .int base, .int n, .ref m] ∧ DrawAt S D H ∧ m ≠ D ∧ H m = some (.lst (ms.map V.str)) ∧ 0 < ms.length ∧ ms.length ≤ 100 ∧ 2 ≤ base ∧ base ≤ 6 ∧ 1 ≤ n ∧ n ≤ 50 ∧
  ∀ (H' : Hp) (v : V) (C : Chn), Go S D H H' → Dp K H' v (dChn base C) → ChnOk base C → C.length = n.toNat → Q v H'
def spRChain (K : PySem.W.Frag) : Sp := fun vs H Q _ => ∃ (S D m : Addr) (n : Int) (ms : List Str), vs = [.ref D, .ref m, .int n] ∧ DrawAt S D H ∧ m ≠ D ∧ H m = some (.lst (ms.map V.str)) ∧ 0 < ms.length ∧ ms.length ≤ 100 ∧ 1 ≤ n ∧ n ≤ 50 ∧
  ∀ (H' : Hp) (v : V) (base : Int) (C : Chn), Go S D H H' → Dp K H' v (dChn base C) → ChnOk base C → Q v H'
theorem noLs_br (r : List Br) : noLs (r.map dBr) = true := noLs_map _ _ fun b _ => dBr_noL b
theorem noLs_rw (C : Chn) : noLs (C.map dRw) = true := noLs_map _ _ fun r _ => dRw_noL r
section
variable {P : Program} {w : World} {K : PySem.W.Frag} {mg : Str → Option Value} {base : Heap}
theorem ok__law_wide_shown (T : Txt K mg) (D__law_pick : Kept P w K mg base 2 "_law_pick" ["d", "row"] (spPick K)) {f : Addr} {fd : FuncData} (F : FnP K "_law_wide_shown" s__law_wide_shown f fd) : FnOk P w K mg base CX0 3 f fd ["d", "marks"] (spShown K) := by
  refine F.ok sc__law_wide_shown (fun vs H Q E h => ?_) (fun cdv A outer s H vs Q E hr h => ?_)
  · obtain ⟨S, D, m, ms, rfl, _⟩ := h
    rfl
  · obtain ⟨S, D, m, ms, rfl, d, nD, hm, h0, h1, q⟩ := h
    refine ⟨_, PSs.nox (pss_one (ps_ret (pe_callTy (tupOfT (K := K) rfl) (by rfl) T.b_tuple (by decide +kernel) (pa_cons (pe_lc (own := [("k", 2)]) (g := (gName 2)) (tt := tYes) rfl sc__law_wide_shown.nd (pi_range1 (by rfl) T.b_range (pa_cons (pe_d D__law_pick (hr.mono (by decide)) (by rfl) (pa_cons (pv 0) (pa_cons (pe_lst (pa_cons pe_int (pa_cons pe_int (pa_cons pe_int (pa_cons pe_int (pa_cons pe_int (pa_cons pe_int (pa_cons pe_int (pa_cons pe_int (pa_cons pe_int pa_nil)))))))))) pa_nil))) pa_nil)) (blkOk_by (N := N__law_wide_shown) (sc := defScope s__law_wide_shown) (by decide +kernel)) (fun _ _ _ _ _ => (pg_name (i := 2) sc__law_wide_shown.nd rfl (Or.inl rfl))) (fun _ _ _ _ _ => pts_nil) (fun _ _ _ _ _ => (pe_d D__law_pick (hr.mono (by decide)) (by rfl) (pa_cons (pv 0) (pa_cons (pv 1) pa_nil))))) pa_nil)))), ?_⟩
    refine ⟨_, rfl, by show 9 ≤ sizeLine; decide, fun L hL => ?_⟩
    have d1 := d.new (o := .lst [V.int 0, .int 0, .int 1, .int 1, .int 1, .int 2, .int 2, .int 3, .int 6]) hL
    have LD := (d.free hL).1
    have g1 : Go S D H (upd H L (.lst [V.int 0, .int 0, .int 1, .int 1, .int 1, .int 2, .int 2, .int 3, .int 6])) := Go.new d hL
    refine ⟨S, D, .ref L, [V.int 0, .int 0, .int 1, .int 1, .int 1, .int 2, .int 2, .int 3, .int 6], rfl, d1, fun H' g => .inr (.inl ⟨L, rfl, SqL.of (g.2 _ _ upd_same LD)⟩), by decide, by decide, fun H2 x hx g2 => ?_⟩
    obtain ⟨n, rfl, hn⟩ : ∃ n : Nat, x = .int (n : Int) ∧ n ≤ 6 := by
      simp only [List.mem_cons, List.not_mem_nil, or_false] at hx
      rcases hx with e | e | e | e | e | e | e | e | e
      · exact ⟨0, e, by decide⟩
      · exact ⟨0, e, by decide⟩
      · exact ⟨1, e, by decide⟩
      · exact ⟨1, e, by decide⟩
      · exact ⟨1, e, by decide⟩
      · exact ⟨2, e, by decide⟩
      · exact ⟨2, e, by decide⟩
      · exact ⟨3, e, by decide⟩
      · exact ⟨6, e, by decide⟩
    have g3 := g1.trans g2
    refine ⟨_, rfl, by omega, by omega, fun Lc hLc => lc_range (lo := 0) (n := n) (fun j H' => ∃ ss : List Str, Go S D H2 H' ∧ H' Lc = some (.lst (ss.map V.str)) ∧ ss.length = j ∧ ∀ s ∈ ss, s ∈ ms) ⟨[], Go.new g3.1 hLc, upd_same, rfl, fun _ h => absurd h List.not_mem_nil⟩ ?_ ?_⟩
    · rintro j H4 hj ⟨ss, g4, hL4, hl, hs⟩
      have LcD := (g3.1.free hLc).1
      refine ⟨rfl, _, rfl, _, rfl, S, D, .ref m, ms.map V.str, rfl, g4.1, fun H' g' => .inr (.inl ⟨m, rfl, SqL.of (((g3.trans g4).trans g').2 _ _ hm nD)⟩), by rw [List.length_map]; exact h0, by rw [List.length_map]; omega, fun H5 x hx g5 => ?_⟩
      obtain ⟨z, hz, rfl⟩ := List.mem_map.mp hx
      refine ⟨_, g5.2 _ _ hL4 LcD, by rw [List.length_map]; exact line6 (by omega), ss ++ [z], goU hLc g3.1 (g4.trans g5), by rw [upd_same, List.map_append]; rfl, by rw [List.length_append, List.length_singleton, hl], fun s h => ?_⟩
      rcases List.mem_append.mp h with h | h
      · exact hs s h
      · rw [List.mem_singleton.mp h]
        exact hz
    · rintro H4 ⟨ss, g4, hL4, hl, hs⟩
      refine ⟨Lc, _, rfl, .inl ⟨SqL.of hL4, fun p hp => ?_⟩⟩
      have g5 := g3.trans g4
      exact q _ p ss (g5.trans (Go.new g5.1 hp)) (g5.free d hp) upd_same hs (by omega)
theorem ok__law_wide_chain (T : Txt K mg) (D__law_draw : Kept P w K mg base 1 "_law_draw" ["d", "many"] spDraw) (D__law_words : Kept P w K mg base 2 "_law_words" ["d", "base", "many"] (spWords K)) (D__law_wide_shown : Kept P w K mg base 3 "_law_wide_shown" ["d", "marks"] (spShown K)) {f : Addr} {fd : FuncData} (F : FnP K "_law_wide_chain" s__law_wide_chain f fd) : FnOk P w K mg base CX0 4 f fd ["d", "base", "states", "marks"] (spWChain K) := by
  refine F.ok sc__law_wide_chain (fun vs H Q E h => ?_) (fun cdv A outer s H vs Q E hr h => ?_)
  · obtain ⟨S, D, m, b, n, ms, rfl, _⟩ := h
    rfl
  · obtain ⟨S, D, m, b, n, ms, rfl, d, nD, hm, h0, h1, b2, b6, n1, n2, q⟩ := h
    refine ⟨_, PSs.nox (pss_cons (ps_set (i := 4) sc__law_wide_chain.nd rfl (Or.inl rfl) (pe_lst pa_nil))
      (pss_cons (ps_for PassesOwn.never rfl (pi_range1 (by rfl) T.b_range (pa_cons (pv 2) pa_nil)) (pg_name (i := 5) sc__law_wide_chain.nd rfl (Or.inl rfl)) (pss_cons (ps_set (i := 6) sc__law_wide_chain.nd rfl (Or.inl rfl) (pe_lst pa_nil))
      (pss_cons (ps_for PassesOwn.never rfl (pi_list (pe_d D__law_words (hr.mono (by decide)) (by rfl) (pa_cons (pv 0) (pa_cons (pv 1) (pa_cons (pe_d D__law_draw (hr.mono (by decide)) (by rfl) (pa_cons (pv 0) (pa_cons pe_int pa_nil))) pa_nil))))) (pg_name (i := 7) sc__law_wide_chain.nd rfl (Or.inl rfl)) (pss_one (ps_expr (pe_bm PySem.F.plainAttrs_list PySem.F.slot_list_append PySem.F.type_list_append mt_append (pv 6) (pa_cons (pe_tup (pa_cons (pv 7) (pa_cons (pe_d D__law_wide_shown (hr.mono (by decide)) (by rfl) (pa_cons (pv 0) (pa_cons (pv 3) pa_nil))) (pa_cons (pe_d D__law_draw (hr.mono (by decide)) (by rfl) (pa_cons (pv 0) (pa_cons (pv 2) pa_nil))) pa_nil)))) pa_nil)))))
      (pss_one (ps_expr (pe_bm PySem.F.plainAttrs_list PySem.F.slot_list_append PySem.F.type_list_append mt_append (pv 4) (pa_cons (pe_callTy (tupOfT (K := K) rfl) (by rfl) T.b_tuple (by decide +kernel) (pa_cons (pv 6) pa_nil)) pa_nil)))))))
      (pss_one (ps_ret (pe_tup (pa_cons pe_str (pa_cons (pv 1) (pa_cons (pe_callTy (tupOfT (K := K) rfl) (by rfl) T.b_tuple (by decide +kernel) (pa_cons (pv 4) pa_nil)) pa_nil)))))))), ?_⟩
    refine ⟨Nat.zero_le _, fun L hL => ?_⟩
    have g1 := Go.new (o := .lst []) d hL
    have LD := (d.free hL).1
    refine ⟨_, rfl, _, rfl, by omega, by omega, for_range (lo := 0) (n := n.toNat) (fun i σ H' => ∃ (y5 y6 y7 : Option V) (zs : List V) (C : Chn), σ = [some (.ref D), some (.int b), some (.int n), some (.ref m), some (.ref L), y5, y6, y7] ∧ Go S D H H' ∧ H' L = some (.lst zs) ∧ DpAll K H' zs (C.map dRw) ∧ C.length = i ∧ ∀ r ∈ C, RwOk b n.toNat r) ⟨_, _, _, [], [], rfl, g1, upd_same, .nil, rfl, fun _ h => absurd h List.not_mem_nil⟩ ?_ ?_⟩
    · rintro i σ H1 hi ⟨y5, y6, y7, zs, C, rfl, g, hL1, hzs, hC, hCr⟩
      have zl := dpA_len hzs
      rw [List.length_map] at zl
      refine ⟨Nat.zero_le _, fun f hf => ?_⟩
      have gf := Go.new (o := .lst []) g.1 hf
      have fD := (g.1.free hf).1
      have fL : f ≠ L := (ne_of_none hL1 hf).symm
      have hf2 := upd_same (H := H1) (a := f) (o := .lst [])
      generalize upd H1 f (.lst []) = H2 at gf hf2
      refine ⟨_, rfl, _, rfl, _, rfl, S, D, 3, rfl, divW_of (by decide) (by decide), gf.1, fun H3 mm m0 m1 g3 => ⟨S, D, b, mm, rfl, g3.1, b2, b6, m0, by omega, fun H4 Lw xs ws g4 hLw0 hLw hA hc w0 w1 => ?_⟩⟩
      have g34 := gf.trans (g3.trans g4)
      have LwD := (g3.1.free hLw0).1
      have hf4 := (g3.trans g4).2 _ _ hf2 fD
      have LwF : Lw ≠ f := fun e => by
        rw [e, g3.2 _ _ hf2 fD] at hLw0
        cases hLw0
      have xl := dpA_len hA
      rw [List.length_map] at xl
      refine ⟨Lw, rfl, ⟨_, SqL.of hLw⟩, for_list (K := K) (a := Lw) (xs := xs) (fun j σ H' => ∃ (y7 : Option V) (qs : List V) (r : List Br), σ = [some (.ref D), some (.int b), some (.int n), some (.ref m), some (.ref L), some (.int (0 + (i : Int))), some (.ref f), y7] ∧ Go S D H1 H' ∧ H' Lw = some (.lst xs) ∧ DpAll K H' xs (ws.map dI) ∧ H' f = some (.lst qs) ∧ DpAll K H' qs (r.map dBr) ∧ r.map (·.1) = ws.take j ∧ ∀ b ∈ r, b.2.2 < n.toNat ∧ b.2.1.length ≤ 6) ⟨_, [], [], rfl, g34, hLw, hA, hf4, .nil, rfl, fun _ h => absurd h List.not_mem_nil⟩ (fun i σ H' _ ⟨_, _, _, _, _, h, _⟩ => SqL.of h) ?_ ?_⟩
      · rintro j x σ H5 hj ⟨y7, qs, r, rfl, g5, hLw5, hA5, hf5, hr5, er, hrr⟩
        obtain ⟨wd, hw, hx⟩ := dpA_mem hA5 hj
        have jl := (List.getElem?_eq_some_iff.mp hj).1
        refine ⟨_, rfl, .inl ⟨rfl, _, SqL.of hf5⟩, _, rfl, _, rfl, _, rfl, S, D, m, ms, rfl, g5.1, nD, (g.trans g5).2 _ _ hm nD, h0, h1, fun H6 p ss g6 hp0 hp hss hsl => ?_⟩
        have pD := (g5.1.free hp0).1
        refine ⟨_, rfl, _, rfl, S, D, n, rfl, divW_of (by omega) (by omega), g6.1, fun H7 t t0 t1 g7 => ⟨by show 3 ≤ sizeLine; decide, fun pb hpb => ?_⟩⟩
        have g67 := g6.trans g7
        have gb := g67.trans (Go.new (o := .tup [x, .ref p, .int t]) g7.1 hpb)
        have hpb8 := upd_same (H := H7) (a := pb) (o := .tup [x, .ref p, .int t])
        have hp8 := same_new (o := .tup [x, .ref p, .int t]) hpb _ _ (g7.2 _ _ hp pD)
        generalize upd H7 pb (.tup [x, .ref p, .int t]) = H8 at gb hpb8 hp8
        have k8 := Go.keepT g5.1 gb
        have hf8 := gb.2 _ _ hf5 fD
        have kf := keepT_nt (o := .lst (qs ++ [.ref pb])) (nt_lst _) hf8
        have ql := dpA_len hr5
        rw [List.length_map] at ql
        have rl : r.length = j := by
          have := congrArg List.length er
          rw [List.length_map, List.length_take] at this
          omega
        have dB : Dp K H8 (.ref pb) (dBr (wd, ss, t.toNat)) := by
          have e1 : PyData.int ((t.toNat : Nat) : Int) = .int t := by rw [Int.toNat_of_nonneg t0]
          show Dp K H8 (.ref pb) (.tuple [dI wd, dSh ss, .int ((t.toNat : Nat) : Int)])
          rw [e1]
          exact .tup (SqT.of hpb8) (.cons (dp_keep k8 _ _ (dI_noL wd) hx) (.cons (sh_of (SqT.of hp8)) (.cons (.int _) .nil)))
        refine ⟨f, qs, _, rfl, rfl, hf8, line6 (by omega), _, qs ++ [.ref pb], r ++ [(wd, ss, t.toNat)], rfl, goU hf g.1 (g5.trans gb), ?_, dpA_keep kf _ _ (noLs_I ws) (dpA_keep k8 _ _ (noLs_I ws) hA5), upd_same, ?_, ?_, fun y hy => ?_⟩
        · rw [upd_ne LwF]
          exact gb.2 _ _ hLw5 LwD
        · rw [List.map_append]
          exact dpA_snoc (dpA_keep kf _ _ (noLs_br r) (dpA_keep k8 _ _ (noLs_br r) hr5)) (dp_keep kf _ _ (dBr_noL _) dB)
        · rw [List.map_append, er, List.take_add_one, hw]
          rfl
        · rcases List.mem_append.mp hy with h | h
          · exact hrr y h
          · rw [List.mem_singleton.mp h]
            exact ⟨by show t.toNat < n.toNat; omega, hsl⟩
      · rintro σ H5 ⟨y7, qs, r, rfl, g5, hLw5, hA5, hf5, hr5, er, hrr⟩
        rw [xl, List.take_length] at er
        have rl : r.length = ws.length := by
          rw [← er, List.length_map]
        have gg := g.trans g5
        have hL5 := g5.2 _ _ hL1 LD
        refine ⟨_, rfl, .inl ⟨rfl, _, SqL.of hL5⟩, _, rfl, f, qs, rfl, .inl ⟨SqL.of hf5, fun pr hpr => ?_⟩⟩
        have gp := Go.new (o := .tup qs) g5.1 hpr
        have kp := Go.keepT g5.1 gp
        have hpr6 := upd_same (H := H5) (a := pr) (o := .tup qs)
        have hL6 := gp.2 _ _ hL5 LD
        generalize upd H5 pr (.tup qs) = H6 at gp kp hpr6 hL6
        have kL := keepT_nt (o := .lst (zs ++ [.ref pr])) (nt_lst _) hL6
        refine ⟨L, zs, _, rfl, rfl, hL6, line6 (by omega), _, _, _, zs ++ [.ref pr], C ++ [r], rfl, goU hL d (gg.trans gp), upd_same, ?_, by rw [List.length_append, hC]; rfl, fun x hx => ?_⟩
        · rw [List.map_append]
          exact dpA_snoc (dpA_keep kL _ _ (noLs_rw C) (dpA_keep (Go.keepT g.1 (g5.trans gp)) _ _ (noLs_rw C) hzs)) (dp_keep kL _ _ (dRw_noL _) (.tup (SqT.of hpr6) (dpA_keep kp _ _ (noLs_br r) hr5)))
        · rcases List.mem_append.mp hx with h | h
          · exact hCr x h
          · rw [List.mem_singleton.mp h]
            exact ⟨by omega, by omega, hrr, by rw [er]; exact hc⟩
    · rintro σ H1 ⟨y5, y6, y7, zs, C, rfl, g, hL1, hzs, hC, hCr⟩
      refine ⟨_, rfl, _, rfl, L, zs, rfl, .inl ⟨SqL.of hL1, fun pq hpq => ⟨by show 3 ≤ sizeLine; decide, fun pw hpw => ?_⟩⟩⟩
      have gq := Go.new (o := .tup zs) g.1 hpq
      have gw := gq.trans (Go.new (o := .tup [.str "chain", .int b, .ref pq]) gq.1 hpw)
      have hpq2 := same_new (o := .tup [.str "chain", .int b, .ref pq]) hpw _ _ (upd_same (H := H1) (a := pq) (o := .tup zs))
      refine q _ _ C (g.trans gw) (.tup (SqT.of upd_same) (.cons (.str _) (.cons (.int _) (.cons (.tup (SqT.of hpq2) (dpA_keep (Go.keepT g.1 gw) _ _ (noLs_rw C) hzs)) .nil)))) ⟨b2, b6, by omega, by omega, fun r hr => ?_⟩ hC
      rw [hC]
      exact hCr r hr
end
end Mt
namespace Mt
open PySem PySem.Spec PyProof.Rows L2
theorem getElem?_lt {α : Type} {l : List α} {i : Nat} (h : i < l.length) : l[i]? = some (l[i]'h) := List.getElem?_eq_getElem h
mutual
theorem dp_same {K : PySem.W.Frag} {H H' : Hp} (s : Same H H') : ∀ (d : PyData) (v : V), Dp K H v d → Dp K H' v d
  | .none, _, h => by
    cases h
    exact .non
  | .bool b, _, h => by
    cases h
    exact .bl b
  | .int i, _, h => by
    cases h
    exact .int i
  | .str x, _, h => by
    cases h
    exact .str x
  | .list ds, _, h => by
    cases h with
    | lst h1 h2 => exact .lst (same_l s h1) (dpA_same s ds _ h2)
  | .dict ds, n, h => by
    cases h
  | .tuple ds, _, h => by
    cases h with
    | tup h1 h2 => exact .tup (same_t s h1) (dpA_same s ds _ h2)
theorem dpA_same {K : PySem.W.Frag} {H H' : Hp} (s : Same H H') : ∀ (ds : List PyData) (xs : List V), DpAll K H xs ds → DpAll K H' xs ds
  | [], _, h => by
    cases h
    exact .nil
  | d :: ds, _, h => by
    cases h with
    | cons h1 h2 => exact .cons (dp_same s d _ h1) (dpA_same s ds _ h2)
end
theorem dp_lst {K : PySem.W.Frag} {H : Hp} {v : V} {ds : List PyData} (h : Dp K H v (.list ds)) : ∃ a xs, v = .ref a ∧ SqL K H a xs ∧ DpAll K H xs ds := by
  cases h with
  | lst h1 h2 => exact ⟨_, _, rfl, h1, h2⟩
theorem piTK {X : Cx} {K : PySem.W.Frag} {e tg : Expr} {te : TE} (h : X.K = K) (he : PE X e te) : PI X tg e (iTup K te) := h ▸ pi_tup he
theorem same_upd {H H' : Hp} {L : Addr} {o : HO} (s : Same H H') : Same (upd H L o) (upd H' L o) := fun b u e => by
  by_cases k : b = L
  · subst k
    rw [upd_same] at e ⊢
    exact e
  · rw [upd_ne k] at e ⊢
    exact s b u e
theorem upd_self {H : Hp} {p : Addr} {o : HO} (h : H p = some o) : upd H p o = H := by
  funext x
  by_cases k : x = p
  · subst k
    rw [upd_same, h]
  · rw [upd_ne k]
/-- a list of lists that is being filled: what it holds stands whatever stands at its own place -/
structure FL (K : PySem.W.Frag) (L : Addr) (H : Hp) (ds : List PyData) : Prop where
  d : ∃ zs, H L = some (.lst zs) ∧ zs.length = ds.length ∧ ∀ o, DpAll K (upd H L o) zs ds
theorem FL.nil {K : PySem.W.Frag} {L : Addr} {H : Hp} (h : H L = none) : FL K L (upd H L (.lst [])) [] := ⟨[], upd_same, rfl, fun _ => .nil⟩
theorem FL.dp {K : PySem.W.Frag} {L : Addr} {H : Hp} {ds : List PyData} (f : FL K L H ds) : Dp K H (.ref L) (.list ds) := by
  obtain ⟨zs, h1, _, h2⟩ := f.d
  have := h2 (.lst zs)
  rw [upd_self h1] at this
  exact .lst (SqL.of h1) this
theorem FL.same {K : PySem.W.Frag} {L : Addr} {H H' : Hp} {ds : List PyData} (f : FL K L H ds) (s : Same H H') : FL K L H' ds := by
  obtain ⟨zs, h1, h3, h2⟩ := f.d
  exact ⟨zs, s _ _ h1, h3, fun o => dpA_same (same_upd s) _ _ (h2 o)⟩
theorem FL.add {K : PySem.W.Frag} {L : Addr} {H : Hp} {ds : List PyData} {zs : List V} {v : V} {d : PyData} (f : FL K L H ds) (h : H L = some (.lst zs)) (hd : ∀ o, Dp K (upd H L o) v d) : FL K L (upd H L (.lst (zs ++ [v]))) (ds ++ [d]) := by
  obtain ⟨zs', h1, h3, h2⟩ := f.d
  rw [h] at h1
  cases h1
  refine ⟨_, upd_same, by rw [List.length_append, List.length_append, h3]; rfl, fun o => ?_⟩
  rw [upd_upd]
  exact dpA_snoc (h2 o) (hd o)
theorem piLK {X : Cx} {K : PySem.W.Frag} {e tg : Expr} {te : TE} (h : X.K = K) (he : PE X e te) : PI X tg e (iList K te) := h ▸ pi_list he
theorem dI_canAll : ∀ l : List Int, PyData.canLayAll0 (l.map PyData.int) = true
  | [] => rfl
  | x :: r => by
    show (PyData.canLay0 (.int x) && PyData.canLayAll0 (r.map PyData.int)) = true
    rw [dI_canAll r]
    rfl
theorem dI_dep : ∀ l : List Int, PyData.depthAll (l.map PyData.int) = 0
  | [] => rfl
  | x :: r => by
    show max (PyData.depth (.int x)) (PyData.depthAll (r.map PyData.int)) = 0
    rw [dI_dep r]
    rfl
theorem dI_lay (l : List Int) : PyData.canLay0 (dI l) = true := dI_canAll l
theorem dI_sh (l : List Int) : SeqAt.shaped (dI l) = true := by
  unfold SeqAt.shaped
  rw [Bool.and_eq_true]
  refine ⟨dI_lay l, decide_eq_true ?_⟩
  show PyData.depthAll (l.map PyData.int) + 1 ≤ 64
  rw [dI_dep]
  decide
theorem eqv_ints : ∀ a b : List Int, PyData.eqvAll (a.map PyData.int) (b.map PyData.int) = decide (a = b)
  | [], [] => rfl
  | [], _ :: _ => rfl
  | _ :: _, [] => rfl
  | x :: a, y :: b => by
    show (PyData.eqv (.int x) (.int y) && PyData.eqvAll (a.map PyData.int) (b.map PyData.int)) = decide (x :: a = y :: b)
    rw [eqv_ints a b]
    show (decide (x = y) && decide (a = b)) = _
    by_cases h1 : x = y <;> by_cases h2 : a = b <;> simp [h1, h2]
theorem eqv_I (a b : List Int) : PyData.eqv (dI a) (dI b) = decide (a = b) := eqv_ints a b
theorem take_snoc {α : Type} {l : List α} {i : Nat} {x : α} (h : l[i]? = some x) : l.take (i + 1) = l.take i ++ [x] := by
  rw [List.take_add_one, h]
  rfl
theorem cut_any {l : List Int} {k m : Nat} (h : k ≤ l.length) : cutV (l.map V.int) (some (k : Int)) (some ((k : Int) + (m : Int))) = ((l.drop k).take m).map V.int := by
  unfold cutV
  rw [HT.sIx_nat, ← Int.natCast_add, HT.sIx_nat, List.length_map, Nat.min_eq_left h, ← List.map_drop, ← List.map_take]
  congr 1
  by_cases e : k + m ≤ l.length
  · rw [Nat.min_eq_left e, Nat.add_sub_cancel_left]
  · rw [Nat.min_eq_right (by omega), List.take_of_length_le (by rw [List.length_drop]; exact Nat.le_refl _), List.take_of_length_le (by rw [List.length_drop]; omega)]
/-! ### one step of a walk -/
def fits (t : List Int) (b : Br) : Bool := decide (t.take b.1.length = b.1)
def nextB (r : List Br) (t : List Int) : Option Br := r.find? (fits t)
def rowOf (C : Chn) (s : Nat) : List Br := (C[s]?).getD []
theorem rowOf_at {C : Chn} {s : Nat} (h : s < C.length) : C[s]? = some (rowOf C s) := by
  unfold rowOf
  rw [List.getElem?_eq_getElem h]
  rfl
def wk (C : Chn) (tape : List Int) : Nat → Option (List (List Str) × Nat × Nat)
  | 0 => some ([], 0, 0)
  | n + 1 => (wk C tape n).bind fun x => (nextB (rowOf C x.2.1) (tape.drop x.2.2)).map fun b => (x.1 ++ [b.2.1], b.2.2, x.2.2 + b.1.length)
theorem fits_pre {t : List Int} {b : Br} : fits t b = true ↔ b.1 <+: t := by
  unfold fits
  rw [decide_eq_true_iff, List.prefix_iff_eq_take]
  exact eq_comm
def spBranch (K : PySem.W.Frag) : Sp := fun vs H Q _ => ∃ (vr vt : V) (k : Nat) (r : List Br) (tape : List Int) (b : Br), vs = [vr, vt, .int k] ∧ Dp K H vr (dRw r) ∧ (∀ b ∈ r, b.1.length ≤ 3) ∧ r.length ≤ 100 ∧ Dp K H vt (dI tape) ∧ k ≤ tape.length ∧ tape.length ≤ 100000 ∧ nextB r (tape.drop k) = some b ∧
  ∀ H' v, Same H H' → Dp K H' v (dBr b) → Q v H'
def spWalk (K : PySem.W.Frag) : Sp := fun vs H Q _ => ∃ (vc vt : V) (n : Nat) (base : Int) (C : Chn) (tape : List Int) (w : List (List Str) × Nat × Nat), vs = [vc, vt, .int n] ∧ Dp K H vc (dChn base C) ∧ ChnOk base C ∧ Dp K H vt (dI tape) ∧ n ≤ 10000 ∧ tape.length ≤ 100000 ∧ wk C tape n = some w ∧
  ∀ H' v, Same H H' → Dp K H' v (.tuple [.tuple (w.1.map dSh), .int w.2.1, .int w.2.2]) → Q v H'
theorem noLs_sh (l : List (List Str)) : noLs (l.map dSh) = true := noLs_map _ _ fun s _ => dSh_noL s
/-- a walk stays in the chain, on the tape, and tells as many as its ticks -/
theorem wk_ok {base : Int} {C : Chn} (ok : ChnOk base C) {tape : List Int} : ∀ (n : Nat) (w : List (List Str) × Nat × Nat), wk C tape n = some w → w.1.length = n ∧ w.2.1 < C.length ∧ w.2.2 ≤ tape.length
  | 0, w, h => by
    cases h
    exact ⟨rfl, ok.pos, Nat.zero_le _⟩
  | n + 1, w, h => by
    obtain ⟨x, hx, h⟩ := Option.bind_eq_some_iff.mp h
    obtain ⟨b, hb, rfl⟩ := Option.map_eq_some_iff.mp h
    obtain ⟨h1, h2, h3⟩ := wk_ok ok n x hx
    have hm := List.mem_of_find?_eq_some hb
    have hf := fits_pre.mp (List.find?_some hb)
    have hl := hf.length_le
    rw [List.length_drop] at hl
    refine ⟨?_, ?_, ?_⟩
    · show (x.1 ++ [b.2.1]).length = n + 1
      rw [List.length_append, h1]
      rfl
    · exact ((ok.row _ (List.mem_of_getElem? (rowOf_at h2))).to b hm).1
    · show x.2.2 + b.1.length ≤ tape.length
      omega
theorem wk_pre {C : Chn} {tape : List Int} {n : Nat} {w : List (List Str) × Nat × Nat} (h : wk C tape n = some w) : ∀ i ≤ n, ∃ x, wk C tape i = some x := fun i hi => by
  induction n generalizing w with
  | zero =>
    obtain rfl : i = 0 := by omega
    exact ⟨_, h⟩
  | succ n ih =>
    by_cases e : i = n + 1
    · subst e
      exact ⟨_, h⟩
    · obtain ⟨x, hx, _⟩ := Option.bind_eq_some_iff.mp h
      exact ih hx (by omega)
end Mt
namespace Mt
open PySem PySem.Spec PyProof.Rows L2
theorem mtIxK {X : Cx} {K : PySem.W.Frag} (h : X.K = K) : MtR X "list.index" (rIndex K) := h ▸ mt_index
theorem castBM {X : Cx} {K : PySem.W.Frag} {e : Expr} {T : String} {r : V → List V → Hp → VK → Prop} {to : TE} {t : TA} (h : X.K = K) (p : PE X e (tBM X.K T r to t)) : PE X e (tBM K T r to t) := h ▸ p
theorem first_at {l : List Nat} {t : Nat} (h : t ∈ l) : ∃ j : Nat, l[j]? = some t ∧ ∀ (m z : Nat), m < j → l[m]? = some z → z ≠ t := by
  induction l with
  | nil => exact absurd h List.not_mem_nil
  | cons a r ih =>
    by_cases e : a = t
    · exact ⟨0, by rw [← e]; rfl, fun m z hm => absurd hm (Nat.not_lt_zero m)⟩
    · rcases List.mem_cons.mp h with k | k
      · exact absurd k.symm e
      · obtain ⟨j, h1, h2⟩ := ih k
        refine ⟨j + 1, by simpa using h1, fun m z hm hz => ?_⟩
        cases m with
        | zero =>
          have : a = z := Option.some.inj hz
          rw [← this]
          exact e
        | succ m => exact h2 m z (by omega) (by simpa using hz)
def vN (k : Nat) : V := .int (k : Int)
theorem flat_vN (os : List Nat) : (os.map vN).all flatV = true := by
  rw [List.all_map]
  exact List.all_eq_true.mpr fun _ _ => rfl
end Mt
namespace Mt
open PySem PySem.Spec PyProof.Rows L2
theorem cat_D {K : PySem.W.Frag} {H : Hp} {a b : Addr} {xs ys : List V} {ds es : List PyData} (ha : SqT K H a xs) (hb : SqT K H b ys) (h1 : DpAll K H xs ds) (h2 : DpAll K H ys es) (hl : ds.length + es.length ≤ 1000) : rCatA K (.ref a) (.ref b) H (fun v H' => Same H H' ∧ Dp K H' v (.tuple (ds ++ es))) := by
  have l1 := dpA_len h1
  have l2 := dpA_len h2
  refine ⟨a, b, xs, ys, rfl, rfl, ha, hb, line5 (by omega), fun e => ?_, fun _ e => ?_, fun _ _ p hp => ?_⟩
  · subst e
    have : ds = [] := List.length_eq_zero_iff.mp l1.symm
    subst this
    exact ⟨Same.refl _, .tup hb h2⟩
  · subst e
    have : es = [] := List.length_eq_zero_iff.mp l2.symm
    subst this
    rw [List.append_nil]
    exact ⟨Same.refl _, .tup ha h1⟩
  · have s := same_new (o := .tup (xs ++ ys)) hp
    exact ⟨s, .tup (SqT.of upd_same) (dpA_app (dpA_same s _ _ h1) (dpA_same s _ _ h2))⟩
theorem dpA_set {K : PySem.W.Frag} {H : Hp} : ∀ {ds : List PyData} {xs : List V} (j : Nat) {v : V} {d : PyData}, DpAll K H xs ds → Dp K H v d → DpAll K H (xs.set j v) (ds.set j d)
  | [], _, j, _, _, h, _ => by
    rw [dpA_nil h]
    exact .nil
  | d0 :: ds, _, 0, _, _, h, hv => by
    obtain ⟨x, r, rfl, h1, h2⟩ := dpA_cons h
    exact .cons hv h2
  | d0 :: ds, _, j + 1, _, _, h, hv => by
    obtain ⟨x, r, rfl, h1, h2⟩ := dpA_cons h
    exact .cons h1 (dpA_set j h2 hv)
theorem dpA_take {K : PySem.W.Frag} {H : Hp} : ∀ {ds : List PyData} {xs : List V} (j : Nat), DpAll K H xs ds → DpAll K H (xs.take j) (ds.take j)
  | [], _, j, h => by
    rw [dpA_nil h]
    simp only [List.take_nil]
    exact .nil
  | d0 :: ds, _, 0, h => .nil
  | d0 :: ds, _, j + 1, h => by
    obtain ⟨x, r, rfl, h1, h2⟩ := dpA_cons h
    exact .cons h1 (dpA_take j h2)
theorem dpA_drop {K : PySem.W.Frag} {H : Hp} : ∀ {ds : List PyData} {xs : List V} (j : Nat), DpAll K H xs ds → DpAll K H (xs.drop j) (ds.drop j)
  | [], _, j, h => by
    rw [dpA_nil h]
    simp only [List.drop_nil]
    exact .nil
  | d0 :: ds, _, 0, h => h
  | d0 :: ds, _, j + 1, h => by
    obtain ⟨x, r, rfl, h1, h2⟩ := dpA_cons h
    exact dpA_drop j h2
theorem cut_to {xs : List V} {k : Nat} (h : k ≤ xs.length) : cutV xs none (some (k : Int)) = xs.take k := by
  unfold cutV
  rw [HT.sIx_none, HT.sIx_nat, Nat.min_eq_left h, List.drop_zero, Nat.sub_zero]
theorem cut_from {xs : List V} {k : Nat} (h : k ≤ xs.length) : cutV xs (some (k : Int)) none = xs.drop k := by
  unfold cutV
  rw [HT.sIx_none, HT.sIx_nat, Nat.min_eq_left h]
  exact List.take_of_length_le (by rw [List.length_drop]; exact Nat.le_refl _)
def spSChain (K : PySem.W.Frag) : Sp := fun vs H Q _ => ∃ (S D m : Addr) (n : Int) (u v : Str), vs = [.ref D, .ref m, .int n] ∧ DrawAt S D H ∧ m ≠ D ∧ H m = some (.lst [.str u, .str v]) ∧ 1 ≤ n ∧ n ≤ 50 ∧
  ∀ (H' : Hp) (x : V) (base : Int) (C : Chn), Go S D H H' → Dp K H' x (dChn base C) → ChnOk base C → Q x H'
end Mt
namespace Mt
open PySem PySem.Spec PyProof.Rows L2
/-! ### ranks: in how many ticks a state is sure -/
def ga (l : List Nat) (i : Nat) : Nat := (l[i]?).getD 0
def tgs (N : List (List Nat)) (s : Nat) : List Nat := (N[s]?).getD []
def rdy (N : List (List Nat)) (g : List Nat) (s : Nat) : Bool := decide (ga g s = 0) && (tgs N s).all fun t => decide (0 < ga g t)
def fnd (N : List (List Nat)) : Nat → List Nat
  | 0 => (List.range N.length).map fun _ => 0
  | k + 1 => (List.range N.length).map fun s => if rdy N (fnd N k) s = true then k + 1 else ga (fnd N k) s
def frs (N : List (List Nat)) (k : Nat) : List Nat := (List.range N.length).filter (rdy N (fnd N k))
theorem fnd_len (N : List (List Nat)) (k : Nat) : (fnd N k).length = N.length := by
  cases k <;> (unfold fnd; rw [List.length_map, List.length_range])
theorem ga_range {n s : Nat} {f : Nat → Nat} (h : s < n) : ga ((List.range n).map f) s = f s := by
  unfold ga
  rw [List.getElem?_map, List.getElem?_range h]
  rfl
theorem fnd_0 {N : List (List Nat)} {s : Nat} : ga (fnd N 0) s = 0 := by
  unfold ga fnd
  rw [List.getElem?_map]
  cases (List.range N.length)[s]? <;> rfl
theorem fnd_s {N : List (List Nat)} {k s : Nat} (h : s < N.length) : ga (fnd N (k + 1)) s = if rdy N (fnd N k) s = true then k + 1 else ga (fnd N k) s := ga_range h
theorem fnd_out {N : List (List Nat)} {k s : Nat} (h : N.length ≤ s) : ga (fnd N k) s = 0 := by
  unfold ga
  rw [List.getElem?_eq_none (by rw [fnd_len]; exact h)]
  rfl
theorem rdy_iff {N : List (List Nat)} {g : List Nat} {s : Nat} : rdy N g s = true ↔ ga g s = 0 ∧ ∀ t ∈ tgs N s, 0 < ga g t := by
  unfold rdy
  rw [Bool.and_eq_true, decide_eq_true_iff, List.all_eq_true]
  constructor
  · exact fun h => ⟨h.1, fun t ht => of_decide_eq_true (h.2 t ht)⟩
  · exact fun h => ⟨h.1, fun t ht => decide_eq_true (h.2 t ht)⟩
/-- what is set stays -/
theorem fnd_keep {N : List (List Nat)} {k s : Nat} (h : 0 < ga (fnd N k) s) : ga (fnd N (k + 1)) s = ga (fnd N k) s := by
  by_cases hs : s < N.length
  · rw [fnd_s hs, if_neg fun r => by have := (rdy_iff.mp r).1; omega]
  · rw [fnd_out (by omega)] at h
    omega
theorem fnd_val {N : List (List Nat)} : ∀ (k s : Nat), 0 < ga (fnd N k) s → ga (fnd N k) s ≤ k ∧ ∀ t ∈ tgs N s, 0 < ga (fnd N k) t ∧ ga (fnd N k) t < ga (fnd N k) s
  | 0, s, h => by
    rw [fnd_0] at h
    omega
  | k + 1, s, h => by
    by_cases hs : s < N.length
    · by_cases r : rdy N (fnd N k) s = true
      · have e : ga (fnd N (k + 1)) s = k + 1 := by rw [fnd_s hs, if_pos r]
        rw [e]
        refine ⟨Nat.le_refl _, fun t ht => ?_⟩
        have h0 := (rdy_iff.mp r).2 t ht
        rw [fnd_keep h0]
        have := (fnd_val k t h0).1
        exact ⟨h0, by omega⟩
      · have e : ga (fnd N (k + 1)) s = ga (fnd N k) s := by rw [fnd_s hs, if_neg r]
        rw [e] at h ⊢
        obtain ⟨h1, h2⟩ := fnd_val k s h
        refine ⟨by omega, fun t ht => ?_⟩
        rw [fnd_keep (h2 t ht).1]
        exact h2 t ht
    · rw [fnd_out (by omega)] at h
      omega
theorem ga_ext {N : List (List Nat)} {j k : Nat} (h : ∀ s, s < N.length → ga (fnd N j) s = ga (fnd N k) s) : fnd N j = fnd N k := by
  apply List.ext_getElem?
  intro s
  by_cases hs : s < N.length
  · have := h s hs
    unfold ga at this
    rw [List.getElem?_eq_getElem (by rw [fnd_len]; exact hs), List.getElem?_eq_getElem (by rw [fnd_len]; exact hs)] at this ⊢
    exact congrArg some this
  · rw [List.getElem?_eq_none (by rw [fnd_len]; omega), List.getElem?_eq_none (by rw [fnd_len]; omega)]
theorem frs_none {N : List (List Nat)} {k : Nat} (h : frs N k = []) : fnd N (k + 1) = fnd N k := ga_ext fun s hs => by
  have : ¬ rdy N (fnd N k) s = true := fun r => by
    have : s ∈ frs N k := List.mem_filter.mpr ⟨List.mem_range.mpr hs, r⟩
    rw [h] at this
    exact absurd this List.not_mem_nil
  rw [fnd_s hs, if_neg this]
theorem stable {N : List (List Nat)} {k : Nat} (h : frs N k = []) : ∀ j, fnd N (k + j) = fnd N k ∧ frs N (k + j) = []
  | 0 => ⟨rfl, h⟩
  | j + 1 => by
    obtain ⟨h1, h2⟩ := stable h j
    have e := frs_none h2
    rw [h1] at e
    refine ⟨e, ?_⟩
    show (List.range N.length).filter (rdy N (fnd N (k + j + 1))) = []
    rw [e]
    exact h
def nz (l : List Nat) : Nat := (l.filter fun x => decide (0 < x)).length
theorem nz_le (l : List Nat) : nz l ≤ l.length := List.length_filter_le _ _
theorem nz_range (n : Nat) (f : Nat → Nat) : nz ((List.range n).map f) = ((List.range n).filter fun s => decide (0 < f s)).length := by
  unfold nz
  rw [List.filter_map, List.length_map]
  rfl
theorem filter_lt {α : Type} : ∀ {l : List α} {p q : α → Bool}, (∀ x ∈ l, p x = true → q x = true) → (∃ x ∈ l, p x = false ∧ q x = true) → (l.filter p).length < (l.filter q).length
  | [], _, _, _, h => by
    obtain ⟨x, hx, _⟩ := h
    exact absurd hx List.not_mem_nil
  | a :: r, p, q, h1, h2 => by
    have hle : (r.filter p).length ≤ (r.filter q).length := by
      have : ∀ l : List α, (∀ x ∈ l, p x = true → q x = true) → (l.filter p).length ≤ (l.filter q).length := fun l => by
        induction l with
        | nil => exact fun _ => Nat.le_refl _
        | cons b t ih =>
          intro hb
          have ih := ih fun x hx => hb x (List.mem_cons_of_mem _ hx)
          cases hp : p b with
          | true =>
            rw [List.filter_cons_of_pos hp, List.filter_cons_of_pos (hb b List.mem_cons_self hp), List.length_cons, List.length_cons]
            omega
          | false =>
            rw [List.filter_cons_of_neg (by simp [hp])]
            cases hq : q b with
            | true =>
              rw [List.filter_cons_of_pos hq, List.length_cons]
              omega
            | false =>
              rw [List.filter_cons_of_neg (by simp [hq])]
              exact ih
      exact this r fun x hx => h1 x (List.mem_cons_of_mem _ hx)
    cases hp : p a with
    | true =>
      rw [List.filter_cons_of_pos hp, List.filter_cons_of_pos (h1 a List.mem_cons_self hp), List.length_cons, List.length_cons]
      obtain ⟨x, hx, k1, k2⟩ := h2
      rcases List.mem_cons.mp hx with rfl | hx
      · rw [hp] at k1
        cases k1
      · have := filter_lt (l := r) (p := p) (q := q) (fun x hx => h1 x (List.mem_cons_of_mem _ hx)) ⟨x, hx, k1, k2⟩
        omega
    | false =>
      rw [List.filter_cons_of_neg (by simp [hp])]
      cases hq : q a with
      | true =>
        rw [List.filter_cons_of_pos hq, List.length_cons]
        omega
      | false =>
        rw [List.filter_cons_of_neg (by simp [hq])]
        obtain ⟨x, hx, k1, k2⟩ := h2
        rcases List.mem_cons.mp hx with rfl | hx
        · rw [hq] at k2
          cases k2
        · exact filter_lt (fun x hx => h1 x (List.mem_cons_of_mem _ hx)) ⟨x, hx, k1, k2⟩
theorem fnd_as (N : List (List Nat)) (k : Nat) : fnd N k = (List.range N.length).map fun s => ga (fnd N k) s := by
  apply List.ext_getElem?
  intro s
  rw [List.getElem?_map]
  by_cases hs : s < N.length
  · rw [List.getElem?_range hs, List.getElem?_eq_getElem (by rw [fnd_len]; exact hs)]
    show some _ = some (ga (fnd N k) s)
    unfold ga
    rw [List.getElem?_eq_getElem (by rw [fnd_len]; exact hs)]
    rfl
  · rw [List.getElem?_eq_none (by rw [fnd_len]; omega), List.getElem?_eq_none (by rw [List.length_range]; omega)]
    rfl
theorem nz_up {N : List (List Nat)} {k : Nat} (h : frs N k ≠ []) : nz (fnd N k) < nz (fnd N (k + 1)) := by
  rw [fnd_as N k, fnd_as N (k + 1), nz_range, nz_range]
  refine filter_lt (fun s _ hs => ?_) ?_
  · have := of_decide_eq_true hs
    rw [fnd_keep this]
    exact hs
  · obtain ⟨s, hs⟩ := List.exists_mem_of_ne_nil _ h
    obtain ⟨h1, h2⟩ := List.mem_filter.mp hs
    refine ⟨s, h1, decide_eq_false ?_, decide_eq_true ?_⟩
    · have := (rdy_iff.mp h2).1
      omega
    · rw [fnd_s (List.mem_range.mp h1), if_pos h2]
      omega
theorem nz_grow {N : List (List Nat)} : ∀ k, (∀ j, j < k → frs N j ≠ []) → k ≤ nz (fnd N k)
  | 0, _ => Nat.zero_le _
  | k + 1, h => by
    have h1 := nz_grow k fun j hj => h j (by omega)
    have h2 := nz_up (h k (by omega))
    omega
/-- as many rounds as there are states are enough -/
theorem frs_end (N : List (List Nat)) : frs N N.length = [] := by
  cases e : frs N N.length with
  | nil => rfl
  | cons a r =>
    exfalso
    have h : ∀ j, j < N.length + 1 → frs N j ≠ [] := fun j hj k => by
      have := (stable k (N.length - j)).2
      rw [show j + (N.length - j) = N.length by omega, e] at this
      cases this
    have h1 := nz_grow (N.length + 1) h
    have h2 := nz_le (fnd N (N.length + 1))
    rw [fnd_len] at h2
    omega
theorem fnd_end {N : List (List Nat)} {k : Nat} (h : frs N k = []) : fnd N k = fnd N N.length := by
  rcases Nat.le_total k N.length with h1 | h1
  · rw [← (stable h (N.length - k)).1, show k + (N.length - k) = N.length by omega]
  · rw [← (stable (frs_end N) (k - N.length)).1, show N.length + (k - N.length) = k by omega]
def rk (N : List (List Nat)) : List Nat := fnd N N.length
theorem rk_sure {N : List (List Nat)} {s : Nat} (h : 0 < ga (rk N) s) : ∀ t ∈ tgs N s, 0 < ga (rk N) t ∧ ga (rk N) t < ga (rk N) s := (fnd_val _ s h).2
theorem rk_on {N : List (List Nat)} {s : Nat} (hs : s < N.length) (h : ga (rk N) s = 0) : ∃ t ∈ tgs N s, ga (rk N) t = 0 := by
  by_cases k : ∃ t ∈ tgs N s, ga (rk N) t = 0
  · exact k
  · exfalso
    have : rdy N (rk N) s = true := rdy_iff.mpr ⟨h, fun t ht => Nat.pos_of_ne_zero fun e => k ⟨t, ht, e⟩⟩
    have : s ∈ frs N N.length := List.mem_filter.mpr ⟨List.mem_range.mpr hs, this⟩
    rw [frs_end] at this
    exact absurd this List.not_mem_nil
/-- the law's way: alive as long as the rank is 0 -/
theorem alive_step {N : List (List Nat)} {k s : Nat} (hs : s < N.length) : decide (ga (fnd N (k + 1)) s = 0) = (tgs N s).any fun t => decide (ga (fnd N k) t = 0) := by
  rw [Bool.eq_iff_iff, decide_eq_true_iff, List.any_eq_true, fnd_s hs]
  constructor
  · intro h
    by_cases r : rdy N (fnd N k) s = true
    · rw [if_pos r] at h
      omega
    · rw [if_neg r] at h
      by_cases e : ∃ t ∈ tgs N s, ga (fnd N k) t = 0
      · obtain ⟨t, h1, h2⟩ := e
        exact ⟨t, h1, decide_eq_true h2⟩
      · exact absurd (rdy_iff.mpr ⟨h, fun t ht => Nat.pos_of_ne_zero fun z => e ⟨t, ht, z⟩⟩) r
  · rintro ⟨t, h1, h2⟩
    have h2 := of_decide_eq_true h2
    have r : ¬ rdy N (fnd N k) s = true := fun r => by
      have := (rdy_iff.mp r).2 t h1
      omega
    rw [if_neg r]
    by_cases e : 0 < ga (fnd N k) s
    · have := ((fnd_val k s e).2 t h1).1
      omega
    · omega
end Mt
namespace Mt
open PySem PySem.Spec PyProof.Rows L2
theorem allK {X : Cx} {K : PySem.W.Frag} (hc : X.calm = true) (h : X.K = K) : CallR X (.builtin "all") (rAll K) := h ▸ cr_all hc
theorem ixLK {X : Cx} {K : PySem.W.Frag} (h : X.K = K) : IxR X (rIxL K) := h ▸ ix_list
abbrev cs_lo : Scope := { kind := .function, names := [(Str.ofString ".0", .local), (Str.ofString "state", .local), (Str.ofString "targets", .local), (Str.ofString "all", .globalImplicit), (Str.ofString "found", .cell)], isGenerator := false, isCoroutine := false }
def dTg (l : List Nat) : PyData := .list (l.map fun t : Nat => .int (t : Int))
def dNx (N : List (List Nat)) : PyData := .list (N.map dTg)
structure NxOk (N : List (List Nat)) : Prop where
  few : N.length ≤ 100
  row : ∀ l ∈ N, l.length ≤ 100 ∧ ∀ t ∈ l, t < N.length
def spLong (K : PySem.W.Frag) : Sp := fun vs H Q _ => ∃ (v : V) (N : List (List Nat)), vs = [v] ∧ Dp K H v (dNx N) ∧ NxOk N ∧ ∀ (H' : Hp) (F : Addr), Same H H' → H F = none → H' F = some (.lst ((rk N).map vN)) → Q (.ref F) H'
theorem dp_nats {K : PySem.W.Frag} {H : Hp} : ∀ {l : List Nat} {xs : List V}, DpAll K H xs (l.map fun t : Nat => .int (t : Int)) → xs = l.map vN
  | [], _, h => dpA_nil h
  | s :: r, _, h => by
    obtain ⟨x, t, rfl, h1, h2⟩ := dpA_cons h
    rw [dp_int h1, dp_nats h2]
    rfl
theorem vN_at {l : List Nat} {i : Nat} (h : i < l.length) : atI (l.map vN) (i : Int) = some (vN (ga l i)) := atI_nat (by
  rw [List.getElem?_map, List.getElem?_eq_getElem h]
  unfold ga
  rw [List.getElem?_eq_getElem h]
  rfl)
theorem zeros {α : Type} (xs : List α) (n : Nat) (h : xs.length = n) : xs.map (fun _ => V.int 0) = ((List.range n).map fun _ => 0).map vN := by
  rw [List.map_const', h, List.map_const', List.length_range, List.map_replicate]
  rfl
/-- the round's states get their rank -/
def setN (l : List Nat) (ss : List Nat) (v : Nat) : List Nat := ss.foldl (fun l s => l.set s v) l
theorem setN_len : ∀ (ss : List Nat) (l : List Nat) (v : Nat), (setN l ss v).length = l.length
  | [], _, _ => rfl
  | s :: r, l, v => by
    show (setN (l.set s v) r v).length = l.length
    rw [setN_len r, List.length_set]
theorem ga_set {l : List Nat} {s i v : Nat} (h : i < l.length) : ga (l.set s v) i = if s = i then v else ga l i := by
  unfold ga
  rw [List.getElem?_set]
  by_cases e : s = i
  · subst e
    rw [if_pos rfl, if_pos rfl, if_pos h]
    rfl
  · rw [if_neg e, if_neg e]
theorem ga_setN : ∀ (ss : List Nat) (l : List Nat) (v i : Nat), i < l.length → ga (setN l ss v) i = if i ∈ ss then v else ga l i
  | [], _, _, _, _ => by simp [setN]
  | s :: r, l, v, i, h => by
    show ga (setN (l.set s v) r v) i = _
    rw [ga_setN r _ v i (by rw [List.length_set]; exact h), ga_set h]
    by_cases e : i ∈ r
    · rw [if_pos e, if_pos (List.mem_cons_of_mem _ e)]
    · rw [if_neg e]
      by_cases k : s = i
      · rw [if_pos k, if_pos (by rw [k]; exact List.mem_cons_self)]
      · rw [if_neg k, if_neg fun q => by
          rcases List.mem_cons.mp q with z | z
          · exact k z.symm
          · exact e z]
theorem setN_end (N : List (List Nat)) (k : Nat) : setN (fnd N k) (frs N k) (k + 1) = fnd N (k + 1) := by
  apply List.ext_getElem?
  intro s
  by_cases hs : s < N.length
  · have h1 := ga_setN (frs N k) (fnd N k) (k + 1) s (by rw [fnd_len]; exact hs)
    have h2 : ga (fnd N (k + 1)) s = if s ∈ frs N k then k + 1 else ga (fnd N k) s := by
      rw [fnd_s hs]
      by_cases r : rdy N (fnd N k) s = true
      · rw [if_pos r, if_pos (show s ∈ frs N k from List.mem_filter.mpr ⟨List.mem_range.mpr hs, r⟩)]
      · rw [if_neg r, if_neg (show ¬ s ∈ frs N k from fun q => r (List.mem_filter.mp q).2)]
    rw [← h2] at h1
    unfold ga at h1
    rw [List.getElem?_eq_getElem (by rw [setN_len, fnd_len]; exact hs), List.getElem?_eq_getElem (by rw [fnd_len]; exact hs)] at h1 ⊢
    exact congrArg some h1
  · rw [List.getElem?_eq_none (by rw [setN_len, fnd_len]; omega), List.getElem?_eq_none (by rw [fnd_len]; omega)]
theorem setN_take {l ss : List Nat} {v j s : Nat} (h : ss[j]? = some s) : setN l (ss.take (j + 1)) v = (setN l (ss.take j) v).set s v := by
  rw [take_snoc h]
  unfold setN
  rw [List.foldl_append]
  rfl
end Mt
namespace Mt
open PySem PySem.Spec PyProof.Rows L2
section
variable {P : Program} {w : World} {K : PySem.W.Frag} {mg : Str → Option Value} {base : Heap}
theorem ok__law_rich_chain (T : Txt K mg) (D__law_draw : Kept P w K mg base 1 "_law_draw" ["d", "many"] spDraw) (D__law_rare : Kept P w K mg base 2 "_law_rare" ["d", "many"] spRare) (D__law_wide_chain : Kept P w K mg base 4 "_law_wide_chain" ["d", "base", "states", "marks"] (spWChain K)) {f : Addr} {fd : FuncData} (F : FnP K "_law_rich_chain" s__law_rich_chain f fd) : FnOk P w K mg base CX0 5 f fd ["d", "marks", "most"] (spRChain K) := by
  refine F.ok sc__law_rich_chain (fun vs H Q E h => ?_) (fun cdv A outer s H vs Q E hr h => ?_)
  · obtain ⟨S, D, m, n, ms, rfl, _⟩ := h
    rfl
  · obtain ⟨S, D, m, n, ms, rfl, d, nD, hm, h0, h1, n1, n2, q⟩ := h
    refine ⟨_, PSs.nox (pss_cons (ps_set (i := 3) sc__law_rich_chain.nd rfl (Or.inl rfl) (pe_op op_add pe_int (pe_d D__law_draw (hr.mono (by decide)) (by rfl) (pa_cons (pv 0) (pa_cons pe_int pa_nil)))))
      (Evl.pss_cut (ps_if (pt_val (pe_d D__law_rare (hr.mono (by decide)) (by rfl) (pa_cons (pv 0) (pa_cons pe_int pa_nil)))) (pss_one (ps_set (i := 3) sc__law_rich_chain.nd rfl (Or.inl rfl) pe_int)) pss_nil)
      (pss_cons (ps_set (i := 4) sc__law_rich_chain.nd rfl (Or.inl rfl) (pe_op op_add pe_int (pe_d D__law_draw (hr.mono (by decide)) (by rfl) (pa_cons (pv 0) (pa_cons pe_int pa_nil)))))
      (Evl.pss_cut (ps_if (pt_val (pe_d D__law_rare (hr.mono (by decide)) (by rfl) (pa_cons (pv 0) (pa_cons pe_int pa_nil)))) (pss_one (ps_set (i := 4) sc__law_rich_chain.nd rfl (Or.inl rfl) (pv 2))) pss_nil)
      (pss_cons (ps_set (i := 5) sc__law_rich_chain.nd rfl (Or.inl rfl) (pe_d D__law_wide_chain (hr.mono (by decide)) (by rfl) (pa_cons (pv 0) (pa_cons (pv 3) (pa_cons (pv 4) (pa_cons (pv 1) pa_nil))))))
      (pss_cons (ps_if (pt_cmpR op_gt (pe_d D__law_draw (hr.mono (by decide)) (by rfl) (pa_cons (pv 0) (pa_cons pe_int pa_nil))) pe_int (nomark _)) (pss_one (ps_ret (pv 5))) pss_nil)
      (pss_cons (ps_set (i := 6) sc__law_rich_chain.nd rfl (Or.inl rfl) (pe_lst pa_nil))
      (pss_cons (ps_for PassesOwn.never rfl (pi_range1 (by rfl) T.b_range (pa_cons (pv 4) pa_nil)) (pg_name (i := 7) sc__law_rich_chain.nd rfl (Or.inl rfl)) (pss_cons (ps_set (i := 8) sc__law_rich_chain.nd rfl (Or.inl rfl) (pe_lst pa_nil))
      (pss_cons (ps_for PassesOwn.never rfl (pi_tup (pe_ix ix_tup (pe_ix ix_tup (pv 5) pe_int (fun _ _ => rfl)) (pv 7) (fun _ _ => rfl))) (pg_tup rfl (pgs_cons (pg_name (i := 9) sc__law_rich_chain.nd rfl (Or.inl rfl)) (pgs_cons (pg_name (i := 10) sc__law_rich_chain.nd rfl (Or.inl rfl)) (pgs_cons (pg_name (i := 11) sc__law_rich_chain.nd rfl (Or.inl rfl)) pgs_nil)))) (Evl.pss_cut (ps_if (pt_cmpR op_eq (pe_d D__law_draw (hr.mono (by decide)) (by rfl) (pa_cons (pv 0) (pa_cons pe_int pa_nil))) pe_int (nomark _)) (pss_one (ps_set (i := 11) sc__law_rich_chain.nd rfl (Or.inl rfl) (pe_op op_mod (pe_callTy call_int1 (by rfl) T.b_int (by decide +kernel) (pa_cons (pe_op op_add (pv 7) pe_int) pa_nil)) (pv 4)))) pss_nil)
      (pss_one (ps_expr (pe_bm PySem.F.plainAttrs_list PySem.F.slot_list_append PySem.F.type_list_append mt_append (pv 8) (pa_cons (pe_tup (pa_cons (pv 9) (pa_cons (pv 10) (pa_cons (pv 11) pa_nil)))) pa_nil))))))
      (pss_one (ps_expr (pe_bm PySem.F.plainAttrs_list PySem.F.slot_list_append PySem.F.type_list_append mt_append (pv 6) (pa_cons (pe_callTy (tupOfT (K := K) rfl) (by rfl) T.b_tuple (by decide +kernel) (pa_cons (pv 8) pa_nil)) pa_nil)))))))
      (pss_one (ps_ret (pe_tup (pa_cons pe_str (pa_cons (pv 3) (pa_cons (pe_callTy (tupOfT (K := K) rfl) (by rfl) T.b_tuple (by decide +kernel) (pa_cons (pv 6) pa_nil)) pa_nil)))))))))))))), ?_⟩
    refine ⟨_, rfl, S, D, 2, rfl, divW_of (by decide) (by decide), d, fun H1 v v0 v1 g1 => ⟨_, _, rfl, rfl, ?_⟩⟩
    refine ⟨fun σ' H' => ∃ b : Int, σ' = [some (.ref D), some (.ref m), some (.int n), some (.int b), none, none, none, none, none, none, none, none] ∧ 2 ≤ b ∧ b ≤ 6 ∧ Go S D H H', ?_, ?_⟩
    · refine ⟨_, rfl, S, D, 7, rfl, by decide, by decide, g1.1, fun H2 bb g2 => ?_⟩
      exact ⟨_, rfl, ite2 (fun _ => ⟨6, rfl, by decide, by decide, g1.trans g2⟩) (fun _ => ⟨2 + v, rfl, by omega, by omega, g1.trans g2⟩)⟩
    · rintro σ' H2 ⟨b, rfl, b2, b6, g2⟩
      refine ⟨_, rfl, S, D, 5, rfl, divW_of (by decide) (by decide), g2.1, fun H3 u u0 u1 g3 => ⟨_, _, rfl, rfl, ?_⟩⟩
      have g3 := g2.trans g3
      refine ⟨fun σ' H' => ∃ c : Int, σ' = [some (.ref D), some (.ref m), some (.int n), some (.int b), some (.int c), none, none, none, none, none, none, none] ∧ 1 ≤ c ∧ c ≤ 50 ∧ Go S D H H', ?_, ?_⟩
      · refine ⟨_, rfl, S, D, 9, rfl, by decide, by decide, g3.1, fun H4 bb g4 => ?_⟩
        exact ⟨_, rfl, ite2 (fun _ => ⟨_, rfl, n, rfl, n1, n2, g3.trans g4⟩) (fun _ => ⟨1 + u, rfl, by omega, by omega, g3.trans g4⟩)⟩
      · rintro σ' H4 ⟨c, rfl, c1, c2, g4⟩
        refine ⟨_, rfl, _, rfl, _, rfl, _, rfl, S, D, m, b, c, ms, rfl, g4.1, nD, g4.2 _ _ hm nD, h0, h1, b2, b6, c1, c2, fun H5 vc C g5 hC okC lC => ?_⟩
        have g5 := g4.trans g5
        refine ⟨_, rfl, S, D, 3, rfl, divW_of (by decide) (by decide), g5.1, fun H6 x x0 x1 g6 => ⟨_, _, rfl, rfl, ?_⟩⟩
        have hC6 := dp_keep (Go.keepT g5.1 g6) _ _ (dChn_noL b C) hC
        have g6 := g5.trans g6
        refine ⟨_, rfl, ite2 (fun _ => ⟨_, rfl, q H6 vc b C g6 hC6 okC⟩) (fun _ => ⟨Nat.zero_le _, fun L hL => ?_⟩)⟩
        have gL := Go.new (o := .lst []) g6.1 hL
        have LD := (g6.1.free hL).1
        have L0 := g6.free d hL
        have hC7 := dp_keep (Go.keepT g6.1 gL) _ _ (dChn_noL b C) hC6
        have hL7 := upd_same (H := H6) (a := L) (o := .lst [])
        generalize upd H6 L (.lst []) = H7 at gL hC7 hL7
        have g7 := g6.trans gL
        refine ⟨_, rfl, _, rfl, by omega, by omega, for_range (lo := 0) (n := c.toNat) (fun i σ H' => ∃ (y7 y8 y9 y10 y11 : Option V) (zs : List V) (R : Chn), σ = [some (.ref D), some (.ref m), some (.int n), some (.int b), some (.int c), some vc, some (.ref L), y7, y8, y9, y10, y11] ∧ Go S D H H' ∧ H' L = some (.lst zs) ∧ DpAll K H' zs (R.map dRw) ∧ Dp K H' vc (dChn b C) ∧ R.length = i ∧ ∀ r ∈ R, RwOk b c.toNat r) ⟨_, _, _, _, _, [], [], rfl, g7, hL7, .nil, hC7, rfl, fun _ h => absurd h List.not_mem_nil⟩ ?_ ?_⟩
        · rintro i σ H8 hi ⟨y7, y8, y9, y10, y11, zs, R, rfl, g8, hL8, hzs, hC8, lR, okR⟩
          have zl := dpA_len hzs
          rw [List.length_map] at zl
          refine ⟨Nat.zero_le _, fun f hf => ?_⟩
          have gf := Go.new (o := .lst []) g8.1 hf
          have fD := (g8.1.free hf).1
          have fL : f ≠ L := (ne_of_none hL8 hf).symm
          have hf9 := upd_same (H := H8) (a := f) (o := .lst [])
          have hC9 := dp_keep (Go.keepT g8.1 gf) _ _ (dChn_noL b C) hC8
          generalize upd H8 f (.lst []) = H9 at gf hf9 hC9
          obtain ⟨pc, pq, xs, rfl, hpc, hpq, hA⟩ := chn_at hC9
          obtain ⟨r, hr1⟩ : ∃ r, C[i]? = some r := ⟨_, getElem?_lt (by omega)⟩
          obtain ⟨xr, hxr, hdr⟩ := dpA_get hA hr1
          have okr := okC.row r (List.mem_of_getElem? hr1)
          rw [lC] at okr
          obtain ⟨pr, rs, rfl, hpr, hrs⟩ := dp_tup hdr
          have rl := dpA_len hrs
          rw [List.length_map] at rl
          refine ⟨_, rfl, pc, _, _, _, rfl, rfl, hpc, atI_nat (j := 2) rfl, _, rfl, pq, xs, _, _, rfl, rfl, hpq, (by rw [Int.zero_add]; exact atI_nat hxr), pr, rfl, ⟨_, hpr⟩, ?_⟩
          refine for_tup (K := K) (a := pr) (xs := rs) (fun j σ H' => ∃ (y9 y10 y11 : Option V) (qs : List V) (u : List Br), σ = [some (.ref D), some (.ref m), some (.int n), some (.int b), some (.int c), some (.ref pc), some (.ref L), some (.int (0 + (i : Int))), some (.ref f), y9, y10, y11] ∧ Go S D H8 H' ∧ KeepT H9 H' ∧ H' f = some (.lst qs) ∧ DpAll K H' qs (u.map dBr) ∧ u.map (·.1) = (r.map (·.1)).take j ∧ ∀ b ∈ u, b.2.2 < c.toNat ∧ b.2.1.length ≤ 6) ⟨_, _, _, [], [], rfl, gf, fun _ _ h => h, hf9, .nil, rfl, fun _ h => absurd h List.not_mem_nil⟩ (fun j σ H' _ ⟨_, _, _, _, _, _, _, k, _⟩ => sqt_keep k hpr) ?_ ?_
          · rintro j x σ H10 hj ⟨y9, y10, y11, qs, u, rfl, g10, k10, hf10, hu, eu, hub⟩
            have jl := (List.getElem?_eq_some_iff.mp hj).1
            obtain ⟨br, hbr, hx⟩ := dpA_mem (dpA_keep k10 _ _ (noLs_br r) hrs) hj
            obtain ⟨pb, x0', x1', rfl, hpb, hd0, hd1⟩ := br_at hx
            have okb := okr.to br (List.mem_of_getElem? hbr)
            have ul : u.length = j := by
              have := congrArg List.length eu
              rw [List.length_map, List.length_take, List.length_map] at this
              omega
            have ql := dpA_len hu
            rw [List.length_map] at ql
            refine ⟨_, _, rfl, hpb, rfl, _, _, rfl, _, _, rfl, _, _, rfl, rfl, ?_⟩
            refine ⟨fun σ' H' => ∃ t : Int, σ' = [some (.ref D), some (.ref m), some (.int n), some (.int b), some (.int c), some (.ref pc), some (.ref L), some (.int (0 + (i : Int))), some (.ref f), some x0', some x1', some (.int t)] ∧ 0 ≤ t ∧ t < c ∧ Go S D H10 H', ?_, ?_⟩
            · refine ⟨_, rfl, S, D, 2, rfl, divW_of (by decide) (by decide), g10.1, fun H11 v v0 v1 g11 => ⟨rfl, ?_⟩⟩
              refine ⟨_, rfl, ite2 (fun _ => ?_) (fun _ => ⟨_, rfl, by omega, by have := okb.1; omega, g11⟩)⟩
              exact ⟨_, rfl, _, _, rfl, rfl, .inl ⟨_, rfl, _, rfl, _, _, rfl, rfl, by omega, _, rfl, Int.emod_nonneg _ (by omega), Int.emod_lt_of_pos _ (by omega), g11⟩⟩
            · rintro σ' H11 ⟨t, rfl, t0, t1, g11⟩
              refine ⟨_, rfl, .inl ⟨rfl, _, SqL.of (g11.2 _ _ hf10 fD)⟩, _, rfl, _, rfl, _, rfl, by show 3 ≤ sizeLine; decide, fun pn hpn => ?_⟩
              have gb := g11.trans (Go.new (o := .tup [x0', x1', .int t]) g11.1 hpn)
              have hpb8 := upd_same (H := H11) (a := pn) (o := .tup [x0', x1', .int t])
              generalize upd H11 pn (.tup [x0', x1', .int t]) = H12 at gb hpb8
              have k12 := Go.keepT g10.1 gb
              have hf12 := gb.2 _ _ hf10 fD
              have kf := keepT_nt (o := .lst (qs ++ [.ref pn])) (nt_lst _) hf12
              have dB : Dp K H12 (.ref pn) (dBr (br.1, br.2.1, t.toNat)) := by
                have e1 : PyData.int ((t.toNat : Nat) : Int) = .int t := by rw [Int.toNat_of_nonneg t0]
                show Dp K H12 (.ref pn) (.tuple [dI br.1, dSh br.2.1, .int ((t.toNat : Nat) : Int)])
                rw [e1]
                exact .tup (SqT.of hpb8) (.cons (dp_keep k12 _ _ (dI_noL _) hd0) (.cons (dp_keep k12 _ _ (dSh_noL _) hd1) (.cons (.int _) .nil)))
              refine ⟨f, qs, _, rfl, rfl, hf12, line6 (by have := okr.few; omega), _, _, _, qs ++ [.ref pn], u ++ [(br.1, br.2.1, t.toNat)], rfl, goU hf g8.1 (g10.trans gb), (k10.trans k12).trans kf, upd_same, ?_, ?_, fun y hy => ?_⟩
              · rw [List.map_append]
                exact dpA_snoc (dpA_keep kf _ _ (noLs_br u) (dpA_keep k12 _ _ (noLs_br u) hu)) (dp_keep kf _ _ (dBr_noL _) dB)
              · rw [List.map_append, eu, List.take_add_one, List.getElem?_map, hbr]
                rfl
              · rcases List.mem_append.mp hy with h | h
                · exact hub y h
                · rw [List.mem_singleton.mp h]
                  exact ⟨by show t.toNat < c.toNat; omega, okb.2⟩
          · rintro σ H10 ⟨y9, y10, y11, qs, u, rfl, g10, k10, hf10, hu, eu, hub⟩
            rw [rl, ← List.length_map, List.take_length] at eu
            have ul : u.length = r.length := by
              have := congrArg List.length eu
              rw [List.length_map, List.length_map] at this
              exact this
            have gg := g8.trans g10
            have hL10 := g10.2 _ _ hL8 LD
            refine ⟨_, rfl, .inl ⟨rfl, _, SqL.of hL10⟩, _, rfl, f, qs, rfl, .inl ⟨SqL.of hf10, fun pr hpr => ?_⟩⟩
            have gp := Go.new (o := .tup qs) g10.1 hpr
            have kp := Go.keepT g10.1 gp
            have hpr6 := upd_same (H := H10) (a := pr) (o := .tup qs)
            have hL6 := gp.2 _ _ hL10 LD
            have hC11 := dp_keep (Go.keepT g8.1 (g10.trans gp)) _ _ (dChn_noL b C) hC8
            generalize upd H10 pr (.tup qs) = H11 at gp kp hpr6 hL6 hC11
            have kL := keepT_nt (o := .lst (zs ++ [.ref pr])) (nt_lst _) hL6
            refine ⟨L, zs, _, rfl, rfl, hL6, line6 (by omega), _, _, _, _, _, zs ++ [.ref pr], R ++ [u], rfl, goU L0 d (gg.trans gp), upd_same, ?_, dp_keep kL _ _ (dChn_noL b C) hC11, by rw [List.length_append, lR]; rfl, fun x hx => ?_⟩
            · rw [List.map_append]
              exact dpA_snoc (dpA_keep kL _ _ (noLs_rw R) (dpA_keep (Go.keepT g8.1 (g10.trans gp)) _ _ (noLs_rw R) hzs)) (dp_keep kL _ _ (dRw_noL _) (.tup (SqT.of hpr6) (dpA_keep kp _ _ (noLs_br u) hu)))
            · rcases List.mem_append.mp hx with h | h
              · exact okR x h
              · rw [List.mem_singleton.mp h]
                exact ⟨by rw [ul]; exact okr.ne, by rw [ul]; exact okr.few, hub, by rw [eu]; exact okr.cm⟩
        · rintro σ H8 ⟨y7, y8, y9, y10, y11, zs, R, rfl, g8, hL8, hzs, hC8, lR, okR⟩
          refine ⟨_, rfl, _, rfl, L, zs, rfl, .inl ⟨SqL.of hL8, fun pq hpq => ⟨by show 3 ≤ sizeLine; decide, fun pw hpw => ?_⟩⟩⟩
          have gq := Go.new (o := .tup zs) g8.1 hpq
          have gw := gq.trans (Go.new (o := .tup [.str "chain", .int b, .ref pq]) gq.1 hpw)
          have hpq2 := same_new (o := .tup [.str "chain", .int b, .ref pq]) hpw _ _ (upd_same (H := H8) (a := pq) (o := .tup zs))
          refine q _ _ b R (g8.trans gw) (.tup (SqT.of upd_same) (.cons (.str _) (.cons (.int _) (.cons (.tup (SqT.of hpq2) (dpA_keep (Go.keepT g8.1 gw) _ _ (noLs_rw R) hzs)) .nil)))) ⟨b2, b6, by omega, by omega, fun r hr => ?_⟩
          rw [lR]
          exact okR r hr
end
end Mt
namespace Mt
open PySem PySem.Spec PyProof.Rows L2
theorem tupKK {X : Cx} {K : PySem.W.Frag} (h : X.K = K) : CallR X (.type "tuple") (fun xs H Q => ∃ p ys, xs = [.ref p] ∧ SqL K H p ys ∧ ∀ l (o : Obj), H l = none → o.dict = none → Q (.ref l) (upd H l (.frz o (.tup ys)))) := h ▸ SR.cr_tupleK
/-- worths: a tuple of pairs -/
def WAt (K : PySem.W.Frag) (H : Hp) (v : V) (W : List (Str × Int)) : Prop := ∃ (a : Addr) (ps : List SR.Ptr), v = .ref a ∧ SR.TupK H a (ps.map fun p => V.ref p.1) ∧ (∀ p ∈ ps, SqT K H p.1 [.str p.2.1, .int p.2.2]) ∧ ps.map (·.2) = W
theorem WAt.same {K : PySem.W.Frag} {H H' : Hp} {v : V} {W : List (Str × Int)} (s : Same H H') (h : WAt K H v W) : WAt K H' v W := by
  obtain ⟨a, ps, e, ⟨o, h1, h2⟩, h3, h4⟩ := h
  exact ⟨a, ps, e, ⟨o, s _ _ h1, h2⟩, fun p hp => same_t s (h3 p hp), h4⟩
theorem WAt.go {K : PySem.W.Frag} {S D : Addr} {H H' : Hp} {v : V} {W : List (Str × Int)} (d : DrawAt S D H) (g : Go S D H H') (h : WAt K H v W) : WAt K H' v W := by
  obtain ⟨a, ps, e, ⟨o, h1, h2⟩, h3, h4⟩ := h
  have n : a ≠ D := fun e => by
    obtain ⟨_, _, _, _, hD⟩ := d.at_
    rw [e, hD] at h1
    cases h1
  exact ⟨a, ps, e, ⟨o, g.2 _ _ h1 n, h2⟩, fun p hp => sqt_keep (Go.keepT d g) (h3 p hp), h4⟩
def spWorths (K : PySem.W.Frag) : Sp := fun vs H Q _ => ∃ (S D m : Addr) (ms : List Str), vs = [.ref D, .ref m] ∧ DrawAt S D H ∧ m ≠ D ∧ H m = some (.lst (ms.map V.str)) ∧ ms.Nodup ∧ ms.length ≤ 100 ∧
  ∀ (H' : Hp) (v : V) (W : List (Str × Int)), Go S D H H' → WAt K H' v W → (W.map (·.1)).Nodup → W.length ≤ 100 → (∀ e ∈ W, e.2.natAbs ≤ 99) → Q v H'
def dPr (z : Str × Int) : PyData := .tuple [.str z.1, .int z.2]
theorem srt_prs (l : List (Str × Int)) : SR.SrtOk (l.map dPr) := by
  refine ⟨PySem.W.AllAlike.of fun a b => ?_, .inl (.inl fun d hd => ?_), fun d hd => ?_⟩
  · show PySem.W.alike (dPr a) (dPr b) = true
    simp [dPr, PySem.W.alike, PySem.W.alikeAll]
  · obtain ⟨w, hw, rfl⟩ := List.mem_map.mp hd
    exact ⟨_, _, rfl⟩
  · obtain ⟨w, hw, rfl⟩ := List.mem_map.mp hd
    simp [dPr, PyData.depth, PyData.depthAll]
section
variable {P : Program} {w : World} {K : PySem.W.Frag} {mg : Str → Option Value} {base : Heap}
theorem ok__law_drawn_worths (T : Txt K mg) (D__law_draw : Kept P w K mg base 1 "_law_draw" ["d", "many"] spDraw) (D__law_pick : Kept P w K mg base 2 "_law_pick" ["d", "row"] (spPick K)) {f : Addr} {fd : FuncData} (F : FnP K "_law_drawn_worths" s__law_drawn_worths f fd) : FnOk P w K mg base CX0 3 f fd ["d", "marks"] (spWorths K) := by
  refine F.ok sc__law_drawn_worths (fun vs H Q E h => ?_) (fun cdv A outer s H vs Q E hr h => ?_)
  · obtain ⟨S, D, m, ms, rfl, _⟩ := h
    rfl
  · obtain ⟨S, D, m, ms, rfl, d, nD, hm, nd, hl, q⟩ := h
    refine ⟨_, PSs.nox (pss_cons (ps_set (i := 2) sc__law_drawn_worths.nd rfl (Or.inl rfl) (pe_lst pa_nil))
      (pss_cons (ps_for PassesOwn.never rfl (pi_list (pv 1)) (pg_name (i := 3) sc__law_drawn_worths.nd rfl (Or.inl rfl)) (pss_cons (ps_set (i := 4) sc__law_drawn_worths.nd rfl (Or.inl rfl) (pe_d D__law_draw (hr.mono (by decide)) (by rfl) (pa_cons (pv 0) (pa_cons pe_int pa_nil))))
      (pss_one (ps_if (pt_cmpR op_eq (pv 4) pe_int (nomark _)) (pss_one (ps_expr (pe_bm PySem.F.plainAttrs_list PySem.F.slot_list_append PySem.F.type_list_append mt_append (pv 2) (pa_cons (pe_tup (pa_cons (pv 3) (pa_cons (pe_d D__law_pick (hr.mono (by decide)) (by rfl) (pa_cons (pv 0) (pa_cons (pe_lst (pa_cons (pe_un un_neg pe_int) (pa_cons pe_int pa_nil))) pa_nil))) pa_nil))) pa_nil)))) (pss_one (ps_if (pt_cmpR op_eq (pv 4) pe_int (nomark _)) (pss_one (ps_expr (pe_bm PySem.F.plainAttrs_list PySem.F.slot_list_append PySem.F.type_list_append mt_append (pv 2) (pa_cons (pe_tup (pa_cons (pv 3) (pa_cons (pe_op op_sub (pe_d D__law_draw (hr.mono (by decide)) (by rfl) (pa_cons (pv 0) (pa_cons pe_int pa_nil))) pe_int) pa_nil))) pa_nil)))) (pss_one (ps_if (pt_cmpR op_gt (pv 4) pe_int (nomark _)) (pss_one (ps_expr (pe_bm PySem.F.plainAttrs_list PySem.F.slot_list_append PySem.F.type_list_append mt_append (pv 2) (pa_cons (pe_tup (pa_cons (pv 3) (pa_cons (pe_op op_sub (pe_d D__law_draw (hr.mono (by decide)) (by rfl) (pa_cons (pv 0) (pa_cons pe_int pa_nil))) pe_int) pa_nil))) pa_nil)))) pss_nil))))))))
      (pss_one (ps_ret (pe_callTy (tupKK (K := K) rfl) (by rfl) T.b_tuple (by decide +kernel) (pa_cons (pe_callB (srtK (K := K) rfl hr.units) (by rfl) T.b_sorted (by decide +kernel) (pa_cons (pv 2) pa_nil)) pa_nil)))))), ?_⟩
    refine ⟨Nat.zero_le _, fun L hL => ?_⟩
    have gL := Go.new (o := .lst []) d hL
    have LD := (d.free hL).1
    have hL7 := upd_same (H := H) (a := L) (o := .lst [])
    generalize upd H L (.lst []) = H7 at gL hL7
    refine ⟨_, rfl, m, rfl, ⟨_, SqL.of (gL.2 _ _ hm nD)⟩, for_list (K := K) (a := m) (xs := ms.map V.str) (fun i σ H' => ∃ (y3 y4 : Option V) (ps : List SR.Ptr), σ = [some (.ref D), some (.ref m), some (.ref L), y3, y4] ∧ Go S D H H' ∧ H' L = some (.lst (ps.map fun p => .ref p.1)) ∧ (∀ p ∈ ps, SqT K H' p.1 [.str p.2.1, .int p.2.2]) ∧ (ps.map (·.2.1)).Sublist (ms.take i) ∧ ∀ p ∈ ps, p.2.2.natAbs ≤ 99) ⟨_, _, [], rfl, gL, hL7, fun _ h => absurd h List.not_mem_nil, List.nil_sublist _, fun _ h => absurd h List.not_mem_nil⟩ (fun i σ H' _ ⟨_, _, _, _, g, _⟩ => SqL.of (g.2 _ _ hm nD)) ?_ ?_⟩
    · rintro i x σ H8 hi ⟨y3, y4, ps, rfl, g8, hL8, hps, hsub, hbd⟩
      obtain ⟨z, hz, rfl⟩ : ∃ z, ms[i]? = some z ∧ .str z = x := by
        rw [List.getElem?_map] at hi
        cases e : ms[i]? with
        | none =>
          rw [e] at hi
          cases hi
        | some z =>
          rw [e] at hi
          exact ⟨z, rfl, Option.some.inj hi⟩
      have il := (List.getElem?_eq_some_iff.mp hz).1
      have pl := hsub.length_le
      rw [List.length_map, List.length_take] at pl
      have et : ms.take (i + 1) = ms.take i ++ [z] := by
        rw [List.take_add_one, hz]
        rfl
      have addp : ∀ (H9 : Hp) (i9 : Int) (p : Addr), Go S D H8 H9 → H9 p = none → i9.natAbs ≤ 99 → upd H9 p (.tup [.str z, .int i9]) L = some (.lst (ps.map fun p => .ref p.1)) ∧ (ps.map fun p => V.ref p.1).length < sizeLine ∧
          ∃ ps2 : List SR.Ptr, Go S D H (upd (upd H9 p (.tup [.str z, .int i9])) L (.lst ((ps.map fun p => V.ref p.1) ++ [.ref p]))) ∧ upd (upd H9 p (.tup [.str z, .int i9])) L (.lst ((ps.map fun p => V.ref p.1) ++ [.ref p])) L = some (.lst (ps2.map fun p => .ref p.1)) ∧ (∀ q ∈ ps2, SqT K (upd (upd H9 p (.tup [.str z, .int i9])) L (.lst ((ps.map fun p => V.ref p.1) ++ [.ref p]))) q.1 [.str q.2.1, .int q.2.2]) ∧ (ps2.map (·.2.1)).Sublist (ms.take (i + 1)) ∧ ∀ p ∈ ps2, p.2.2.natAbs ≤ 99 := by
        intro H9 i9 p g9 hp h99
        have gp := g9.trans (Go.new (o := .tup [.str z, .int i9]) g9.1 hp)
        have hL10 := gp.2 _ _ hL8 LD
        have hp10 := upd_same (H := H9) (a := p) (o := .tup [.str z, .int i9])
        generalize upd H9 p (.tup [.str z, .int i9]) = H10 at gp hL10 hp10
        have kL := keepT_nt (o := .lst ((ps.map fun p => V.ref p.1) ++ [.ref p])) (nt_lst _) hL10
        refine ⟨hL10, by rw [List.length_map]; exact line6 (by omega), ps ++ [(p, z, i9)], goU hL d (g8.trans gp), by rw [upd_same, List.map_append]; rfl, fun q hq => ?_, ?_, fun q hq => ?_⟩
        · rcases List.mem_append.mp hq with h | h
          · exact sqt_keep kL (sqt_keep (Go.keepT g8.1 gp) (hps q h))
          · rw [List.mem_singleton.mp h]
            exact sqt_keep kL (SqT.of hp10)
        · rw [et, List.map_append]
          exact hsub.append (List.Sublist.refl _)
        · rcases List.mem_append.mp hq with h | h
          · exact hbd q h
          · rw [List.mem_singleton.mp h]
            exact h99
      refine ⟨_, rfl, S, D, 6, rfl, divW_of (by decide) (by decide), g8.1, fun H9 v v0 v1 g9 => ?_⟩
      refine ⟨_, rfl, rfl, _, rfl, ite2 (fun _ => ?_) (fun _ => ⟨_, rfl, rfl, _, rfl, ite2 (fun _ => ?_) (fun _ => ⟨_, rfl, _, _, rfl, rfl, _, rfl, ite2 (fun _ => ?_) (fun _ => ?_)⟩)⟩)⟩
      · refine ⟨_, rfl, .inl ⟨rfl, _, SqL.of (g9.2 _ _ hL8 LD)⟩, _, rfl, _, rfl, _, rfl, by show 2 ≤ sizeLine; decide, fun l hl0 => ?_⟩
        have gl := g9.trans (Go.new (o := .lst [V.int (-99), .int 99]) g9.1 hl0)
        have hl1 := upd_same (H := H9) (a := l) (o := .lst [V.int (-99), .int 99])
        have lD := (g9.1.free hl0).1
        refine ⟨S, D, .ref l, [V.int (-99), .int 99], rfl, gl.1, fun H' g => .inr (.inl ⟨l, rfl, SqL.of (g.2 _ _ hl1 lD)⟩), by decide, by decide, fun H10 x hx g10 => ?_⟩
        obtain ⟨i9, rfl, h99⟩ : ∃ i9 : Int, x = .int i9 ∧ i9.natAbs ≤ 99 := by
          simp only [List.mem_cons, List.not_mem_nil, or_false] at hx
          rcases hx with e | e
          · exact ⟨_, e, by decide⟩
          · exact ⟨_, e, by decide⟩
        refine ⟨by show 2 ≤ sizeLine; decide, fun p hp => ?_⟩
        obtain ⟨a1, a2, ps2, a3, a4, a5, a6⟩ := addp H10 i9 p (gl.trans g10) hp h99
        exact ⟨L, _, _, rfl, rfl, a1, a2, _, _, ps2, rfl, a3, a4, a5, a6⟩
      · refine ⟨_, rfl, .inl ⟨rfl, _, SqL.of (g9.2 _ _ hL8 LD)⟩, _, rfl, _, rfl, S, D, 199, rfl, divW_of (by decide) (by decide), g9.1, fun H10 u u0 u1 g10 => ⟨_, _, rfl, rfl, by show 2 ≤ sizeLine; decide, fun p hp => ?_⟩⟩
        obtain ⟨a1, a2, ps2, a3, a4, a5, a6⟩ := addp H10 (u - 99) p (g9.trans g10) hp (by omega)
        exact ⟨L, _, _, rfl, rfl, a1, a2, _, _, ps2, rfl, a3, a4, a5, a6⟩
      · refine ⟨_, rfl, .inl ⟨rfl, _, SqL.of (g9.2 _ _ hL8 LD)⟩, _, rfl, _, rfl, S, D, 7, rfl, divW_of (by decide) (by decide), g9.1, fun H10 u u0 u1 g10 => ⟨_, _, rfl, rfl, by show 2 ≤ sizeLine; decide, fun p hp => ?_⟩⟩
        obtain ⟨a1, a2, ps2, a3, a4, a5, a6⟩ := addp H10 (u - 3) p (g9.trans g10) hp (by omega)
        exact ⟨L, _, _, rfl, rfl, a1, a2, _, _, ps2, rfl, a3, a4, a5, a6⟩
      · refine ⟨_, _, ps, rfl, g8.trans g9, g9.2 _ _ hL8 LD, fun p hp => sqt_keep (Go.keepT g8.1 g9) (hps p hp), ?_, hbd⟩
        rw [et]
        exact hsub.trans (List.sublist_append_left _ _)
    · rintro σ H8 ⟨y3, y4, ps, rfl, g8, hL8, hps, hsub, hbd⟩
      rw [List.length_map, List.take_length] at hsub
      have pl := hsub.length_le
      rw [List.length_map] at pl
      refine ⟨_, rfl, L, ps.map fun p => (V.ref p.1, dPr p.2), rfl, SqL.of (by rw [List.map_map]; exact hL8), fun b hb => ?_, ?_, fun ys q0 hy hq0 => ?_⟩
      · obtain ⟨p, hp, rfl⟩ := List.mem_map.mp hb
        exact .tup (hps p hp) (.cons (.str _) (.cons (.int _) .nil))
      · rw [List.map_map, show ((fun x : V × PyData => x.2) ∘ fun p : SR.Ptr => (V.ref p.1, dPr p.2)) = dPr ∘ (fun p : SR.Ptr => p.2) from rfl, ← List.map_map]
        exact srt_prs _
      · obtain ⟨ps2, hperm, rfl⟩ := perm_back hy
        have g9 := Go.new (o := .lst ((ps2.map fun p => (V.ref p.1, dPr p.2)).map (·.1))) g8.1 hq0
        refine ⟨q0, _, rfl, SqL.of upd_same, fun t o ht ho => ?_⟩
        have g10 := g9.trans (Go.new (o := .frz o (.tup ((ps2.map fun p => (V.ref p.1, dPr p.2)).map (·.1)))) g9.1 ht)
        refine q _ _ (ps2.map (·.2)) (g8.trans g10) ⟨t, ps2, rfl, ⟨o, by rw [upd_same, List.map_map]; rfl, ho⟩, fun p hp => sqt_keep (Go.keepT g8.1 g10) (hps p (hperm.mem_iff.mp hp)), rfl⟩ ?_ (by rw [List.length_map, hperm.length_eq]; omega) (fun e he => by
          obtain ⟨p, hp, rfl⟩ := List.mem_map.mp he
          exact hbd p (hperm.mem_iff.mp hp))
        rw [List.map_map]
        exact ((hperm.map (fun p : SR.Ptr => p.2.1)).nodup_iff).mpr (hsub.nodup nd)
end
end Mt
namespace Mt
open PySem PySem.Spec PyProof.Rows L2
def look (W : List (Str × Int)) (z : Str) : Int := ((W.find? fun e => decide (e.1 = z)).map (·.2)).getD 0
def wv (W : List (Str × Int)) (ss : List Str) : Int := (ss.map (look W)).sum
def cnt (z : Str) (ss : List Str) : Int := ((ss.filter fun o => decide (o = z)).length : Int)
theorem look_none {W : List (Str × Int)} {z : Str} (h : z ∉ W.map (·.1)) : look W z = 0 := by
  unfold look
  rw [List.find?_eq_none.mpr fun e he => ?_]
  · rfl
  · intro k
    exact h (List.mem_map.mpr ⟨e, he, of_decide_eq_true k⟩)
theorem look_cons {e : Str × Int} {W : List (Str × Int)} (h : e.1 ∉ W.map (·.1)) (z : Str) : look (e :: W) z = (if z = e.1 then e.2 else 0) + look W z := by
  by_cases k : z = e.1
  · rw [if_pos k, k, look_none h]
    unfold look
    rw [List.find?_cons_of_pos (by simp)]
    simp
  · rw [if_neg k, Int.zero_add]
    unfold look
    rw [List.find?_cons_of_neg (by simpa using fun h => k h.symm)]
theorem wv_nil (ss : List Str) : wv [] ss = 0 := by
  induction ss with
  | nil => rfl
  | cons a r ih =>
    show look [] a + wv [] r = 0
    rw [ih]
    rfl
theorem wv_cons {e : Str × Int} {W : List (Str × Int)} (h : e.1 ∉ W.map (·.1)) (ss : List Str) : wv (e :: W) ss = e.2 * cnt e.1 ss + wv W ss := by
  induction ss with
  | nil => simp [wv, cnt]
  | cons a r ih =>
    have h1 : wv (e :: W) (a :: r) = look (e :: W) a + wv (e :: W) r := rfl
    have h2 : wv W (a :: r) = look W a + wv W r := rfl
    rw [h1, h2, ih, look_cons h]
    have h3 : cnt e.1 (a :: r) = (if a = e.1 then 1 else 0) + cnt e.1 r := by
      unfold cnt
      by_cases k : a = e.1
      · rw [List.filter_cons_of_pos (by simpa using k), if_pos k, List.length_cons]
        omega
      · rw [List.filter_cons_of_neg (by simpa using k), if_neg k]
        omega
    rw [h3]
    split
    · rw [Int.mul_add]
      omega
    · simp only [Int.zero_add]
      omega
theorem wv_law : ∀ {W : List (Str × Int)}, (W.map (·.1)).Nodup → ∀ ss : List Str, wv W ss = (W.map fun e => e.2 * cnt e.1 ss).sum
  | [], _, ss => wv_nil ss
  | e :: W, nd, ss => by
    have nd2 : e.1 ∉ W.map (·.1) ∧ (W.map (·.1)).Nodup := List.nodup_cons.mp nd
    rw [wv_cons nd2.1, wv_law nd2.2]
    rfl
theorem valV_merge : ∀ (ps : List (Str × Int)) (acc : List (L2.Key × V)) (z : Str), (ps.map (·.1)).Nodup → (valV (mergeK acc (ps.map fun p => ((.inr p.1 : L2.Key), V.int p.2))) (.inr z)) = match ps.find? fun e => decide (e.1 = z) with
      | some e => some (.int e.2)
      | none => valV acc (.inr z)
  | [], _, _, _ => rfl
  | p :: r, acc, z, nd => by
    have nd2 : p.1 ∉ r.map (·.1) ∧ (r.map (·.1)).Nodup := List.nodup_cons.mp nd
    have e : mergeK acc ((p :: r).map fun p => ((.inr p.1 : L2.Key), V.int p.2)) = mergeK (putK acc (.inr p.1) (.int p.2)) (r.map fun p => ((.inr p.1 : L2.Key), V.int p.2)) := rfl
    rw [e, valV_merge r _ z nd2.2, valV_put]
    by_cases k : p.1 = z
    · rw [List.find?_cons_of_pos (by simpa using k)]
      have : r.find? (fun e => decide (e.1 = z)) = none := List.find?_eq_none.mpr fun e he q => nd2.1 (List.mem_map.mpr ⟨e, he, (of_decide_eq_true q).trans k.symm⟩)
      rw [this, if_pos (by rw [k])]
    · rw [List.find?_cons_of_neg (by simpa using k)]
      have : ¬ (Sum.inr z : L2.Key) = .inr p.1 := fun h => k (Sum.inr.inj h).symm
      rw [if_neg this]
theorem get_table {W : List (Str × Int)} (nd : (W.map (·.1)).Nodup) (z : Str) : (valV (mergeK [] (W.map fun p => ((.inr p.1 : L2.Key), V.int p.2))) (.inr z)).getD (.int 0) = .int (look W z) := by
  rw [valV_merge W [] z nd]
  unfold look
  split
  · rename_i e h
    rw [h]
    rfl
  · rename_i h
    rw [h]
    rfl
def spWorthOf (K : PySem.W.Frag) : Sp := fun vs H Q _ => ∃ (vw vs' : V) (W : List (Str × Int)) (ss : List Str), vs = [vw, vs'] ∧ WAt K H vw W ∧ (W.map (·.1)).Nodup ∧ W.length ≤ 1000 ∧ Dp K H vs' (dSh ss) ∧ ss.length ≤ 1000 ∧ ∀ H', Same H H' → Q (.int (wv W ss)) H'
section
variable {P : Program} {w : World} {K : PySem.W.Frag} {mg : Str → Option Value} {base : Heap}
theorem ok_worth_of (T : Txt K mg) {f : Addr} {fd : FuncData} (F : FnP K "worth_of" s_worth_of f fd) : FnOk P w K mg base CX0 1 f fd ["worths", "shown"] (spWorthOf K) := by
  refine F.ok sc_worth_of (fun vs H Q E h => ?_) (fun cdv A outer s H vs Q E hr h => ?_)
  · obtain ⟨vw, vs', W, ss, rfl, _⟩ := h
    rfl
  · obtain ⟨vw, vs', W, ss, rfl, hw, nd, hwl, hs, hsl, q⟩ := h
    refine ⟨_, PSs.nox (pss_cons (ps_set (i := 2) sc_worth_of.nd rfl (Or.inr rfl) (pe_callTy (SR.cr_dictT rfl) (by rfl) T.b_dict (by decide +kernel) (pa_cons (pv 0) pa_nil)))
      (pss_one (ps_ret (pe_callB (cr_sum rfl) (by rfl) T.b_sum (by decide +kernel) (pa_cons (pe_lc (own := [("mark", 3)]) (g := (gName 3)) (tt := tYes) rfl sc_worth_of.nd (pi_tup (pv 1)) (blkOk_by (N := N_worth_of) (sc := defScope s_worth_of) (by decide +kernel)) (fun _ _ _ _ _ => (pg_name (i := 3) sc_worth_of.nd rfl (Or.inl rfl))) (fun _ _ _ _ _ => pts_nil) (fun _ _ _ _ _ => (pe_dget2 (hu_of hr) (pv 2) (pv 3) pe_int ⟨rfl, rfl, rfl, rfl⟩))) pa_nil))))), ?_⟩
    obtain ⟨a, ps, rfl, hk, hps, rfl⟩ := hw
    obtain ⟨p, rfl, hp⟩ := sh_at hs
    refine ⟨_, rfl, a, ps, rfl, hk, hps, fun t ht => ?_⟩
    have e0 : (ps.map fun p => ((.inr p.2.1 : L2.Key), V.int p.2.2)) = (ps.map (·.2)).map fun p => ((.inr p.1 : L2.Key), V.int p.2) := by rw [List.map_map]; rfl
    rw [e0]
    have s1 := same_new (o := .dK (mergeK [] ((ps.map (·.2)).map fun p => ((.inr p.1 : L2.Key), V.int p.2)))) ht
    have ht1 := upd_same (H := H) (a := t) (o := .dK (mergeK [] ((ps.map (·.2)).map fun p => ((.inr p.1 : L2.Key), V.int p.2))))
    generalize upd H t (.dK (mergeK [] ((ps.map (·.2)).map fun p => ((.inr p.1 : L2.Key), V.int p.2)))) = H1 at s1 ht1
    refine ⟨_, rfl, p, rfl, ⟨_, same_t s1 hp⟩, fun L hL => lc_tup (K := K) (a := p) (xs := ss.map V.str) (fun i H' => Same H1 H' ∧ H' L = some (.lst (((ss.take i).map (look (ps.map (·.2)))).map V.int))) ⟨same_new hL, upd_same⟩ (fun i H' _ e => same_t (s1.trans e.1) hp) ?_ ?_⟩
    · rintro i x H2 hi ⟨s2, hL2⟩
      obtain ⟨z, hz, rfl⟩ : ∃ z, ss[i]? = some z ∧ .str z = x := by
        rw [List.getElem?_map] at hi
        cases e : ss[i]? with
        | none =>
          rw [e] at hi
          cases hi
        | some z =>
          rw [e] at hi
          exact ⟨z, rfl, Option.some.inj hi⟩
      have il := (List.getElem?_eq_some_iff.mp hz).1
      refine ⟨rfl, _, rfl, t, rfl, .inl ⟨_, .inl (s2 _ _ ht1)⟩, _, rfl, _, DGet.k (k := .inr z) (s2 _ _ ht1), ?_⟩
      rw [get_table nd]
      refine ⟨_, hL2, by rw [List.length_map, List.length_map, List.length_take]; exact line6 (by omega), same_mut s2 hL, ?_⟩
      rw [upd_same, List.take_add_one, hz, List.map_append, List.map_append]
      rfl
    · rintro H2 ⟨s2, hL2⟩
      rw [List.length_map, List.take_length] at hL2
      exact ⟨L, _, rfl, SqL.of hL2, q _ (s1.trans s2)⟩
end
end Mt
namespace Mt
open PySem PySem.Spec PyProof.Rows L2
abbrev cs_wr : Scope := { kind := .function, names := [(Str.ofString ".0", .local), (Str.ofString "row", .local), (Str.ofString "worths", .cell)], isGenerator := false, isCoroutine := false }
/-- worths as they are gone through -/
def WAtS (K : PySem.W.Frag) (H : Hp) (v : V) (W : List (Str × Int)) : Prop := ∃ (a : Addr) (ps : List SR.Ptr), v = .ref a ∧ SqT K H a (ps.map fun p => V.ref p.1) ∧ (∀ p ∈ ps, SqT K H p.1 [.str p.2.1, .int p.2.2]) ∧ ps.map (·.2) = W
theorem WAt.s {K : PySem.W.Frag} {H : Hp} {v : V} {W : List (Str × Int)} (h : WAt K H v W) : WAtS K H v W := let ⟨a, ps, e, h1, h2, h3⟩ := h; ⟨a, ps, e, h1.sqt, h2, h3⟩
theorem WAtS.keep {K : PySem.W.Frag} {H H' : Hp} {v : V} {W : List (Str × Int)} (k : KeepT H H') (h : WAtS K H v W) : WAtS K H' v W := let ⟨a, ps, e, h1, h2, h3⟩ := h; ⟨a, ps, e, sqt_keep k h1, fun p hp => sqt_keep k (h2 p hp), h3⟩
def spLWorth (K : PySem.W.Frag) : Sp := fun vs H Q _ => ∃ (vw vs' : V) (W : List (Str × Int)) (ss : List Str), vs = [vw, vs'] ∧ WAtS K H vw W ∧ (W.map (·.1)).Nodup ∧ W.length ≤ 1000 ∧ Dp K H vs' (dSh ss) ∧ ss.length ≤ 1000 ∧ ∀ H', Same H H' → Q (.int (wv W ss)) H'
def dE (e : Int × Nat) : PyData := .tuple [.int e.1, .int (e.2 : Int)]
def dWRow (r : List (Int × Nat)) : PyData := .list (r.map dE)
def dWR (R : List (List (Int × Nat))) : PyData := .list (R.map dWRow)
def wBr (W : List (Str × Int)) (b : Br) : Int × Nat := (wv W b.2.1, b.2.2)
def wRow (W : List (Str × Int)) (r : List Br) : List (Int × Nat) := r.map (wBr W)
def spWRows (K : PySem.W.Frag) : Sp := fun vs H Q _ => ∃ (vc vw : V) (base : Int) (C : Chn) (W : List (Str × Int)), vs = [vc, vw] ∧ Dp K H vc (dChn base C) ∧ ChnOk base C ∧ WAt K H vw W ∧ (W.map (·.1)).Nodup ∧ W.length ≤ 1000 ∧
  ∀ H' v, Same H H' → Dp K H' v (dWR (C.map (wRow W))) → Q v H'
section
variable {P : Program} {w : World} {K : PySem.W.Frag} {mg : Str → Option Value} {base : Heap}
theorem ok_worth_rows (T : Txt K mg) (D_worth_of : Kept P w K mg base 1 "worth_of" ["worths", "shown"] (spWorthOf K)) {f : Addr} {fd : FuncData} (F : FnP K "worth_rows" s_worth_rows f fd) : FnOk P w K mg base CX0 2 f fd ["chain", "worths"] (spWRows K) := by
  refine F.ok sc_worth_rows (fun vs H Q E h => ?_) (fun cdv A outer s H vs Q E hr h => ?_)
  · obtain ⟨vc, vw, b, C, W, rfl, _⟩ := h
    rfl
  · obtain ⟨vc, vw, b, C, W, rfl, hC, okC, hw, nd, hwl, q⟩ := h
    refine ⟨_, PSs.nox (pss_one (ps_ret (pe_lc (own := [("row", 5)]) (g := (gName 5)) (tt := tYes) rfl sc_worth_rows.nd (pi_tup (pe_ix ix_tup (pv 0) pe_int (fun _ _ => rfl))) (blkOk_by (N := N_worth_rows) (sc := defScope s_worth_rows) (by decide +kernel)) (fun _ _ _ _ _ => (pg_name (i := 5) sc_worth_rows.nd rfl (Or.inl rfl))) (fun _ _ _ _ _ => pts_nil) (fun _ _ _ _ _ => (pe_lc (own := [("_", 2), ("shown", 3), ("target", 4)]) (g := (gTup K 3 (gCons (gName 2) (gCons (gName 3) (gCons (gName 4) gNil))))) (tt := tYes) rfl sc_worth_rows.nd (piTK (K := K) rfl (pv 5)) (blkOk_by (N := N_worth_rows) (sc := cs_wr) (by decide +kernel)) (fun _ _ _ _ _ => (pg_tup rfl (pgs_cons (pg_name (i := 2) sc_worth_rows.nd rfl (Or.inl rfl)) (pgs_cons (pg_name (i := 3) sc_worth_rows.nd rfl (Or.inl rfl)) (pgs_cons (pg_name (i := 4) sc_worth_rows.nd rfl (Or.inl rfl)) pgs_nil))))) (fun _ _ _ _ _ => pts_nil) (fun _ _ _ _ _ => (pe_tup (pa_cons (pe_d D_worth_of (hr.mono (by decide)) (by rfl) (pa_cons (pv 1) (pa_cons (pv 3) pa_nil))) (pa_cons (pv 4) pa_nil))))))))), ?_⟩
    obtain ⟨pc, pq, xs, rfl, hpc, hpq, hA⟩ := chn_at hC
    have xl := dpA_len hA
    rw [List.length_map] at xl
    refine ⟨_, rfl, pc, _, _, _, rfl, rfl, hpc, atI_nat (j := 2) rfl, pq, rfl, ⟨_, hpq⟩, fun L hL => lc_tup (K := K) (a := pq) (xs := xs) (fun i H' => Same H H' ∧ FL K L H' ((C.take i).map fun r => dWRow (wRow W r))) ⟨same_new hL, FL.nil hL⟩ (fun i H' _ e => same_t e.1 hpq) ?_ ?_⟩
    · rintro i x H1 hi ⟨s1, fl⟩
      obtain ⟨r, hr1, hx⟩ := dpA_mem hA hi
      have il := (List.getElem?_eq_some_iff.mp hr1).1
      have okr := okC.row r (List.mem_of_getElem? hr1)
      have few := okC.few
      obtain ⟨pr, rs, rfl, hpr, hrs⟩ := dp_tup hx
      have rl := dpA_len hrs
      rw [List.length_map] at rl
      obtain ⟨zs, hL1, zl, _⟩ := id fl.d
      rw [List.length_map, List.length_take] at zl
      refine ⟨rfl, _, rfl, pr, rfl, ⟨_, same_t s1 hpr⟩, fun M hM => lc_tup (K := K) (a := pr) (xs := rs) (fun j H' => Same H1 H' ∧ ∃ qs, H' M = some (.lst qs) ∧ DpAll K H' qs ((r.take j).map fun b => dE (wBr W b))) ⟨same_new hM, [], upd_same, .nil⟩ (fun j H' _ e => same_t (s1.trans e.1) hpr) ?_ ?_⟩
      · rintro j y H2 hj ⟨s2, qs, hM2, hqs⟩
        obtain ⟨br, hbr, hy⟩ := dpA_mem hrs hj
        have jl := (List.getElem?_eq_some_iff.mp hbr).1
        have okb := okr.to br (List.mem_of_getElem? hbr)
        have fewr := okr.few
        have ql := dpA_len hqs
        rw [List.length_map, List.length_take] at ql
        have s12 := s1.trans s2
        obtain ⟨pb, x0', x1', rfl, hpb, hd0, hd1⟩ := br_at hy
        refine ⟨_, _, rfl, same_t s12 hpb, rfl, _, _, rfl, _, _, rfl, _, _, rfl, rfl, rfl, ?_⟩
        refine ⟨_, rfl, _, rfl, vw, x1', W, br.2.1, rfl, hw.same s12, nd, hwl, dp_same s12 _ _ hd1, by omega, fun H3 s3 => ⟨_, rfl, by show 2 ≤ sizeLine; decide, fun pe hpe => ?_⟩⟩
        have s4 := s3.trans (same_new (o := .tup [.int (wv W br.2.1), .int br.2.2]) hpe)
        have hpe4 := upd_same (H := H3) (a := pe) (o := .tup [.int (wv W br.2.1), .int br.2.2])
        generalize upd H3 pe (.tup [.int (wv W br.2.1), .int br.2.2]) = H4 at s4 hpe4
        have hM4 := s4 _ _ hM2
        refine ⟨qs, hM4, line6 (by omega), same_mut (s2.trans s4) hM, qs ++ [.ref pe], upd_same, ?_⟩
        have k4 := keepT_nt (o := .lst (qs ++ [.ref pe])) (nt_lst _) hM4
        rw [List.take_add_one, hbr, List.map_append]
        refine dpA_snoc (dpA_keep k4 _ _ (noLs_map _ _ fun _ _ => rfl) (dpA_same s4 _ _ hqs)) (.tup (sqt_keep k4 (SqT.of hpe4)) (.cons (.int _) (.cons (.int _) .nil)))
      · rintro H2 ⟨s2, qs, hM2, hqs⟩
        rw [rl, List.take_length] at hqs
        have hL2 := s2 _ _ hL1
        refine ⟨zs, hL2, line6 (by omega), same_mut (s1.trans s2) hL, ?_⟩
        rw [List.take_add_one, hr1, List.map_append]
        refine (fl.same s2).add hL2 fun o => ?_
        have nM : M ≠ L := (ne_of_none hL1 hM).symm
        have e : dWRow (wRow W r) = .list (r.map fun b => dE (wBr W b)) := by
          show PyData.list ((r.map (wBr W)).map dE) = _
          rw [List.map_map]
          rfl
        show Dp K (upd H2 L o) (.ref M) (dWRow (wRow W r))
        rw [e]
        exact .lst (SqL.of (by rw [upd_ne nM]; exact hM2)) (dpA_keep (keepT_nt (nt_lst _) hL2) _ _ (noLs_map _ _ fun _ _ => rfl) hqs)
    · rintro H1 ⟨s1, fl⟩
      rw [xl, List.take_length] at fl
      refine q _ _ s1 ?_
      have e : dWR (C.map (wRow W)) = .list (C.map fun r => dWRow (wRow W r)) := by
        show PyData.list ((C.map (wRow W)).map dWRow) = _
        rw [List.map_map]
        rfl
      rw [e]
      exact fl.dp
theorem ok__law_worth (T : Txt K mg) {f : Addr} {fd : FuncData} (F : FnP K "_law_worth" s__law_worth f fd) : FnOk P w K mg base CX0 1 f fd ["worths", "shown"] (spLWorth K) := by
  refine F.ok sc__law_worth (fun vs H Q E h => ?_) (fun cdv A outer s H vs Q E hr h => ?_)
  · obtain ⟨vw, vs', W, ss, rfl, _⟩ := h
    rfl
  · obtain ⟨vw, vs', W, ss, rfl, hw, nd, hwl, hs, hsl, q⟩ := h
    refine ⟨_, PSs.nox (pss_cons (ps_set (i := 2) sc__law_worth.nd rfl (Or.inl rfl) pe_int)
      (pss_cons (ps_for PassesOwn.never rfl (pi_tup (pv 0)) (pg_tup rfl (pgs_cons (pg_name (i := 3) sc__law_worth.nd rfl (Or.inr rfl)) (pgs_cons (pg_name (i := 4) sc__law_worth.nd rfl (Or.inl rfl)) pgs_nil))) (pss_one (ps_aug (i := 2) sc__law_worth.nd rfl (Or.inl rfl) (pe_op op_mul (pv 4) (pe_callB call_len (by rfl) T.b_len (by decide +kernel) (pa_cons (pe_lc (own := [("one", 5)]) (g := (gName 5)) rfl sc__law_worth.nd (pi_tup (pv 1)) (blkOk_by (N := N__law_worth) (sc := defScope s__law_worth) (by decide +kernel)) (fun _ _ _ _ _ => (pg_name (i := 5) sc__law_worth.nd rfl (Or.inl rfl))) (fun _ _ _ _ _ => (pts_one (pt_cmpR op_eq (pv 5) (pv 3) (nomark _)))) (fun _ _ _ _ _ => (pv 5))) pa_nil))) ip_add)))
      (pss_one (ps_ret (pv 2))))), ?_⟩
    obtain ⟨a, ps, rfl, hk, hps, rfl⟩ := hw
    obtain ⟨p, rfl, hp⟩ := sh_at hs
    rw [wv_law nd] at q
    have hT : SqT K H a (ps.map fun p => V.ref p.1) := hk
    refine ⟨_, rfl, a, rfl, ⟨_, hT⟩, for_tup (K := K) (a := a) (xs := ps.map fun p => V.ref p.1) (fun i σ H' => ∃ (y3 y4 y5 : Option V), σ = [some (.ref a), some (.ref p), some (.int (((ps.take i).map fun p => p.2.2 * cnt p.2.1 ss).sum)), y3, y4, y5] ∧ Same H H') ⟨_, _, _, rfl, Same.refl _⟩ (fun i σ H' _ ⟨_, _, _, _, s⟩ => same_t s hT) ?_ ?_⟩
    · rintro i x σ H1 hi ⟨y3, y4, y5, rfl, s1⟩
      obtain ⟨pt, hpt, rfl⟩ : ∃ pt, ps[i]? = some pt ∧ .ref pt.1 = x := by
        rw [List.getElem?_map] at hi
        cases e : ps[i]? with
        | none =>
          rw [e] at hi
          cases hi
        | some z =>
          rw [e] at hi
          exact ⟨z, rfl, Option.some.inj hi⟩
      refine ⟨_, _, rfl, same_t s1 (hps pt (List.mem_of_getElem? hpt)), rfl, _, _, rfl, _, _, rfl, rfl, ?_⟩
      refine ⟨_, rfl, _, rfl, _, rfl, p, rfl, ⟨_, same_t s1 hp⟩, fun L hL => lc_tup (K := K) (a := p) (xs := ss.map V.str) (fun j H' => Same H1 H' ∧ H' L = some (.lst (((ss.take j).filter fun o => decide (o = pt.2.1)).map V.str))) ⟨same_new hL, upd_same⟩ (fun j H' _ e => same_t (s1.trans e.1) hp) ?_ ?_⟩
      · rintro j x H2 hj ⟨s2, hL2⟩
        obtain ⟨z, hz, rfl⟩ : ∃ z, ss[j]? = some z ∧ .str z = x := by
          rw [List.getElem?_map] at hj
          cases e : ss[j]? with
          | none =>
            rw [e] at hj
            cases hj
          | some z =>
            rw [e] at hj
            exact ⟨z, rfl, Option.some.inj hj⟩
        have jl := (List.getElem?_eq_some_iff.mp hz).1
        have fl := List.length_filter_le (fun o => decide (o = pt.2.1)) (ss.take j)
        rw [List.length_take] at fl
        have ed : decide (V.str z = V.str pt.2.1) = decide (z = pt.2.1) := by
          by_cases k : z = pt.2.1
          · rw [k, decide_eq_true rfl, decide_eq_true rfl]
          · rw [decide_eq_false k, decide_eq_false fun h => k (V.str.inj h)]
        refine ⟨rfl, _, rfl, _, rfl, rfl, _, rfl, ?_⟩
        rw [ed, List.take_add_one, hz]
        by_cases k : z = pt.2.1
        · rw [decide_eq_true k]
          refine ⟨_, rfl, _, hL2, by rw [List.length_map]; exact line6 (by omega), same_mut s2 hL, ?_⟩
          rw [upd_same, List.filter_append, List.map_append]
          simp [k]
        · rw [decide_eq_false k]
          refine ⟨s2, ?_⟩
          rw [List.filter_append]
          simpa [k] using hL2
      · rintro H2 ⟨s2, hL2⟩
        rw [List.length_map, List.take_length] at hL2
        have fl := List.length_filter_le (fun o => decide (o = pt.2.1)) ss
        refine ⟨_, _, rfl, .inl ⟨_, SqL.of hL2, rfl⟩, _, _, rfl, rfl, .inr ⟨?_, ?_⟩, _, _, rfl, rfl, ?_⟩
        · rw [List.length_map]
          omega
        · rw [List.length_map]
          omega
        · have es : ((ps.take (i + 1)).map fun p => p.2.2 * cnt p.2.1 ss).sum = ((ps.take i).map fun p => p.2.2 * cnt p.2.1 ss).sum + pt.2.2 * (((ss.filter fun o => decide (o = pt.2.1)).map V.str).length : Int) := by
            rw [List.take_add_one, hpt, List.map_append, List.sum_append, List.length_map]
            simp [cnt]
          rw [es]
          exact ⟨_, _, _, rfl, s1.trans s2⟩
    · rintro σ H1 ⟨y3, y4, y5, rfl, s1⟩
      rw [List.length_map, List.take_length]
      rw [List.map_map] at q
      exact ⟨_, rfl, q _ s1⟩
end
end Mt
namespace Mt
open PySem PySem.Spec PyProof.Rows L2
theorem eqDK {X : Cx} {K : PySem.W.Frag} (h : X.K = K) (hu : X.A.units + 64 < cLine) : OpR X (compareOp .Eq) (rEqD K) := h ▸ op_eqD hu
/-- where a way of branches from s ends -/
def stA (s : Nat) (l : List Br) : Nat := match l.getLast? with
  | some b => b.2.2
  | none => s
theorem stA_snoc (s : Nat) (l : List Br) (b : Br) : stA s (l ++ [b]) = b.2.2 := by
  unfold stA
  rw [List.getLast?_append]
  rfl
/-- chains as they are walked, whole or not -/
structure ChS (C : Chn) : Prop where
  few : C.length ≤ 50
  row : ∀ r ∈ C, r.length ≤ 20 ∧ ∀ b ∈ r, b.2.2 < C.length ∧ b.2.1.length ≤ 6
theorem ChnOk.s {base : Int} {C : Chn} (h : ChnOk base C) : ChS C := ⟨h.few, fun r hr => ⟨(h.row r hr).few, (h.row r hr).to⟩⟩
def nxtB (r : List Br) (w : List Int) : Option Br := (r.filter fun x => decide (x.1 = w))[0]?
def alongB (C : Chn) : Nat → List (List Int) → Option (List Br)
  | _, [] => some []
  | s, w :: ws => match nxtB (rowOf C s) w with
    | none => none
    | some b => (alongB C b.2.2 ws).map (b :: ·)
theorem along_none {C : Chn} {s : Nat} {w : List Int} {ws : List (List Int)} (h : nxtB (rowOf C s) w = none) : alongB C s (w :: ws) = none := by
  unfold alongB
  rw [h]
theorem along_some {C : Chn} {s : Nat} {w : List Int} {ws : List (List Int)} {b : Br} (h : nxtB (rowOf C s) w = some b) : alongB C s (w :: ws) = (alongB C b.2.2 ws).map (b :: ·) := by
  conv => lhs; unfold alongB
  rw [h]
theorem nxt_mem {r : List Br} {w : List Int} {b : Br} (h : nxtB r w = some b) : b ∈ r := (List.mem_filter.mp (List.mem_of_getElem? h)).1
/-- the way so far -/
structure AlI (C : Chn) (s0 : Nat) (ws : List (List Int)) (i : Nat) (l : List Br) : Prop where
  eq : alongB C s0 ws = (alongB C (stA s0 l) (ws.drop i)).map (l ++ ·)
  st : stA s0 l < C.length
  len : l.length = i
  mem : ∀ b ∈ l, b.2.1.length ≤ 6
theorem AlI.zero {C : Chn} {s0 : Nat} {ws : List (List Int)} (h : s0 < C.length) : AlI C s0 ws 0 [] := ⟨by
  show alongB C s0 ws = (alongB C s0 ws).map ([] ++ ·)
  cases alongB C s0 ws <;> rfl, h, rfl, fun _ h => absurd h List.not_mem_nil⟩
theorem drop_at {α : Type} {l : List α} {i : Nat} {x : α} (h : l[i]? = some x) : l.drop i = x :: l.drop (i + 1) := by
  obtain ⟨hi, e⟩ := List.getElem?_eq_some_iff.mp h
  rw [List.drop_eq_getElem_cons hi, e]
theorem AlI.none {C : Chn} {s0 : Nat} {ws : List (List Int)} {i : Nat} {l : List Br} {w : List Int} (a : AlI C s0 ws i l) (hw : ws[i]? = some w) (h : nxtB (rowOf C (stA s0 l)) w = none) : alongB C s0 ws = none := by
  rw [a.eq, drop_at hw, along_none h]
  rfl
theorem AlI.more {C : Chn} {s0 : Nat} {ws : List (List Int)} {i : Nat} {l : List Br} {w : List Int} {b : Br} (ok : ChS C) (a : AlI C s0 ws i l) (hw : ws[i]? = some w) (h : nxtB (rowOf C (stA s0 l)) w = some b) : AlI C s0 ws (i + 1) (l ++ [b]) := by
  have hb := (ok.row _ (List.mem_of_getElem? (rowOf_at a.st))).2 b (nxt_mem h)
  refine ⟨?_, by rw [stA_snoc]; exact hb.1, by rw [List.length_append, a.len]; rfl, fun x hx => ?_⟩
  · rw [a.eq, drop_at hw, along_some h, stA_snoc, Option.map_map]
    congr 1
    funext x
    show l ++ b :: x = (l ++ [b]) ++ x
    rw [List.append_assoc]
    rfl
  · rcases List.mem_append.mp hx with h | h
    · exact a.mem x h
    · rw [List.mem_singleton.mp h]
      exact hb.2
theorem AlI.fin {C : Chn} {s0 : Nat} {ws : List (List Int)} {l : List Br} (a : AlI C s0 ws ws.length l) : alongB C s0 ws = some l := by
  rw [a.eq, List.drop_length]
  show (some []).map (l ++ ·) = some l
  rw [Option.map_some, List.append_nil]
def dWs (ws : List (List Int)) : PyData := .tuple (ws.map dI)
def ABOk (K : PySem.W.Frag) (H : Hp) (x : V) : Option (List Br) → Prop
  | none => x = .non
  | some l => Dp K H x (.list (l.map dBr))
def wsum (W : List (Str × Int)) (l : List Br) : Int := (l.map fun b => wv W b.2.1).sum
def LAOk (W : List (Str × Int)) (K : PySem.W.Frag) (H : Hp) (s : Nat) (x : V) : Option (List Br) → Prop
  | none => x = .non
  | some l => Dp K H x (.tuple [.int ((stA s l : Nat) : Int), .int (wsum W l)])
def spAlongG (K : PySem.W.Frag) : Sp := fun vs H Q _ => ∃ (vr vb : V) (s : Nat) (C : Chn) (ws : List (List Int)), vs = [vr, .int s, vb] ∧ Dp K H vr (.tuple (C.map dRw)) ∧ ChS C ∧ s < C.length ∧ ws.length ≤ 1000 ∧ Dp K H vb (dWs ws) ∧
  ∀ H' x, Same H H' → ABOk K H' x (alongB C s ws) → Q x H'
def spLAlong (K : PySem.W.Frag) : Sp := fun vs H Q _ => ∃ (vc vw vb : V) (s : Nat) (base : Int) (C : Chn) (W : List (Str × Int)) (ws : List (List Int)), vs = [vc, vw, .int s, vb] ∧ Dp K H vc (dChn base C) ∧ ChS C ∧ s < C.length ∧ WAtS K H vw W ∧ (W.map (·.1)).Nodup ∧ W.length ≤ 1000 ∧ ws.length ≤ 1000 ∧ Dp K H vb (dWs ws) ∧
  ∀ H' x, Same H H' → LAOk W K H' s x (alongB C s ws) → Q x H'
section
variable {P : Program} {w : World} {K : PySem.W.Frag} {mg : Str → Option Value} {base : Heap}
theorem ok_branches_along (T : Txt K mg) {f : Addr} {fd : FuncData} (F : FnP K "branches_along" s_branches_along f fd) : FnOk P w K mg base CX0 1 f fd ["rows", "state", "blocks"] (spAlongG K) := by
  refine F.ok sc_branches_along (fun vs H Q E h => ?_) (fun cdv A outer s H vs Q E hr h => ?_)
  · obtain ⟨vr, vb, s, C, ws, rfl, _⟩ := h
    rfl
  · obtain ⟨vr, vb, s0, C, ws, rfl, hR, ok, hs, hl, hb, q⟩ := h
    refine ⟨_, PSs.nox (pss_cons (ps_set (i := 3) sc_branches_along.nd rfl (Or.inl rfl) (pe_lst pa_nil))
      (pss_cons (ps_for PassesOwn.never rfl (pi_tup (pv 2)) (pg_name (i := 4) sc_branches_along.nd rfl (Or.inr rfl)) (pss_cons (ps_setLc (i := 5) (own := [("branch", 6)]) (g := (gName 6)) rfl sc_branches_along.nd rfl rfl (sw_true rfl rfl rfl (by decide +kernel)) (pi_tup (pe_ix ix_tup (pv 0) (pv 1) (fun _ _ => rfl))) (blkOk_by (N := N_branches_along) (sc := defScope s_branches_along) (by decide +kernel)) (fun _ _ _ _ _ => (pg_name (i := 6) sc_branches_along.nd rfl (Or.inl rfl))) (fun _ _ _ _ _ => (pts_one (pt_cmpR (eqDK (K := K) rfl (hr.units)) (pe_ix (ixT (K := K) rfl) (pv 6) pe_int (fun _ _ => rfl)) (pv 4) (nomark _)))) (fun _ _ _ _ _ => (pv 6)))
      (pss_cons (ps_if (pt_not (pt_truth (pv 5) (by intro _; rfl))) (pss_one (ps_ret pe_non)) pss_nil)
      (pss_cons (ps_expr (pe_bm PySem.F.plainAttrs_list PySem.F.slot_list_append PySem.F.type_list_append mt_append (pv 3) (pa_cons (pe_ix ix_list (pv 5) pe_int (fun _ _ => rfl)) pa_nil)))
      (pss_one (ps_set (i := 1) sc_branches_along.nd rfl (Or.inl rfl) (pe_ix ix_tup (pe_ix ix_list (pv 5) pe_int (fun _ _ => rfl)) pe_int (fun _ _ => rfl))))))))
      (pss_one (ps_ret (pv 3))))), ?_⟩
    obtain ⟨pq, xs, rfl, hpq, hA⟩ := dp_tup hR
    obtain ⟨pB, ys, rfl, hpB, hB⟩ := dp_tup hb
    have yl := dpA_len hB
    rw [List.length_map] at yl
    refine ⟨Nat.zero_le _, fun L hL => ?_⟩
    have s1 := same_new (o := .lst []) hL
    have hL1 := upd_same (H := H) (a := L) (o := .lst [])
    generalize upd H L (.lst []) = H1 at s1 hL1
    refine ⟨_, rfl, pB, rfl, ⟨_, same_t s1 hpB⟩, for_tup (K := K) (a := pB) (xs := ys) (fun i σ H' => ∃ (y4 y5 : Option V) (zs : List V) (l : List Br), σ = [some (.ref pq), some (.int (stA s0 l : Nat)), some (.ref pB), some (.ref L), y4, y5, none] ∧ Same H H' ∧ H' L = some (.lst zs) ∧ DpAll K H' zs (l.map dBr) ∧ AlI C s0 ws i l) ⟨_, _, [], [], rfl, s1, hL1, .nil, AlI.zero hs⟩ (fun i σ H' _ ⟨_, _, _, _, _, s, _⟩ => same_t s hpB) ?_ ?_⟩
    · rintro i y σ H2 hi ⟨y4, y5, zs, l, rfl, s2, hL2, hzs, ai⟩
      obtain ⟨wd, hwd, hy⟩ := dpA_mem hB hi
      have il := (List.getElem?_eq_some_iff.mp hwd).1
      have hst := ai.st
      obtain ⟨xr, hxr, hdr⟩ := dpA_get hA (rowOf_at hst)
      have okr := ok.row _ (List.mem_of_getElem? (rowOf_at hst))
      generalize htt : stA s0 l = t at hxr hdr okr hst
      obtain ⟨pr, rs, rfl, hpr, hrs⟩ := dp_tup hdr
      have rl := dpA_len hrs
      rw [List.length_map] at rl
      have few := okr.1
      have zl := dpA_len hzs
      rw [List.length_map, ai.len] at zl
      refine ⟨_, rfl, _, rfl, pq, _, _, _, rfl, rfl, same_t s2 hpq, atI_nat hxr, pr, rfl, ⟨_, same_t s2 hpr⟩, fun M hM => lc_tup (K := K) (a := pr) (xs := rs) (fun k H' => Same H2 H' ∧ ∃ us : List V, H' M = some (.lst us) ∧ DpAll K H' us ((((rowOf C t).take k).filter fun x => decide (x.1 = wd)).map dBr)) ⟨same_new hM, [], upd_same, .nil⟩ (fun k H' _ e => same_t (s2.trans e.1) hpr) ?_ ?_⟩
      · rintro k x H3 hk ⟨s3, us, hM3, hus⟩
        obtain ⟨bx, hbx, hx⟩ := dpA_mem (dpA_same (s2.trans s3) _ _ hrs) hk
        have hx' := hx
        obtain ⟨px, x0, x1, rfl, hpx, hd0, hd1⟩ := br_at hx
        have ul := dpA_len hus
        rw [List.length_map] at ul
        have fl := List.length_filter_le (fun x : Br => decide (x.1 = wd)) ((rowOf C t).take k)
        rw [List.length_take] at fl
        refine ⟨rfl, _, rfl, px, _, _, _, rfl, rfl, hpx, atI_nat (j := 0) rfl, _, rfl, dI bx.1, dI wd, hd0, dp_same (s2.trans s3) _ _ hy, dI_sh _, dI_sh _, _, rfl, ?_⟩
        rw [eqv_I]
        have ft : ((rowOf C t).take (k + 1)).filter (fun x => decide (x.1 = wd)) = ((rowOf C t).take k).filter (fun x => decide (x.1 = wd)) ++ [bx].filter (fun x => decide (x.1 = wd)) := by
          rw [take_snoc hbx, List.filter_append]
        cases hdec : decide (bx.1 = wd) with
        | true =>
          refine ⟨_, rfl, us, hM3, line6 (by omega), same_mut s3 hM, us ++ [.ref px], upd_same, ?_⟩
          have kM := keepT_nt (o := .lst (us ++ [.ref px])) (nt_lst _) hM3
          rw [ft, List.filter_cons_of_pos (p := fun x : Br => decide (x.1 = wd)) hdec, List.filter_nil, List.map_append]
          exact dpA_snoc (dpA_keep kM _ _ (noLs_br _) hus) (dp_keep kM _ _ (dBr_noL _) hx')
        | false =>
          refine ⟨s3, us, hM3, ?_⟩
          rw [ft, List.filter_cons_of_neg (p := fun x : Br => decide (x.1 = wd)) (by simp [hdec]), List.filter_nil, List.append_nil]
          exact hus
      · rintro H3 ⟨s3, us, hM3, hus⟩
        rw [rl, List.take_length] at hus
        cases hnx : nxtB (rowOf C t) wd with
        | none =>
          have f0 : (rowOf C t).filter (fun x => decide (x.1 = wd)) = [] := by
            have h := hnx
            unfold nxtB at h
            rw [List.getElem?_eq_none_iff] at h
            exact List.length_eq_zero_iff.mp (by omega)
          rw [f0] at hus
          cases dpA_nil hus
          refine ⟨_, rfl, false, .inl ⟨_, SqL.of hM3, rfl⟩, ?_⟩
          refine ite2 (fun _ => ?_) (fun h => absurd rfl h)
          refine q _ _ (s2.trans s3) ?_
          rw [ai.none hwd (by rw [htt]; exact hnx)]
          rfl
        | some br =>
          obtain ⟨xh, hxh, hx0⟩ := dpA_get hus hnx
          have une : us.isEmpty = false := by
            cases us with
            | nil => cases hxh
            | cons _ _ => rfl
          have hx' := hx0
          obtain ⟨px, z0, z1, rfl, hpx, hd0, hd1⟩ := br_at hx0
          have hL3 := s3 _ _ hL2
          have kL := keepT_nt (o := .lst (zs ++ [.ref px])) (nt_lst _) hL3
          have LM : M ≠ L := (ne_of_none hL2 hM).symm
          refine ⟨_, rfl, !us.isEmpty, .inl ⟨_, SqL.of hM3, rfl⟩, ?_⟩
          rw [une]
          refine iteNT ?_
          refine ⟨_, rfl, .inl ⟨rfl, _, SqL.of hL3⟩, _, rfl, M, _, _, _, rfl, rfl, SqL.of hM3, atI_nat (j := 0) hxh, L, zs, _, rfl, rfl, hL3, line6 (by omega), ?_⟩
          have hM4 : (upd H3 L (.lst (zs ++ [.ref px]))) M = some (.lst us) := by
            rw [upd_ne LM]
            exact hM3
          refine ⟨_, rfl, M, _, _, _, rfl, rfl, SqL.of hM4, atI_nat (j := 0) hxh, px, _, _, _, rfl, rfl, sqt_keep kL hpx, atI_nat (j := 2) rfl, ?_⟩
          have ai2 := ai.more ok hwd (by rw [htt]; exact hnx)
          refine ⟨_, _, zs ++ [.ref px], l ++ [br], by rw [stA_snoc]; rfl, same_mut (s2.trans s3) hL, upd_same, ?_, ai2⟩
          rw [List.map_append]
          exact dpA_snoc (dpA_keep kL _ _ (noLs_br _) (dpA_same s3 _ _ hzs)) (dp_keep kL _ _ (dBr_noL _) hx')
    · rintro σ H2 ⟨y4, y5, zs, l, rfl, s2, hL2, hzs, ai⟩
      rw [yl] at ai
      refine ⟨_, rfl, q _ _ s2 ?_⟩
      rw [ai.fin]
      exact .lst (SqL.of hL2) hzs
end
end Mt
namespace Mt
open PySem PySem.Spec PyProof.Rows L2
theorem z1 : (1 : Nat) ≤ sizeLine := by decide
theorem z2 : (2 : Nat) ≤ sizeLine := by decide
theorem z3 : (3 : Nat) ≤ sizeLine := by decide
theorem z4 : (4 : Nat) ≤ sizeLine := by decide
section
variable {P : Program} {w : World} {K : PySem.W.Frag} {mg : Str → Option Value} {base : Heap}
theorem ok__law_along (T : Txt K mg) (D__law_worth : Kept P w K mg base 1 "_law_worth" ["worths", "shown"] (spLWorth K)) {f : Addr} {fd : FuncData} (F : FnP K "_law_along" s__law_along f fd) : FnOk P w K mg base CX0 2 f fd ["chain", "worths", "start", "blocks"] (spLAlong K) := by
  refine F.ok sc__law_along (fun vs H Q E h => ?_) (fun cdv A outer s H vs Q E hr h => ?_)
  · obtain ⟨vc, vw, vb, s, b, C, W, ws, rfl, _⟩ := h
    rfl
  · obtain ⟨vc, vw, vb, s0, b, C, W, ws, rfl, hC, ok, hs, hw, nd, hwl, hl, hb, q⟩ := h
    refine ⟨_, PSs.nox (pss_cons (ps_set (i := 4) sc__law_along.nd rfl (Or.inl rfl) (pv 2))
      (pss_cons (ps_set (i := 5) sc__law_along.nd rfl (Or.inl rfl) pe_int)
      (pss_cons (ps_for PassesOwn.never rfl (pi_tup (pv 3)) (pg_name (i := 6) sc__law_along.nd rfl (Or.inr rfl)) (pss_cons (ps_setLc (i := 7) (own := [("branch", 8)]) (g := (gName 8)) rfl sc__law_along.nd rfl rfl (sw_true rfl rfl rfl (by decide +kernel)) (pi_tup (pe_ix ix_tup (pe_ix ix_tup (pv 0) pe_int (fun _ _ => rfl)) (pv 4) (fun _ _ => rfl))) (blkOk_by (N := N__law_along) (sc := defScope s__law_along) (by decide +kernel)) (fun _ _ _ _ _ => (pg_name (i := 8) sc__law_along.nd rfl (Or.inl rfl))) (fun _ _ _ _ _ => (pts_one (pt_cmpR (eqDK (K := K) rfl (hr.units)) (pe_ix (ixT (K := K) rfl) (pv 8) pe_int (fun _ _ => rfl)) (pv 6) (nomark _)))) (fun _ _ _ _ _ => (pv 8)))
      (pss_cons (ps_if (pt_cmpR op_eq (pe_callB call_len (by rfl) T.b_len (by decide +kernel) (pa_cons (pv 7) pa_nil)) pe_int (nomark _)) (pss_one (ps_ret pe_non)) pss_nil)
      (pss_cons (ps_aug (i := 5) sc__law_along.nd rfl (Or.inl rfl) (pe_d D__law_worth (hr.mono (by decide)) (by rfl) (pa_cons (pv 1) (pa_cons (pe_ix ix_tup (pe_ix ix_list (pv 7) pe_int (fun _ _ => rfl)) pe_int (fun _ _ => rfl)) pa_nil))) ip_add)
      (pss_one (ps_set (i := 4) sc__law_along.nd rfl (Or.inl rfl) (pe_ix ix_tup (pe_ix ix_list (pv 7) pe_int (fun _ _ => rfl)) pe_int (fun _ _ => rfl))))))))
      (pss_one (ps_ret (pe_tup (pa_cons (pv 4) (pa_cons (pv 5) pa_nil)))))))), ?_⟩
    obtain ⟨pc, pq, xs, rfl, hpc, hpq, hA⟩ := chn_at hC
    obtain ⟨pB, ys, rfl, hpB, hB⟩ := dp_tup hb
    have yl := dpA_len hB
    rw [List.length_map] at yl
    refine ⟨_, rfl, _, rfl, pB, rfl, ⟨_, hpB⟩, for_tup (K := K) (a := pB) (xs := ys) (fun i σ H' => ∃ (y6 y7 : Option V) (l : List Br), σ = [some (.ref pc), some vw, some (.int (s0 : Int)), some (.ref pB), some (.int (stA s0 l : Nat)), some (.int (wsum W l)), y6, y7, none] ∧ Same H H' ∧ AlI C s0 ws i l) ⟨_, _, [], rfl, Same.refl _, AlI.zero hs⟩ (fun i σ H' _ ⟨_, _, _, _, s, _⟩ => same_t s hpB) ?_ ?_⟩
    · rintro i y σ H2 hi ⟨y6, y7, l, rfl, s2, ai⟩
      obtain ⟨wd, hwd, hy⟩ := dpA_mem hB hi
      have il := (List.getElem?_eq_some_iff.mp hwd).1
      have hst := ai.st
      obtain ⟨xr, hxr, hdr⟩ := dpA_get hA (rowOf_at hst)
      have okr := ok.row _ (List.mem_of_getElem? (rowOf_at hst))
      generalize htt : stA s0 l = t at hxr hdr okr hst
      obtain ⟨pr, rs, rfl, hpr, hrs⟩ := dp_tup hdr
      have rl := dpA_len hrs
      rw [List.length_map] at rl
      have few := okr.1
      refine ⟨_, rfl, pc, _, _, _, rfl, rfl, same_t s2 hpc, atI_nat (j := 2) rfl, _, rfl, pq, _, _, _, rfl, rfl, same_t s2 hpq, atI_nat hxr, pr, rfl, ⟨_, same_t s2 hpr⟩, fun M hM => lc_tup (K := K) (a := pr) (xs := rs) (fun k H' => Same H2 H' ∧ ∃ us : List V, H' M = some (.lst us) ∧ DpAll K H' us ((((rowOf C t).take k).filter fun x => decide (x.1 = wd)).map dBr)) ⟨same_new hM, [], upd_same, .nil⟩ (fun k H' _ e => same_t (s2.trans e.1) hpr) ?_ ?_⟩
      · rintro k x H3 hk ⟨s3, us, hM3, hus⟩
        obtain ⟨bx, hbx, hx⟩ := dpA_mem (dpA_same (s2.trans s3) _ _ hrs) hk
        have hx' := hx
        obtain ⟨px, x0, x1, rfl, hpx, hd0, hd1⟩ := br_at hx
        have ul := dpA_len hus
        rw [List.length_map] at ul
        have fl := List.length_filter_le (fun x : Br => decide (x.1 = wd)) ((rowOf C t).take k)
        rw [List.length_take] at fl
        refine ⟨rfl, _, rfl, px, _, _, _, rfl, rfl, hpx, atI_nat (j := 0) rfl, _, rfl, dI bx.1, dI wd, hd0, dp_same (s2.trans s3) _ _ hy, dI_sh _, dI_sh _, _, rfl, ?_⟩
        rw [eqv_I]
        have ft : ((rowOf C t).take (k + 1)).filter (fun x => decide (x.1 = wd)) = ((rowOf C t).take k).filter (fun x => decide (x.1 = wd)) ++ [bx].filter (fun x => decide (x.1 = wd)) := by
          rw [take_snoc hbx, List.filter_append]
        cases hdec : decide (bx.1 = wd) with
        | true =>
          refine ⟨_, rfl, us, hM3, line6 (by omega), same_mut s3 hM, us ++ [.ref px], upd_same, ?_⟩
          have kM := keepT_nt (o := .lst (us ++ [.ref px])) (nt_lst _) hM3
          rw [ft, List.filter_cons_of_pos (p := fun x : Br => decide (x.1 = wd)) hdec, List.filter_nil, List.map_append]
          exact dpA_snoc (dpA_keep kM _ _ (noLs_br _) hus) (dp_keep kM _ _ (dBr_noL _) hx')
        | false =>
          refine ⟨s3, us, hM3, ?_⟩
          rw [ft, List.filter_cons_of_neg (p := fun x : Br => decide (x.1 = wd)) (by simp [hdec]), List.filter_nil, List.append_nil]
          exact hus
      · rintro H3 ⟨s3, us, hM3, hus⟩
        rw [rl, List.take_length] at hus
        cases hnx : nxtB (rowOf C t) wd with
        | none =>
          have f0 : (rowOf C t).filter (fun x => decide (x.1 = wd)) = [] := by
            have h := hnx
            unfold nxtB at h
            rw [List.getElem?_eq_none_iff] at h
            exact List.length_eq_zero_iff.mp (by omega)
          rw [f0] at hus
          cases dpA_nil hus
          refine ⟨_, rfl, _, _, rfl, .inl ⟨_, SqL.of hM3, rfl⟩, rfl, _, rfl, ite2 (fun _ => ?_) (fun h => absurd rfl h)⟩
          refine q _ _ (s2.trans s3) ?_
          rw [ai.none hwd (by rw [htt]; exact hnx)]
          rfl
        | some br =>
          obtain ⟨xh, hxh, hx0⟩ := dpA_get hus hnx
          have ul : 0 < us.length := (List.getElem?_eq_some_iff.mp hxh).1
          obtain ⟨px, z0, z1, rfl, hpx, hd0, hd1⟩ := br_at hx0
          have hb6 := (okr.2 br (nxt_mem hnx)).2
          refine ⟨_, rfl, _, _, rfl, .inl ⟨_, SqL.of hM3, rfl⟩, rfl, _, rfl, ite2 (fun h => absurd (of_decide_eq_true h) (fun z => ?_)) (fun _ => ?_)⟩
          · have := V.int.inj z
            omega
          refine ⟨_, rfl, _, rfl, _, rfl, M, _, _, _, rfl, rfl, SqL.of hM3, atI_nat (j := 0) hxh, px, _, _, _, rfl, rfl, hpx, atI_nat (j := 1) rfl, vw, z1, W, br.2.1, rfl, hw.keep (KeepT.of_same (s2.trans s3)), nd, hwl, hd1, by omega, fun H4 s4 => ⟨_, _, rfl, rfl, ?_⟩⟩
          refine ⟨_, rfl, M, _, _, _, rfl, rfl, SqL.of (s4 _ _ hM3), atI_nat (j := 0) hxh, px, _, _, _, rfl, rfl, same_t s4 hpx, atI_nat (j := 2) rfl, ?_⟩
          have ai2 := ai.more ok hwd (by rw [htt]; exact hnx)
          have ew : wsum W (l ++ [br]) = wsum W l + wv W br.2.1 := by
            unfold wsum
            rw [List.map_append, List.sum_append]
            simp
          exact ⟨_, _, l ++ [br], by rw [stA_snoc, ew]; rfl, s2.trans (s3.trans s4), ai2⟩
    · rintro σ H2 ⟨y6, y7, l, rfl, s2, ai⟩
      rw [yl] at ai
      refine ⟨_, rfl, _, rfl, z2, fun p hp => q _ _ (s2.trans (same_new hp)) ?_⟩
      rw [ai.fin]
      exact .tup (SqT.of upd_same) (.cons (.int _) (.cons (.int _) .nil))
end
end Mt
namespace Mt
open PySem PySem.Spec PyProof.Rows L2
theorem atI_m1 {xs : List V} {x : V} (h : xs.getLast? = some x) : atI xs (-1) = some x := by
  cases xs with
  | nil => cases h
  | cons a r =>
    unfold atI ixN
    rw [if_neg (by decide), if_pos (by rw [List.length_cons]; omega)]
    show (a :: r)[(-1 + ((a :: r).length : Int)).toNat]? = some x
    rw [show (-1 + ((a :: r).length : Int)).toNat = (a :: r).length - 1 by rw [List.length_cons]; omega, ← List.getLast?_eq_getElem?]
    exact h
theorem asg_to {te : TE} {g : L2.TG} {R : TS} {D : Ends} {σ : L2.St} {H : Hp} {v : V} (h : ∀ Q' : VK, Q' v H → te σ H Q') (q : g v σ H fun σ' H' => R D σ' H') : tSeq (tAsg te g) R D σ H := h _ q
theorem nx_to {T b c : L2.St → Hp → Prop} {r : VK} {σ : L2.St} {H : Hp} (h : T σ H) : tNext ⟨T, r, b, c⟩ σ H := h
theorem last_at {K : PySem.W.Frag} {H : Hp} {l : List Br} {xs : List V} {b : Br} (h : DpAll K H xs (l.map dBr)) (hb : l.getLast? = some b) : ∃ p x0 x1, xs.getLast? = some (.ref p) ∧ SqT K H p [x0, x1, .int (b.2.2 : Int)] := by
  have hl := dpA_len h
  rw [List.length_map] at hl
  rw [List.getLast?_eq_getElem?] at hb
  obtain ⟨x, hx, hd⟩ := dpA_get h hb
  obtain ⟨p, x0, x1, rfl, hp, _, _⟩ := br_at hd
  refine ⟨p, x0, x1, ?_, hp⟩
  rw [List.getLast?_eq_getElem?, hl]
  exact hx
def ringB (C : Chn) (way ring : List (List Int)) : Option (List Br × List Br) := match alongB C 0 way with
  | none => none
  | some l => if ring = [] then none else match alongB C (stA 0 l) ring with
    | none => none
    | some m => if stA (stA 0 l) m = stA 0 l then some (l, m) else none
def RAOk (K : PySem.W.Frag) (H : Hp) (x : V) : Option (List Br × List Br) → Prop
  | none => x = .non
  | some (l, m) => Dp K H x (.tuple [.list (l.map dBr), .list (m.map dBr)])
theorem along_ok {C : Chn} (ok : ChS C) : ∀ {ws : List (List Int)} {s : Nat} {l : List Br}, s < C.length → alongB C s ws = some l → stA s l < C.length ∧ l.length = ws.length ∧ ∀ b ∈ l, b.2.1.length ≤ 6
  | [], s, l, hs, e => by
    cases e
    exact ⟨hs, rfl, fun _ h => absurd h List.not_mem_nil⟩
  | w :: ws, s, l, hs, e => by
    cases hn : nxtB (rowOf C s) w with
    | none =>
      rw [along_none hn] at e
      cases e
    | some b =>
      rw [along_some hn] at e
      obtain ⟨l', e', rfl⟩ := Option.map_eq_some_iff.mp e
      have hb := (ok.row _ (List.mem_of_getElem? (rowOf_at hs))).2 b (nxt_mem hn)
      obtain ⟨h1, h2, h3⟩ := along_ok ok hb.1 e'
      refine ⟨?_, by rw [List.length_cons, h2]; rfl, fun x hx => ?_⟩
      · cases hl : l'.getLast? with
        | none =>
          rw [List.getLast?_eq_none_iff.mp hl]
          exact hb.1
        | some y =>
          unfold stA at h1 ⊢
          rw [List.getLast?_cons, hl]
          rw [hl] at h1
          exact h1
      · rcases List.mem_cons.mp hx with h | h
        · rw [h]
          exact hb.2
        · exact h3 x h
def spRAlongG (K : PySem.W.Frag) : Sp := fun vs H Q _ => ∃ (vr vw vg : V) (C : Chn) (way ring : List (List Int)), vs = [vr, vw, vg] ∧ Dp K H vr (.tuple (C.map dRw)) ∧ ChS C ∧ 0 < C.length ∧ way.length ≤ 1000 ∧ ring.length ≤ 1000 ∧ Dp K H vw (dWs way) ∧ Dp K H vg (dWs ring) ∧
  ∀ H' x, Same H H' → RAOk K H' x (ringB C way ring) → Q x H'
section
variable {P : Program} {w : World} {K : PySem.W.Frag} {mg : Str → Option Value} {base : Heap}
theorem ok_ring_along (T : Txt K mg) (D_branches_along : Kept P w K mg base 1 "branches_along" ["rows", "state", "blocks"] (spAlongG K)) {f : Addr} {fd : FuncData} (F : FnP K "ring_along" s_ring_along f fd) : FnOk P w K mg base CX0 2 f fd ["rows", "way", "ring"] (spRAlongG K) := by
  refine F.ok sc_ring_along (fun vs H Q E h => ?_) (fun cdv A outer s H vs Q E hr h => ?_)
  · obtain ⟨vr, vw, vg, C, way, ring, rfl, _⟩ := h
    rfl
  · obtain ⟨vr, vw, vg, C, way, ring, rfl, hR, ok, c0, l1, l2, hw, hg, q⟩ := h
    refine ⟨_, PSs.nox (pss_cons (ps_set (i := 3) sc_ring_along.nd rfl (Or.inl rfl) (pe_d D_branches_along (hr.mono (by decide)) (by rfl) (pa_cons (pv 0) (pa_cons pe_int (pa_cons (pv 1) pa_nil)))))
      (pss_cons (ps_if (PW.pt (pw_or (pt_cmpR op_isN (pv 3) pe_non (nomark _)) (pw_or1 (pt_not (pt_truth (pv 2) (by intro _; rfl)))))) (pss_one (ps_ret pe_non)) pss_nil)
      (pss_cons (ps_set (i := 4) sc_ring_along.nd rfl (Or.inl rfl) (pe_ifExp (pt_truth (pv 3) (by intro _; rfl)) (pe_ix ix_tup (pe_ix ix_list (pv 3) (pe_un un_neg pe_int) (fun _ _ => rfl)) pe_int (fun _ _ => rfl)) pe_int))
      (pss_cons (ps_set (i := 5) sc_ring_along.nd rfl (Or.inl rfl) (pe_d D_branches_along (hr.mono (by decide)) (by rfl) (pa_cons (pv 0) (pa_cons (pv 4) (pa_cons (pv 2) pa_nil)))))
      (pss_cons (ps_if (PW.pt (pw_or (pt_cmpR op_isN (pv 5) pe_non (nomark _)) (pw_or1 (pt_cmpR op_ne (pe_ix ix_tup (pe_ix ix_list (pv 5) (pe_un un_neg pe_int) (fun _ _ => rfl)) pe_int (fun _ _ => rfl)) (pv 4) (nomark _))))) (pss_one (ps_ret pe_non)) pss_nil)
      (pss_one (ps_ret (pe_tup (pa_cons (pv 3) (pa_cons (pv 5) pa_nil)))))))))), ?_⟩
    refine ⟨_, rfl, _, rfl, vr, vw, 0, C, way, rfl, hR, ok, c0, l1, hw, fun H1 v s1 hv => ?_⟩
    obtain ⟨pg, gs, rfl, hpg, hgs⟩ := dp_tup hg
    have gl := dpA_len hgs
    rw [List.length_map] at gl
    cases hal : alongB C 0 way with
    | none =>
      rw [hal] at hv
      obtain rfl : v = .non := hv
      refine ⟨_, rfl, rfl, _, rfl, ite2 (fun _ => ite2 (fun _ => ?_) (fun h => absurd rfl h)) (fun h => absurd rfl h)⟩
      refine q _ _ s1 ?_
      unfold ringB
      rw [hal]
      rfl
    | some l =>
      rw [hal] at hv
      have hv : Dp K H1 v (.list (l.map dBr)) := hv
      obtain ⟨st1, ll1, _⟩ := along_ok ok c0 hal
      obtain ⟨L1, zs, rfl, hL1, hzs⟩ := dp_lst hv
      have zl := dpA_len hzs
      rw [List.length_map] at zl
      refine ⟨_, rfl, rfl, _, rfl, ite2 (fun h => (nomatch (show false = true from h))) (fun _ => ⟨_, rfl, !gs.isEmpty, .inr (.inl ⟨gs, same_t s1 hpg, rfl⟩), ?_⟩)⟩
      by_cases hr0 : ring = []
      · subst hr0
        obtain rfl : gs = [] := List.length_eq_zero_iff.mp gl
        refine ite2 (fun _ => ?_) (fun h => absurd rfl h)
        refine q _ _ s1 ?_
        unfold ringB
        rw [hal]
        rfl
      · have gne : gs.isEmpty = false := by
          cases gs with
          | nil => exact absurd (List.length_eq_zero_iff.mp gl.symm) hr0
          | cons _ _ => rfl
        rw [gne]
        refine iteNT ?_
        refine nx_to ?_
        refine asg_to (v := .int ((stA 0 l : Nat) : Int)) (fun Q' hq => ?_) ?_
        · cases hll : l.getLast? with
          | none =>
            have l0 : l = [] := List.getLast?_eq_none_iff.mp hll
            subst l0
            obtain rfl : zs = [] := List.length_eq_zero_iff.mp zl
            exact ⟨_, rfl, false, .inl ⟨_, hL1, rfl⟩, hq⟩
          | some lb0 =>
            obtain ⟨p', y0, y1, hlast', hp'⟩ := last_at hzs hll
            have e0 : lb0.2.2 = stA 0 l := by
              unfold stA
              rw [hll]
            rw [e0] at hp'
            refine ⟨_, rfl, true, .inl ⟨_, hL1, ?_⟩, ?_⟩
            · cases zs with
              | nil => cases hlast'
              | cons _ _ => rfl
            · exact ⟨_, rfl, _, rfl, L1, zs, _, _, rfl, rfl, hL1, atI_m1 hlast', p', _, _, _, rfl, rfl, hp', atI_nat (j := 2) rfl, hq⟩
        · refine ⟨_, rfl, _, rfl, _, rfl, vr, .ref pg, stA 0 l, C, ring, rfl, dp_same s1 _ _ hR, ok, st1, l2, dp_same s1 _ _ hg, fun H2 v2 s2 hv2 => ?_⟩
          cases har : alongB C (stA 0 l) ring with
          | none =>
            rw [har] at hv2
            obtain rfl : v2 = .non := hv2
            refine ⟨_, rfl, rfl, _, rfl, ite2 (fun _ => ite2 (fun _ => ?_) (fun h => absurd rfl h)) (fun h => absurd rfl h)⟩
            refine q _ _ (s1.trans s2) ?_
            unfold ringB
            rw [hal]
            show RAOk K H2 .non (if ring = [] then none else match alongB C (stA 0 l) ring with | none => none | some m => if stA (stA 0 l) m = stA 0 l then some (l, m) else none)
            rw [if_neg hr0, har]
            rfl
          | some m =>
            rw [har] at hv2
            have hv2 : Dp K H2 v2 (.list (m.map dBr)) := hv2
            obtain ⟨st2, ml, _⟩ := along_ok ok st1 har
            obtain ⟨L2', us, rfl, hL2, hus⟩ := dp_lst hv2
            have rp : 0 < ring.length := List.length_pos_iff.mpr hr0
            obtain ⟨lb, hlb⟩ : ∃ lb, m.getLast? = some lb := by
              cases e : m.getLast? with
              | none =>
                rw [List.getLast?_eq_none_iff.mp e] at ml
                have : (0 : Nat) = ring.length := ml
                omega
              | some lb => exact ⟨lb, rfl⟩
            obtain ⟨p, z0, z1', hlast, hp⟩ := last_at hus hlb
            have elb : stA (stA 0 l) m = lb.2.2 := by
              conv => lhs; unfold stA
              rw [hlb]
            have er : ringB C way ring = if stA (stA 0 l) m = stA 0 l then some (l, m) else none := by
              unfold ringB
              rw [hal]
              show (if ring = [] then none else match alongB C (stA 0 l) ring with | none => none | some m => if stA (stA 0 l) m = stA 0 l then some (l, m) else none) = _
              rw [if_neg hr0, har]
            rw [er, elb] at q
            refine ⟨_, rfl, rfl, _, rfl, ite2 (fun h => (nomatch (show false = true from h))) (fun _ => ?_)⟩
            refine ⟨_, rfl, _, rfl, L2', us, _, _, rfl, rfl, hL2, atI_m1 hlast, p, _, _, _, rfl, rfl, hp, atI_nat (j := 2) rfl, _, rfl, rfl, _, rfl, ite2 (fun h => ?_) (fun h => ?_)⟩
            · have ne : lb.2.2 ≠ stA 0 l := fun z => by
                rw [z] at h
                simp at h
              rw [if_neg ne] at q
              exact q _ _ (s1.trans s2) rfl
            · have e : lb.2.2 = stA 0 l := Classical.byContradiction fun z => h (by
                have : V.int ((lb.2.2 : Nat) : Int) ≠ V.int ((stA 0 l : Nat) : Int) := fun z' => z (by have := V.int.inj z'; omega)
                simp [this])
              rw [if_pos e] at q
              refine ⟨_, rfl, _, rfl, z2, fun p9 hp9 => ?_⟩
              have s9 := same_new (o := .tup [.ref L1, .ref L2']) hp9
              exact q _ _ (s1.trans (s2.trans s9)) (.tup (SqT.of upd_same) (.cons (dp_same (s2.trans s9) _ _ hv) (.cons (dp_same s9 _ _ hv2) .nil)))
end
end Mt
namespace Mt
open PySem PySem.Spec PyProof.Rows L2
/-- the inner loop of a comprehension with two for -/
theorem lc2_in {J : It} {n : Nat} {G : Hp → Prop} {Y : Nat → Hp → V → Hp → Prop} (w : Walk J n G Y) {g : TG} {tt : TT} {te : TE} {vs : List Nat} {σ : L2.St} {H1 : Hp} {D : Addr} {Nx : Hp → Prop} (Pv : Nat → Hp → Prop) (h0 : Pv 0 H1) (hG : ∀ i H, i ≤ n → Pv i H → G H)
    (hs : ∀ i x H H', i < n → Pv i H → Y i H x H' → g x (wipe σ vs) H' fun σ2 H2 => wipe σ2 vs = wipe σ vs ∧ tt σ2 H2 fun b H3 =>
      if b = true then te σ2 H3 fun y H4 => ∃ acc, H4 D = some (.lst acc) ∧ acc.length < sizeLine ∧ Pv (i + 1) (upd H4 D (.lst (acc ++ [y]))) else Pv (i + 1) H3) (hd : ∀ H, Pv n H → Nx H) :
    ∃ W : Nat → Nat → Hp → Prop, (∃ m, W 0 m H1) ∧ ∀ i m H, W i m H →
      (J.stop i H ∧ Nx H) ∨ (J.go i H ∧ ∃ Nx : Hp → Prop, (∀ H', Nx H' → ∃ m', m' < m ∧ W (i + 1) m' H') ∧ ∀ x H', J.yld i H x H' → g x (wipe σ vs) H' fun σ2 H2 => wipe σ2 vs = wipe σ vs ∧ tt σ2 H2 fun b H3 =>
        if b = true then te σ2 H3 fun y H4 => ∃ acc, H4 D = some (.lst acc) ∧ acc.length < sizeLine ∧ Nx (upd H4 D (.lst (acc ++ [y]))) else Nx H3) := by
  refine ⟨fun i m H => m = n - i ∧ i ≤ n ∧ Pv i H, ⟨n, by simp, Nat.zero_le _, h0⟩, ?_⟩
  rintro i m H ⟨rfl, hi, p⟩
  have q := hG i H hi p
  by_cases hlt : i < n
  · refine .inr ⟨w.goes i H hlt q, Pv (i + 1), fun H' p' => ⟨n - (i + 1), by omega, rfl, hlt, p'⟩, fun x H' y => hs i x H H' hlt p (w.yields i H x H' hlt q y)⟩
  · have e : i = n := by omega
    subst e
    exact .inl ⟨w.stops H q, hd H p⟩
/-- the outer one -/
theorem lc2_out {J : It} {n : Nat} {G : Hp → Prop} {Y : Nat → Hp → V → Hp → Prop} (w : Walk J n G Y) {g : TG} {tt : TT} {wi1 : TI} {g1 : TG} {tt1 : TT} {te : TE} {vs vs1 : List Nat} {σ : L2.St} {H1 : Hp} {D : Addr} {Qd : Hp → Prop} (Pv : Nat → Hp → Prop) (h0 : Pv 0 (upd H1 D (.lst []))) (hG : ∀ i H, i ≤ n → Pv i H → G H)
    (hs : ∀ i x H H', i < n → Pv i H → Y i H x H' → g x (wipe σ vs) H' fun σ2 H2 => wipe σ2 vs = wipe σ vs ∧ tt σ2 H2 fun b H3 =>
      if b = true then wi1 σ2 H3 fun J1 H4 => ∃ W1 : Nat → Nat → Hp → Prop, (∃ m, W1 0 m H4) ∧ ∀ j k H, W1 j k H →
        (J1.stop j H ∧ Pv (i + 1) H) ∨ (J1.go j H ∧ ∃ Nx1 : Hp → Prop, (∀ H', Nx1 H' → ∃ k', k' < k ∧ W1 (j + 1) k' H') ∧ ∀ x H', J1.yld j H x H' → g1 x (wipe σ2 vs1) H' fun σ3 H5 => wipe σ3 vs1 = wipe σ2 vs1 ∧ tt1 σ3 H5 fun b H6 =>
          if b = true then te σ3 H6 fun y H7 => ∃ acc, H7 D = some (.lst acc) ∧ acc.length < sizeLine ∧ Nx1 (upd H7 D (.lst (acc ++ [y]))) else Nx1 H6)
      else Pv (i + 1) H3) (hd : ∀ H, Pv n H → Qd H) :
    ∃ W : Nat → Nat → Hp → Prop, (∃ m, W 0 m (upd H1 D (.lst []))) ∧ ∀ i m H, W i m H →
      (J.stop i H ∧ Qd H) ∨ (J.go i H ∧ ∃ Nx : Hp → Prop, (∀ H', Nx H' → ∃ m', m' < m ∧ W (i + 1) m' H') ∧ ∀ x H', J.yld i H x H' → g x (wipe σ vs) H' fun σ2 H2 => wipe σ2 vs = wipe σ vs ∧ tt σ2 H2 fun b H3 =>
        if b = true then wi1 σ2 H3 fun J1 H4 => ∃ W1 : Nat → Nat → Hp → Prop, (∃ m, W1 0 m H4) ∧ ∀ j k H, W1 j k H →
          (J1.stop j H ∧ Nx H) ∨ (J1.go j H ∧ ∃ Nx1 : Hp → Prop, (∀ H', Nx1 H' → ∃ k', k' < k ∧ W1 (j + 1) k' H') ∧ ∀ x H', J1.yld j H x H' → g1 x (wipe σ2 vs1) H' fun σ3 H5 => wipe σ3 vs1 = wipe σ2 vs1 ∧ tt1 σ3 H5 fun b H6 =>
            if b = true then te σ3 H6 fun y H7 => ∃ acc, H7 D = some (.lst acc) ∧ acc.length < sizeLine ∧ Nx1 (upd H7 D (.lst (acc ++ [y]))) else Nx1 H6)
        else Nx H3) := by
  refine ⟨fun i m H => m = n - i ∧ i ≤ n ∧ Pv i H, ⟨n, by simp, Nat.zero_le _, h0⟩, ?_⟩
  rintro i m H ⟨rfl, hi, p⟩
  have q := hG i H hi p
  by_cases hlt : i < n
  · refine .inr ⟨w.goes i H hlt q, Pv (i + 1), fun H' p' => ⟨n - (i + 1), by omega, rfl, hlt, p'⟩, fun x H' y => hs i x H H' hlt p (w.yields i H x H' hlt q y)⟩
  · have e : i = n := by omega
    subst e
    exact .inl ⟨w.stops H q, hd H p⟩
theorem uniq_br {r : List Br} {b : Br} (h : (r.map (·.1)).Pairwise NP) (hb : b ∈ r) : r.filter (fun x => decide (x.1 = b.1)) = [b] := by
  induction r with
  | nil => exact absurd hb List.not_mem_nil
  | cons a t ih =>
    obtain ⟨h1, h2⟩ := List.pairwise_cons.mp h
    rcases List.mem_cons.mp hb with rfl | hb
    · rw [List.filter_cons_of_pos (by simp)]
      have : t.filter (fun x => decide (x.1 = b.1)) = [] := List.filter_eq_nil_iff.mpr fun x hx e => by
        have e := of_decide_eq_true e
        have := h1 x.1 (List.mem_map.mpr ⟨x, hx, rfl⟩)
        exact this.1 (by rw [e]; exact List.prefix_refl _)
      rw [this]
    · have : ¬ (decide (a.1 = b.1)) = true := fun e => by
        have e := of_decide_eq_true e
        have := h1 b.1 (List.mem_map.mpr ⟨b, hb, rfl⟩)
        exact this.1 (by show a.1 <+: b.1; rw [e]; exact List.prefix_refl _)
      rw [List.filter_cons_of_neg (p := fun x : Br => decide (x.1 = b.1)) this]
      exact ih h2 hb
end Mt
namespace Mt
open PySem PySem.Spec PyProof.Rows L2
theorem walk_zipT {K : PySem.W.Frag} {a b : Addr} {xs ys : List V} {n : Nat} (hn : n = min xs.length ys.length) : Walk (RZ.ItzT K a b) n (fun H => SqT K H a xs ∧ SqT K H b ys) (YPair (fun i => xs[i]?) (fun i => ys[i]?)) := by
  subst hn
  refine ⟨fun i _ hi q => ?_, fun _ q => ⟨xs, ys, q.1, q.2, by omega⟩, fun i H v H' _ q y => ?_⟩
  · have h1 : i < xs.length := by omega
    have h2 : i < ys.length := by omega
    exact ⟨xs, ys, xs[i], ys[i], q.1, q.2, by simp [h1], by simp [h2]⟩
  · obtain ⟨T, x, z, h1, h2, h3, h4, h5⟩ := y
    exact ⟨T, x, z, h1, h2, h3, h4 xs q.1, h5 ys q.2⟩
noncomputable def gB (p : Prop) : Bool := @decide p (Classical.propDecidable p)
theorem gB_t {p : Prop} (h : p) : gB p = true := @decide_eq_true p (Classical.propDecidable p) h
theorem gB_f {p : Prop} (h : ¬ p) : gB p = false := @decide_eq_false p (Classical.propDecidable p) h
end Mt
namespace Mt
open PySem PySem.Spec PyProof.Rows L2
/-! ### zip of a list and a tuple -/
def ItzM (K : PySem.W.Frag) (a b : Addr) : It where
  go i H := ∃ us ws : List V, (SqL K H a us ∧ SqT K H b ws) ∧ ∃ p q, us[i]? = some p ∧ ws[i]? = some q
  yld i H v H' := ∃ (N : Addr) (p q : V), H N = none ∧ v = .ref N ∧ H' = upd H N (.tup [p, q]) ∧ (∀ us, SqL K H a us → us[i]? = some p) ∧ ∀ ws, SqT K H b ws → ws[i]? = some q
  stop i H := ∃ us ws : List V, (SqL K H a us ∧ SqT K H b ws) ∧ i ≤ us.length ∧ i ≤ ws.length ∧ (i = us.length ∨ i = ws.length)
def stM (z TI TO i1 i2 a b : Addr) (i : Nat) (h : Heap) : Prop := IsZip h z TI TO .none ∧ IsTupOf2 h TI (.ref i1) (.ref i2) ∧ (∃ x y, IsTupOf2 h TO x y) ∧ h.IsListIter i1 a i ∧ h.IsTupleIter i2 b i
theorem five {α : Type} {q : α → Prop} {c1 c2 c3 c4 c5 : α} (h1 : q c1) (h2 : q c2) (h3 : q c3) (h4 : q c4) (h5 : q c5) : ∀ c ∈ [c1, c2, c3, c4, c5], q c := fun c h => by
  simp only [List.mem_cons, List.not_mem_nil, or_false] at h
  rcases h with rfl | rfl | rfl | rfl | rfl <;> assumption
theorem turn_zipM {P : Program} {w : World} {K : PySem.W.Frag} {elts : List Expr} {kk : Nat} {tpos : Pos} {a b z TI TO i1 i2 : Addr} (S : ZipSep2 z TI TO i1 i2 [i1, a] [i2, b]) :
    Turn P w K (.Tuple elts kk tpos) (ItzM K a b) [z, TI, TO, i1, i2] z (stM z TI TO i1 i2 a b) where
  mem := List.mem_cons_self
  obj i h st := by
    obtain ⟨r1, r2, ⟨_, _, r3⟩, ⟨_, r4, _, d4⟩, _, r5, _, d5⟩ := st
    exact five (q := fun c => ∃ o, h.get? c = some o ∧ ∀ v, o.data ≠ .cell v) ⟨_, r1, fun v => Data.noConfusion⟩ ⟨_, r2, fun v => Data.noConfusion⟩ ⟨_, r3, fun v => Data.noConfusion⟩
      ⟨_, r4, fun v e => by rw [d4] at e; cases e⟩ ⟨_, r5, fun v e => by rw [d5] at e; cases e⟩
  keep i h h' st k := by
    obtain ⟨r1, r2, ⟨_, _, r3⟩, r4, r5⟩ := st
    exact ⟨k _ (by simp) _ r1, k _ (by simp) _ r2, ⟨_, _, k _ (by simp) _ r3⟩, r4.at fun _ => k _ (by simp) _, r5.at fun _ => k _ (by simp) _⟩
  self _ _ _ _ _ st q := wpAny_pyIter_zip st.1 q
  item X hP hw hK hc i pins s σ H E I hf st hg := by
    subst hP hw hK
    obtain ⟨us, ws, ⟨lu, tw⟩, p, q, hp, hq⟩ := hg
    obtain ⟨r1, r2, ⟨_, _, r3⟩, r4, r5⟩ := st
    obtain ⟨ua, rvu, isl, _⟩ := I.list lu
    obtain ⟨wa, rvw, ist, _⟩ := I.tuple tw
    obtain ⟨pu, gu, ru⟩ := rvu.get hp
    obtain ⟨pw, gw, rw'⟩ := rvw.get hq
    have na : a ≠ i1 := fun e => by
      obtain ⟨_, e1, c1, _⟩ := r4
      obtain ⟨_, e2, c2, _⟩ := isl.isList
      rw [e, e1] at e2
      cases e2
      rw [c1] at c2
      simp at c2
    have nb : b ≠ i2 := fun e => by
      obtain ⟨_, e1, c1, _⟩ := r5
      obtain ⟨_, e2, c2, _⟩ := id ist
      rw [e, e1] at e2
      cases e2
      rw [c1] at c2
      simp at c2
    have bu : i < ua.toArray.size := (List.getElem?_eq_some_iff.mp gu).1
    have bw : i < wa.toArray.size := (List.getElem?_eq_some_iff.mp gw).1
    have calm : X.A.in1.handled = none := I.ok.hd hc
    refine wpAny_pyNext_zipD2_item S (Draws.list calm i1 a na ua.toArray) (Draws.tuple calm i2 b nb wa.toArray) r1 r2 r3 ⟨r4, isl.isList⟩ ⟨r5, ist⟩ bu bw fun x1 x2 g tk e1 e2 n1 n2 n3 n4 n5 _ ke => ?_
    have zl : z < s.heap.objs.size := Heap.lt_size r1
    refine ⟨_, rfl, wpAny_letOwnedTupleGo_zip (s := { s with heap := g, toks := tk }) n1 fun g' n1' sb => ?_⟩
    have stay : ∀ c o, c ∉ [z, TI, TO, i1, i2] → s.heap.get? c = some o → g'.get? c = some o := fun c o hn e => by
      simp only [List.mem_cons, List.not_mem_nil, or_false, not_or] at hn
      exact (sb.2 c hn.1).trans (ke c o hn.1 hn.2.2.1 hn.2.2.2.1 hn.2.2.2.2 e)
    rw [show ua.toArray[i]? = some pu by simpa using gu] at e1
    rw [show wa.toArray[i]? = some pw by simpa using gw] at e2
    cases e1
    cases e2
    have made : IsTupOf2 g' s.heap.objs.size pu pw := (sb.2 _ (Nat.ne_of_gt zl)).trans n5
    have I' := I.turnedNew (t' := tk) stay hf (Nat.le_refl _) (ob := .tup [p, q]) ⟨(by decide : 2 ≤ sizeLine), [pu, pw], .cons ru (.cons rw' .nil), _, made, rfl, _, rfl⟩
    have below : ∀ c ∈ [z, TI, TO, i1, i2], c < s.heap.objs.size := by
      obtain ⟨_, l4, _⟩ := r4
      obtain ⟨_, l5, _⟩ := r5
      exact five (q := (· < s.heap.objs.size)) zl (Heap.lt_size r2) (Heap.lt_size r3) (Heap.lt_size l4) (Heap.lt_size l5)
    refine ⟨.ref s.heap.objs.size, _, I', rfl, ⟨_, p, q, I.hok.fresh (Nat.le_refl _), rfl, rfl, fun us' h => I.list_inj lu h ▸ hp, fun ws' h => I.tuple_inj tw h ▸ hq⟩, ⟨n1', ?_, ⟨_, _, (sb.2 _ S.TOz).trans n2⟩, ?_, ?_⟩, fun c hcm => ?_⟩
    · exact (sb.2 _ S.TIz).trans (ke _ _ S.TIz S.TITO S.TIi1 S.TIi2 r2)
    · exact n3.1.at fun o e => (sb.2 _ (Ne.symm S.zi1)).trans e
    · exact n4.1.at fun o e => (sb.2 _ (Ne.symm S.zi2)).trans e
    · rw [upd_ne (Nat.ne_of_lt (below c hcm))]
      exact (hf c hcm).1
  done X hP hw hK hc i pins s σ H E I hf st hg := by
    subst hP hw hK
    obtain ⟨us, ws, ⟨lu, tw⟩, m1, m2, m3⟩ := hg
    obtain ⟨r1, r2, ⟨_, _, r3⟩, r4, r5⟩ := st
    obtain ⟨ua, rvu, isl, _⟩ := I.list lu
    obtain ⟨wa, rvw, ist, _⟩ := I.tuple tw
    have calm : X.A.in1.handled = none := I.ok.hd hc
    have na : a ≠ i1 := fun e => by
      obtain ⟨_, e1, c1, _⟩ := r4
      obtain ⟨_, e2, c2, _⟩ := isl.isList
      rw [e, e1] at e2
      cases e2
      rw [c1] at c2
      simp at c2
    have nb : b ≠ i2 := fun e => by
      obtain ⟨_, e1, c1, _⟩ := r5
      obtain ⟨_, e2, c2, _⟩ := id ist
      rw [e, e1] at e2
      cases e2
      rw [c1] at c2
      simp at c2
    have z1 : ua.toArray.size = us.length := by simpa using rvu.length.symm
    have z2 : wa.toArray.size = ws.length := by simpa using rvw.length.symm
    have fin : i = ua.toArray.size ∨ i = wa.toArray.size := by rw [z1, z2]; exact m3
    refine wpAny_pyNext_zipD2_end S (Draws.list calm i1 a na ua.toArray) (Draws.tuple calm i2 b nb wa.toArray) r1 r2 r3 ⟨r4, isl.isList⟩ ⟨r5, ist⟩ (by rw [z1]; exact m1) (by rw [z2]; exact m2) fin fun g tk ke => ⟨rfl, ?_⟩
    refine I.turnedL (t' := tk) (fun c o hn e => ?_) hf
    simp only [List.mem_cons, List.not_mem_nil, or_false, not_or] at hn
    exact ke c o hn.1 hn.2.2.1 hn.2.2.2.1 hn.2.2.2.2 e
theorem sepM {N a b : Nat} (ha : a < N) (hb : b < N) : ZipSep2 (N + 4) (N + 2) (N + 3) N (N + 1) [N, a] [N + 1, b] := by
  have e : ∀ {x y : Nat}, x ≠ y → ∀ {z : Nat}, x ≠ z → ¬ x ∈ ([y, z] : List Nat) := fun h _ k m => by
    rcases List.mem_cons.mp m with r | r
    · exact h r
    · exact k (List.mem_singleton.mp r)
  constructor <;> first
    | exact List.mem_cons_self
    | (refine e ?_ ?_ <;> show ¬ ((_ : Nat) = _) <;> omega)
    | (show ¬ ((_ : Nat) = _); omega)
/-- iter(zip(a list, a tuple)) -/
def iZipM (K : PySem.W.Frag) (ta : TA) : TI := fun σ H R => ta σ H fun vs H1 => ∃ (a b : Addr) (us ws : List V), vs = [.ref a, .ref b] ∧ (SqL K H1 a us ∧ SqT K H1 b ws) ∧ R (ItzM K a b) H1
theorem pi_zipM {X : Cx} {x y : Expr} {ta : TA} {p pos tpos : Pos} {elts : List Expr} {kk : Nat} (hg : Gl X "zip") (hm : X.mg "zip" = none) (ha : L2.PA X [x, y] ta)
    (h1 : starEach [x, y] X.env = (false, eval x X.env) :: starEach [y] X.env := by rfl) (h2 : (backTo pos (starEach [y] X.env)).any (·.1) = false := by rfl) :
    PI X (.Tuple elts kk tpos) (.Call (.Name "zip" p) [x, y] [] pos) (iZipM X.K ta) where
  run pins s σ H R I h := by
    refine Call_ (ld_blt I hg hm PyProof.Rows.boot_zip (PyProof.Rows.callWith_type1 (thn (ha.run pos pins s σ H _ I h) ?_) h1 h2))
    rintro us s1 ⟨vs, H1, I1, rel, a, b, xs, ys, rfl, ⟨lu, tw⟩, go⟩
    obtain ⟨ua, _, isl, _⟩ := I1.list lu
    obtain ⟨wa, _, ist, _⟩ := I1.tuple tw
    obtain _ | ⟨ra, _ | ⟨rb, _ | _⟩⟩ := rel
    cases ra
    cases rb
    have lb : b < s1.heap.objs.size := let ⟨_, e, _⟩ := ist; Heap.lt_size e
    refine zip_begins2 (begins_list a ua.toArray) (begins_tuple b wa.toArray) isl.isList ist fun g g1 g2 g3 g4 g5 g6 ke => wpAny_pyIter_zip g1 ?_
    refine ⟨s1.heap.objs.size + 4, [s1.heap.objs.size + 4, s1.heap.objs.size + 2, s1.heap.objs.size + 3, s1.heap.objs.size, s1.heap.objs.size + 1], _, _, H1, rfl, I1.kept (t' := s1.toks) ke, turn_zipM (sepM isl.lt lb), ⟨g1, g2, ⟨_, _, g3⟩, ⟨_, g4, rfl, rfl⟩, ⟨_, g5, rfl, rfl⟩⟩, ?_, go⟩
    · have new : ∀ k : Nat, FpOk X pins H1 (s1.heap.objs.size + k) := fun k => I1.fpOk (Nat.le_add_right _ _) (I1.hok.fresh (Nat.le_add_right _ _))
      exact five (new 4) (new 2) (new 3) (new 0) (new 1)
theorem walk_zipM {K : PySem.W.Frag} {a b : Addr} {us ws : List V} {n : Nat} (h1 : us.length = n) (h2 : ws.length = n) : Walk (ItzM K a b) n (fun H => SqL K H a us ∧ SqT K H b ws) (YPair (fun i => us[i]?) (fun i => ws[i]?)) := by
  refine ⟨fun i H hi q => ?_, fun H q => ⟨us, ws, q, by omega, by omega, .inl h1.symm⟩, fun i H v H' _ q y => ?_⟩
  · exact ⟨us, ws, q, us[i], ws[i], List.getElem?_eq_getElem (by omega), List.getElem?_eq_getElem (by omega)⟩
  · obtain ⟨N, p, r, h1, h2, h3, h4, h5⟩ := y
    exact ⟨N, p, r, h2, h1, h3, h4 us q.1, h5 ws q.2⟩
end Mt
namespace Mt
open PySem PySem.Spec PyProof.Rows L2
def lessB (a b : F2) : Bool := decide (a.1 * b.2 < b.1 * a.2)
def dO : Option F2 → PyData
  | none => .none
  | some f => dF f
def dPots (pots : List (Option F2)) : PyData := .tuple (pots.map dO)
def gp (pots : List (Option F2)) (i : Nat) : Option F2 := match pots[i]? with
  | some (some f) => some f
  | _ => none
def PotOk (pots : List (Option F2)) : Prop := ∀ f, some f ∈ pots → Low f ∧ Sz 1000 f
theorem gp_mem {pots : List (Option F2)} {i : Nat} {f : F2} (h : gp pots i = some f) : some f ∈ pots := by
  unfold gp at h
  split at h
  · rename_i g e
    cases h
    exact List.mem_of_getElem? e
  · cases h
theorem gp_some {pots : List (Option F2)} {i : Nat} {f : F2} : gp pots i = some f ↔ pots[i]? = some (some f) := by
  unfold gp
  rcases pots[i]? with _ | _ | g <;> simp
def PotAt (K : PySem.W.Frag) (H : Hp) (x : V) : Option F2 → Prop
  | none => x = .non
  | some f => ∃ p, x = .ref p ∧ SqT K H p (tupV f)
theorem f2_at {K : PySem.W.Frag} {H : Hp} {v : V} {f : F2} (h : Dp K H v (dF f)) : ∃ p, v = .ref p ∧ SqT K H p (tupV f) := by
  obtain ⟨p, xs, rfl, hp, hx⟩ := dp_tup h
  obtain ⟨x, r, rfl, h1, hr⟩ := dpA_cons hx
  obtain ⟨y, r, rfl, h2, hr⟩ := dpA_cons hr
  rw [dp_int h1, dp_int h2, dpA_nil hr] at hp
  exact ⟨p, rfl, hp⟩
theorem pot_at {K : PySem.W.Frag} {H : Hp} {pots : List (Option F2)} {xs : List V} {i : Nat} (h : DpAll K H xs (pots.map dO)) (hi : i < pots.length) : ∃ x, xs[i]? = some x ∧ PotAt K H x (gp pots i) := by
  obtain ⟨x, hx, hd⟩ := dpA_get h (List.getElem?_eq_getElem hi)
  refine ⟨x, hx, ?_⟩
  have e : gp pots i = pots[i] := by
    unfold gp
    rw [List.getElem?_eq_getElem hi]
    cases pots[i] <;> rfl
  rw [e]
  cases hq : pots[i] with
  | none =>
    rw [hq] at hd
    exact dp_non hd
  | some f =>
    rw [hq] at hd
    exact f2_at hd
theorem PotAt.same {K : PySem.W.Frag} {H H' : Hp} {x : V} {o : Option F2} (s : Same H H') (h : PotAt K H x o) : PotAt K H' x o := by
  cases o with
  | none => exact h
  | some f => exact let ⟨p, e, q⟩ := h; ⟨p, e, same_t s q⟩
def okE (most : F2) (pots : List (Option F2)) (e : Int × Nat) : Bool := match gp pots e.2 with
  | none => false
  | some ah => !lessB most (frp (add2 (e.1, 1) ah))
def boundE (pace : F2) (pots : List (Option F2)) (f : F2) (r : List (Int × Nat)) : Bool := r.all (okE (frp (add2 pace f)) pots)
def boundB (W : List (Str × Int)) (pace : F2) (pots : List (Option F2)) (f : F2) (r : List Br) : Bool := boundE pace pots f (wRow W r)
def spLess (K : PySem.W.Frag) : Sp := fun vs H Q _ => ∃ (p q : Addr) (a b : F2), vs = [.ref p, .ref q] ∧ SqT K H p (tupV a) ∧ SqT K H q (tupV b) ∧ Sz 4400 a ∧ Sz 4400 b ∧ Q (.bl (lessB a b)) H
structure RowE (pots : List (Option F2)) (r : List (Int × Nat)) : Prop where
  few : r.length ≤ 20
  to : ∀ e ∈ r, e.2 < pots.length ∧ e.1.natAbs < 2 ^ 20
def spBound (K : PySem.W.Frag) : Sp := fun vs H Q _ => ∃ (vr vp : V) (ps pf : Addr) (pace f : F2) (pots : List (Option F2)) (r : List (Int × Nat)), vs = [vr, .ref ps, vp, .ref pf] ∧ Dp K H vr (dWRow r) ∧ SqT K H ps (tupV pace) ∧ Low pace ∧ Sz 1000 pace ∧ Dp K H vp (dPots pots) ∧ PotOk pots ∧ SqT K H pf (tupV f) ∧ Low f ∧ Sz 1000 f ∧ RowE pots r ∧
  ∀ H', Same H H' → Q (.bl (boundE pace pots f r)) H'
theorem all_snoc {α : Type} {l : List α} {i : Nat} {x : α} {q : α → Bool} (h : l[i]? = some x) (a : (l.take i).all q = true) (b : q x = true) : (l.take (i + 1)).all q = true := by
  rw [take_snoc h, List.all_append, a]
  simp [b]
theorem all_not {α : Type} {l : List α} {i : Nat} {x : α} {q : α → Bool} (h : l[i]? = some x) (b : q x = false) : l.all q = false := by
  rw [List.all_eq_false]
  exact ⟨x, List.mem_of_getElem? h, by rw [b]; decide⟩
theorem sq_new {K : PySem.W.Frag} {H : Hp} {p : Addr} {f : F2} : SqT K (upd H p (tupF f)) p (tupV f) := SqT.of upd_same
theorem w1 (w : Int) (h : w.natAbs < 2 ^ 20) : Low (w, 1) ∧ Sz 20 (w, 1) := ⟨⟨Int.le_refl 1, Nat.gcd_one_right _⟩, h, (by decide : (1 : Nat) < 2 ^ 20)⟩
theorem e_at {K : PySem.W.Frag} {H : Hp} {v : V} {e : Int × Nat} (h : Dp K H v (dE e)) : ∃ p, v = .ref p ∧ SqT K H p [.int e.1, .int (e.2 : Int)] := by
  obtain ⟨p, xs, rfl, hp, hx⟩ := dp_tup h
  obtain ⟨x, r, rfl, h1, hr⟩ := dpA_cons hx
  obtain ⟨y, r, rfl, h2, hr⟩ := dpA_cons hr
  rw [dp_int h1, dp_int h2, dpA_nil hr] at hp
  exact ⟨p, rfl, hp⟩
section
variable {P : Program} {w : World} {K : PySem.W.Frag} {mg : Str → Option Value} {base : Heap}
theorem ok_is_less (T : Txt K mg) {f : Addr} {fd : FuncData} (F : FnP K "is_less" s_is_less f fd) : FnOk P w K mg base CX0 1 f fd ["a", "b"] (spLess K) := by
  refine F.ok sc_is_less (fun vs H Q E h => ?_) (fun cdv A outer s H vs Q E hr h => ?_)
  · obtain ⟨p, p2, a, b, rfl, _⟩ := h
    rfl
  · obtain ⟨p, p2, a, b, rfl, hp, hp2, za, zb, q⟩ := h
    refine ⟨_, PSs.nox (pss_one (ps_ret (pe_cmpR op_lt (pe_op op_mulW (pe_ix ix_tup (pv 0) pe_int (fun _ _ => rfl)) (pe_ix ix_tup (pv 1) pe_int (fun _ _ => rfl))) (pe_op op_mulW (pe_ix ix_tup (pv 1) pe_int (fun _ _ => rfl)) (pe_ix ix_tup (pv 0) pe_int (fun _ _ => rfl))) (nomark _)))), ?_⟩
    exact ⟨_, rfl, p, _, _, _, rfl, rfl, hp, atI_nat (j := 0) rfl, _, rfl, p2, _, _, _, rfl, rfl, hp2, atI_nat (j := 1) rfl, _, _, rfl, rfl, wide_mul za.1 zb.2 (by decide) (by decide) (by decide), _, rfl, p2, _, _, _, rfl, rfl, hp2, atI_nat (j := 0) rfl, _, rfl, p, _, _, _, rfl, rfl, hp, atI_nat (j := 1) rfl, _, _, rfl, rfl, wide_mul zb.1 za.2 (by decide) (by decide) (by decide), _, _, rfl, rfl, q⟩
theorem ok__law_less (T : Txt K mg) {f : Addr} {fd : FuncData} (F : FnP K "_law_less" s__law_less f fd) : FnOk P w K mg base CX0 1 f fd ["a", "b"] (spLess K) := by
  refine F.ok sc__law_less (fun vs H Q E h => ?_) (fun cdv A outer s H vs Q E hr h => ?_)
  · obtain ⟨p, p2, a, b, rfl, _⟩ := h
    rfl
  · obtain ⟨p, p2, a, b, rfl, hp, hp2, za, zb, q⟩ := h
    refine ⟨_, PSs.nox (pss_one (ps_ret (pe_cmpR op_lt (pe_op op_mulW (pe_ix ix_tup (pv 0) pe_int (fun _ _ => rfl)) (pe_ix ix_tup (pv 1) pe_int (fun _ _ => rfl))) (pe_op op_mulW (pe_ix ix_tup (pv 1) pe_int (fun _ _ => rfl)) (pe_ix ix_tup (pv 0) pe_int (fun _ _ => rfl))) (nomark _)))), ?_⟩
    exact ⟨_, rfl, p, _, _, _, rfl, rfl, hp, atI_nat (j := 0) rfl, _, rfl, p2, _, _, _, rfl, rfl, hp2, atI_nat (j := 1) rfl, _, _, rfl, rfl, wide_mul za.1 zb.2 (by decide) (by decide) (by decide), _, rfl, p2, _, _, _, rfl, rfl, hp2, atI_nat (j := 0) rfl, _, rfl, p, _, _, _, rfl, rfl, hp, atI_nat (j := 1) rfl, _, _, rfl, rfl, wide_mul zb.1 za.2 (by decide) (by decide) (by decide), _, _, rfl, rfl, q⟩
set_option maxHeartbeats 1000000 in
theorem ok_is_bound (T : Txt K mg) (D_sum_of : Kept P w K mg base 2 "sum_of" ["a", "b"] (spBin K add2)) (D_is_less : Kept P w K mg base 1 "is_less" ["a", "b"] (spLess K)) {f : Addr} {fd : FuncData} (F : FnP K "is_bound" s_is_bound f fd) : FnOk P w K mg base CX0 3 f fd ["row", "speed", "potentials", "potential"] (spBound K) := by
  refine F.ok sc_is_bound (fun vs H Q E h => ?_) (fun cdv A outer s H vs Q E hr h => ?_)
  · obtain ⟨vr, vp, ps, pf, pace, f, pots, r, rfl, _⟩ := h
    rfl
  · obtain ⟨vr, vp, ps, pf, pace, f, pots, r, rfl, hR, hps, lp, zp, hP, okP, hpf, lf, zf, okr, q⟩ := h
    refine ⟨_, PSs.nox (pss_cons (ps_set (i := 4) sc_is_bound.nd rfl (Or.inl rfl) (pe_d D_sum_of (hr.mono (by decide)) (by rfl) (pa_cons (pv 1) (pa_cons (pv 3) pa_nil))))
      (pss_cons (ps_for PassesOwn.never rfl (pi_list (pv 0)) (pg_tup rfl (pgs_cons (pg_name (i := 5) sc_is_bound.nd rfl (Or.inl rfl)) (pgs_cons (pg_name (i := 6) sc_is_bound.nd rfl (Or.inl rfl)) pgs_nil))) (pss_cons (ps_set (i := 7) sc_is_bound.nd rfl (Or.inl rfl) (pe_ix ix_tup (pv 2) (pv 6) (fun _ _ => rfl)))
      (pss_one (ps_if (PW.pt (pw_or (pt_cmpR op_isN (pv 7) pe_non (nomark _)) (pw_or1 (pt_val (pe_d D_is_less (hr.mono (by decide)) (by rfl) (pa_cons (pv 4) (pa_cons (pe_d D_sum_of (hr.mono (by decide)) (by rfl) (pa_cons (pe_tup (pa_cons (pv 5) (pa_cons pe_int pa_nil))) (pa_cons (pv 7) pa_nil))) pa_nil))))))) (pss_one (ps_ret pe_bl)) pss_nil))))
      (pss_one (ps_ret pe_bl)))), ?_⟩
    obtain ⟨pR, rs, rfl, hpR, hrs⟩ := dp_lst hR
    obtain ⟨pp, xs, rfl, hpp, hxs⟩ := dp_tup hP
    have rl := dpA_len hrs
    rw [List.length_map] at rl
    have few := okr.few
    refine ⟨_, rfl, _, rfl, ps, pf, pace, f, rfl, hps, hpf, sz_up zp (by decide), sz_up zf (by decide), add2_ne lp lf, fun m hm => ?_⟩
    have s1 := same_new (o := tupF (frp (add2 pace f))) hm
    have hm1 := sq_new (K := K) (H := H) (p := m) (f := frp (add2 pace f))
    have lm : Low (frp (add2 pace f)) := low_frp (add2_ne lp lf)
    have zm : Sz 2001 (frp (add2 pace f)) := fr_sz (add2_sz zp zf)
    have be : boundE pace pots f r = r.all (okE (frp (add2 pace f)) pots) := rfl
    rw [be] at q
    generalize frp (add2 pace f) = most at s1 hm1 lm zm q
    generalize upd H m (tupF most) = H1 at s1 hm1
    refine ⟨_, rfl, pR, rfl, ⟨_, same_l s1 hpR⟩, for_list (K := K) (a := pR) (xs := rs) (fun j σ H' => ∃ (y5 y6 y7 : Option V), σ = [some (.ref pR), some (.ref ps), some (.ref pp), some (.ref pf), some (.ref m), y5, y6, y7] ∧ Same H1 H' ∧ (r.take j).all (okE most pots) = true) ⟨_, _, _, rfl, Same.refl _, rfl⟩ (fun j σ H' _ ⟨_, _, _, _, s, _⟩ => same_l (s1.trans s) hpR) ?_ ?_⟩
    · rintro j y σ H2 hj ⟨y5, y6, y7, rfl, s2, ih⟩
      obtain ⟨e, he, hy⟩ := dpA_mem (dpA_same (s1.trans s2) _ _ hrs) hj
      obtain ⟨te, rfl, hte⟩ := e_at hy
      have ee := List.mem_of_getElem? he
      obtain ⟨x, hx, px⟩ := pot_at (dpA_same (s1.trans s2) _ _ hxs) (okr.to e ee).1
      refine ⟨_, _, rfl, hte, rfl, _, _, rfl, _, _, rfl, rfl, ?_⟩
      refine ⟨_, rfl, _, rfl, pp, _, _, _, rfl, rfl, same_t (s1.trans s2) hpp, atI_nat hx, ?_⟩
      have no : okE most pots e = false → ∀ H', Same H2 H' → Q (.bl false) H' := fun h H' s => by
        have := q _ ((s1.trans s2).trans s)
        rw [all_not he h] at this
        exact this
      cases hg : gp pots e.2 with
      | none =>
        rw [hg] at px
        obtain rfl : x = .non := px
        refine ⟨_, rfl, rfl, _, rfl, ite2 (fun _ => ite2 (fun _ => ?_) (fun h => absurd rfl h)) (fun h => absurd rfl h)⟩
        refine no ?_ _ (Same.refl _)
        unfold okE
        rw [hg]
      | some ah =>
        rw [hg] at px
        obtain ⟨pa, rfl, hpa⟩ := px
        obtain ⟨la, za⟩ := okP ah (gp_mem hg)
        obtain ⟨lw, zw⟩ := w1 e.1 (okr.to e ee).2
        refine ⟨_, rfl, rfl, _, rfl, ite2 (fun h => (nomatch (show false = true from h))) (fun _ => ?_)⟩
        refine ⟨_, rfl, _, rfl, z2, fun N hN => ?_⟩
        have s3 := same_new (o := .tup [.int e.1, .int 1]) hN
        refine ⟨_, rfl, N, pa, (e.1, 1), ah, rfl, SqT.of upd_same, same_t s3 hpa, sz_up zw (by decide), sz_up za (by decide), add2_ne lw la, fun M hM => ?_⟩
        have s4 := same_new (o := tupF (frp (add2 (e.1, 1) ah))) hM
        refine ⟨m, M, most, _, rfl, same_t (s2.trans (s3.trans s4)) hm1, sq_new, sz_up zm (by decide), sz_up (fr_sz (add2_sz zw za)) (by decide), ?_⟩
        cases hl : lessB most (frp (add2 (e.1, 1) ah)) with
        | true =>
          refine ⟨_, rfl, ite2 (fun _ => ?_) (fun h => absurd rfl h)⟩
          refine no ?_ _ (s3.trans s4)
          unfold okE
          rw [hg]
          show (!lessB most (frp (add2 (e.1, 1) ah))) = false
          rw [hl]
          rfl
        | false =>
          refine ⟨_, rfl, ite2 (fun h => (nomatch (show false = true from h))) (fun _ => ?_)⟩
          refine ⟨_, _, _, rfl, s2.trans (s3.trans s4), all_snoc he ih ?_⟩
          unfold okE
          rw [hg]
          show (!lessB most (frp (add2 (e.1, 1) ah))) = true
          rw [hl]
          rfl
    · rintro σ H2 ⟨y5, y6, y7, rfl, s2, ih⟩
      rw [rl, List.take_length] at ih
      rw [ih] at q
      exact q _ (s1.trans s2)
end
end Mt
namespace Mt
open PySem PySem.Spec PyProof.Rows L2
structure TakeP (C : Chn) (W : List (Str × Int)) (pace : F2) (pots : List (Option F2)) (way ring : List (List Int)) : Prop where
  len : pots.length = C.length
  zero : ∃ f, gp pots 0 = some f
  row : ∀ (s : Nat) (r : List Br) (f : F2), C[s]? = some r → gp pots s = some f → boundB W pace pots f r = true
  ring : ∃ l m, ringB C way ring = some (l, m) ∧ frp (mul2 pace ((ring.length : Int), 1)) = (wsum W m, 1)
/-- a paper with words of no more than so many -/
structure PapOk (pace : F2) (pots : List (Option F2)) (way ring : List (List Int)) : Prop where
  low : Low pace
  sz : Sz 1000 pace
  pot : PotOk pots
  l0 : pots.length ≤ 100
  l1 : way.length ≤ 1000
  l2 : ring.length ≤ 1000
def dPap (pace : F2) (pots : List (Option F2)) (way ring : List (List Int)) : PyData := .tuple [dF pace, dPots pots, dWs way, dWs ring]
theorem dF_dI (a : F2) : dF a = dI [a.1, a.2] := rfl
theorem eqv_F (a b : F2) : PyData.eqv (dF a) (dF b) = decide (a = b) := by
  rw [dF_dI, dF_dI, eqv_I]
  refine decide_eq_decide.mpr ?_
  constructor
  · intro h
    simp only [List.cons.injEq, and_true] at h
    exact Prod.ext h.1 h.2
  · intro h
    rw [h]
theorem look_le {W : List (Str × Int)} (h : ∀ e ∈ W, e.2.natAbs ≤ 99) (z : Str) : (look W z).natAbs ≤ 99 := by
  unfold look
  cases e : W.find? fun e => decide (e.1 = z) with
  | none => exact Nat.zero_le _
  | some x => exact h x (List.mem_of_find?_eq_some e)
theorem wv_le {W : List (Str × Int)} (h : ∀ e ∈ W, e.2.natAbs ≤ 99) : ∀ ss : List Str, (wv W ss).natAbs ≤ 99 * ss.length
  | [] => Nat.le_refl _
  | a :: r => by
    have h1 : wv W (a :: r) = look W a + wv W r := rfl
    rw [h1, List.length_cons]
    have h2 := look_le h a
    have h3 := wv_le h r
    have h4 := Int.natAbs_add_le (look W a) (wv W r)
    omega
theorem wsum_le {W : List (Str × Int)} (h : ∀ e ∈ W, e.2.natAbs ≤ 99) : ∀ l : List Br, (∀ b ∈ l, b.2.1.length ≤ 6) → (wsum W l).natAbs ≤ 594 * l.length
  | [], _ => Nat.le_refl _
  | a :: r, hl => by
    have h1 : wsum W (a :: r) = wv W a.2.1 + wsum W r := rfl
    rw [h1, List.length_cons]
    have h2 := wv_le h a.2.1
    have h3 := wsum_le h r fun b hb => hl b (List.mem_cons_of_mem _ hb)
    have h4 := Int.natAbs_add_le (wv W a.2.1) (wsum W r)
    have h5 := hl a List.mem_cons_self
    omega
theorem rowE {C : Chn} {W : List (Str × Int)} {pots : List (Option F2)} (ok : ChS C) (hW : ∀ e ∈ W, e.2.natAbs ≤ 99) (hl : pots.length = C.length) {r : List Br} (hr : r ∈ C) : RowE pots (wRow W r) := by
  obtain ⟨h1, h2⟩ := ok.row r hr
  refine ⟨by unfold wRow; rw [List.length_map]; exact h1, fun e he => ?_⟩
  obtain ⟨b, hb, rfl⟩ := List.mem_map.mp he
  obtain ⟨h3, h4⟩ := h2 b hb
  refine ⟨by rw [hl]; exact h3, ?_⟩
  have := wv_le hW b.2.1
  show (wv W b.2.1).natAbs < 2 ^ 20
  omega
def spJRate (K : PySem.W.Frag) : Sp := fun vs H Q _ => ∃ (vc vw vp : V) (base : Int) (C : Chn) (W : List (Str × Int)) (pace : F2) (pots : List (Option F2)) (way ring : List (List Int)), vs = [vc, vw, vp] ∧ Dp K H vc (dChn base C) ∧ ChnOk base C ∧ WAt K H vw W ∧ (W.map (·.1)).Nodup ∧ W.length ≤ 1000 ∧ (∀ e ∈ W, e.2.natAbs ≤ 99) ∧
  Dp K H vp (dPap pace pots way ring) ∧ PapOk pace pots way ring ∧ ∀ H', Same H H' → Q (.bl (gB (TakeP C W pace pots way ring))) H'
theorem ringB_ok {C : Chn} (ok : ChS C) (c0 : 0 < C.length) {way ring : List (List Int)} {l m : List Br} (h : ringB C way ring = some (l, m)) : l.length = way.length ∧ m.length = ring.length ∧ ∀ b ∈ l ++ m, b.2.1.length ≤ 6 := by
  unfold ringB at h
  cases hal : alongB C 0 way with
  | none =>
    rw [hal] at h
    cases h
  | some l' =>
    rw [hal] at h
    obtain ⟨st, e1, b1⟩ := along_ok ok c0 hal
    have h : (if ring = [] then none else match alongB C (stA 0 l') ring with | none => none | some m => if stA (stA 0 l') m = stA 0 l' then some (l', m) else none) = some (l, m) := h
    split at h
    · cases h
    · cases har : alongB C (stA 0 l') ring with
      | none =>
        rw [har] at h
        cases h
      | some m' =>
        rw [har] at h
        obtain ⟨_, e2, b2⟩ := along_ok ok st har
        have h : (if stA (stA 0 l') m' = stA 0 l' then some (l', m') else none) = some (l, m) := h
        split at h
        · cases h
          exact ⟨e1, e2, fun b hb => (List.mem_append.mp hb).elim (b1 b) (b2 b)⟩
        · cases h
section
variable {P : Program} {w : World} {K : PySem.W.Frag} {mg : Str → Option Value} {base : Heap}
set_option maxHeartbeats 1000000 in
theorem ok_judge_rate (T : Txt K mg) (D_ring_along : Kept P w K mg base 2 "ring_along" ["rows", "way", "ring"] (spRAlongG K)) (D_product_of : Kept P w K mg base 2 "product_of" ["a", "b"] (spBin K mul2)) (D_worth_of : Kept P w K mg base 1 "worth_of" ["worths", "shown"] (spWorthOf K)) (D_worth_rows : Kept P w K mg base 2 "worth_rows" ["chain", "worths"] (spWRows K)) (D_is_bound : Kept P w K mg base 3 "is_bound" ["row", "speed", "potentials", "potential"] (spBound K)) {f : Addr} {fd : FuncData} (F : FnP K "judge_rate" s_judge_rate f fd) : FnOk P w K mg base CX0 4 f fd ["chain", "worths", "paper"] (spJRate K) := by
  refine F.ok sc_judge_rate (fun vs H Q E h => ?_) (fun cdv A outer s H vs Q E hr h => ?_)
  · obtain ⟨vc, vw, vp, b, C, W, pace, pots, way, ring, rfl, _⟩ := h
    rfl
  · obtain ⟨vc, vw, vp, b, C, W, pace, pots, way, ring, rfl, hC, okC, hw, nd, wl, hW, hP, ok, q⟩ := h
    refine ⟨_, PSs.nox (pss_cons (ps_asg (pv 2) (pg_tup rfl (pgs_cons (pg_name (i := 3) sc_judge_rate.nd rfl (Or.inl rfl)) (pgs_cons (pg_name (i := 4) sc_judge_rate.nd rfl (Or.inl rfl)) (pgs_cons (pg_name (i := 5) sc_judge_rate.nd rfl (Or.inl rfl)) (pgs_cons (pg_name (i := 6) sc_judge_rate.nd rfl (Or.inl rfl)) pgs_nil))))))
      (pss_cons (ps_set (i := 7) sc_judge_rate.nd rfl (Or.inl rfl) (pe_d D_worth_rows (hr.mono (by decide)) (by rfl) (pa_cons (pv 0) (pa_cons (pv 1) pa_nil))))
      (pss_cons (ps_if (PW.pt (pw_or (pt_cmpR op_ne (pe_callB call_len (by rfl) T.b_len (by decide +kernel) (pa_cons (pv 4) pa_nil)) (pe_callB call_len (by rfl) T.b_len (by decide +kernel) (pa_cons (pv 7) pa_nil)) (nomark _)) (pw_or1 (pt_cmpR op_isN (pe_ix ix_tup (pv 4) pe_int (fun _ _ => rfl)) pe_non (nomark _))))) (pss_one (ps_ret pe_bl)) pss_nil)
      (pss_cons (ps_for PassesOwn.never rfl (pi_zipM (by rfl) T.b_zip (pa_cons (pv 7) (pa_cons (pv 4) pa_nil))) (pg_tup rfl (pgs_cons (pg_name (i := 8) sc_judge_rate.nd rfl (Or.inl rfl)) (pgs_cons (pg_name (i := 9) sc_judge_rate.nd rfl (Or.inl rfl)) pgs_nil))) (pss_one (ps_if (PW.pt (pw_and (pt_cmpR op_notN (pv 9) pe_non (nomark _)) (pw_and1 (pt_not (pt_val (pe_d D_is_bound (hr.mono (by decide)) (by rfl) (pa_cons (pv 8) (pa_cons (pv 3) (pa_cons (pv 4) (pa_cons (pv 9) pa_nil)))))))))) (pss_one (ps_ret pe_bl)) pss_nil)))
      (pss_cons (ps_set (i := 10) sc_judge_rate.nd rfl (Or.inl rfl) (pe_d D_ring_along (hr.mono (by decide)) (by rfl) (pa_cons (pe_ix ix_tup (pv 0) pe_int (fun _ _ => rfl)) (pa_cons (pv 5) (pa_cons (pv 6) pa_nil)))))
      (pss_cons (ps_if (pt_cmpR op_isN (pv 10) pe_non (nomark _)) (pss_one (ps_ret pe_bl)) pss_nil)
      (pss_cons (ps_set (i := 11) sc_judge_rate.nd rfl (Or.inl rfl) (pe_callB (cr_sum rfl) (by rfl) T.b_sum (by decide +kernel) (pa_cons (pe_lc (own := [("branch", 12)]) (g := (gName 12)) (tt := tYes) rfl sc_judge_rate.nd (pi_list (pe_ix ix_tup (pv 10) pe_int (fun _ _ => rfl))) (blkOk_by (N := N_judge_rate) (sc := defScope s_judge_rate) (by decide +kernel)) (fun _ _ _ _ _ => (pg_name (i := 12) sc_judge_rate.nd rfl (Or.inl rfl))) (fun _ _ _ _ _ => pts_nil) (fun _ _ _ _ _ => (pe_d D_worth_of (hr.mono (by decide)) (by rfl) (pa_cons (pv 1) (pa_cons (pe_ix (ixT (K := K) rfl) (pv 12) pe_int (fun _ _ => rfl)) pa_nil))))) pa_nil)))
      (pss_one (ps_ret (pe_cmpR (op_eqD (hr.units)) (pe_d D_product_of (hr.mono (by decide)) (by rfl) (pa_cons (pv 3) (pa_cons (pe_tup (pa_cons (pe_callB call_len (by rfl) T.b_len (by decide +kernel) (pa_cons (pv 6) pa_nil)) (pa_cons pe_int pa_nil))) pa_nil))) (pe_tup (pa_cons (pv 11) (pa_cons pe_int pa_nil))) (nomark _))))))))))), ?_⟩
    have no : ∀ H', Same H H' → ¬ TakeP C W pace pots way ring → Q (.bl false) H' := fun H' s h => by
      have := q _ s
      rw [gB_f h] at this
      exact this
    obtain ⟨pp, us, rfl, hpp, hus⟩ := dp_tup hP
    obtain ⟨x0, _, rfl, hx0, hus⟩ := dpA_cons hus
    obtain ⟨x1, _, rfl, hx1, hus⟩ := dpA_cons hus
    obtain ⟨x2, _, rfl, hx2, hus⟩ := dpA_cons hus
    obtain ⟨x3, _, rfl, hx3, hus⟩ := dpA_cons hus
    cases dpA_nil hus
    obtain ⟨p0, rfl, hp0⟩ := f2_at hx0
    obtain ⟨p1, xs, rfl, hp1, hxs⟩ := dp_tup hx1
    have xl := dpA_len hxs
    rw [List.length_map] at xl
    have few := okC.few
    have l0 := ok.l0
    refine ⟨_, rfl, _, _, rfl, hpp, rfl, _, _, rfl, _, _, rfl, _, _, rfl, _, _, rfl, rfl, ?_⟩
    refine ⟨_, rfl, _, rfl, vc, vw, b, C, W, rfl, hC, okC, hw, nd, wl, fun H1 v s1 hv => ?_⟩
    obtain ⟨LR, rs, rfl, hLR, hrs⟩ := dp_lst hv
    have rl := dpA_len hrs
    rw [List.length_map, List.length_map] at rl
    refine ⟨_, rfl, _, _, rfl, .inr ⟨_, same_t s1 hp1, rfl⟩, _, rfl, _, _, rfl, .inl ⟨_, hLR, rfl⟩, rfl, _, rfl, ?_⟩
    rw [rl, xl]
    by_cases kl : pots.length = C.length
    · rw [kl]
      refine ite2 (fun h => absurd h (by simp)) (fun _ => ?_)
      obtain ⟨y0, hy0, py0⟩ := pot_at (dpA_same s1 _ _ hxs) (i := 0) (by have := okC.pos; omega)
      refine ⟨_, rfl, p1, _, _, _, rfl, rfl, same_t s1 hp1, atI_nat (j := 0) hy0, rfl, _, rfl, ?_⟩
      cases hg0 : gp pots 0 with
      | none =>
        rw [hg0] at py0
        obtain rfl : y0 = .non := py0
        refine ite2 (fun _ => ?_) (fun h => absurd rfl h)
        refine no _ s1 fun t => ?_
        obtain ⟨f, hf⟩ := t.zero
        rw [hg0] at hf
        cases hf
      | some f0 =>
        rw [hg0] at py0
        obtain ⟨pf0, rfl, _⟩ := py0
        refine ite2 (fun h => (nomatch (show false = true from h))) (fun _ => ?_)
        refine ⟨_, rfl, _, rfl, LR, p1, rs, xs, rfl, ⟨hLR, same_t s1 hp1⟩, for_it (walk_zipM (n := C.length) rl (by rw [xl, kl])) (fun i σ H' => ∃ (y8 y9 : Option V), σ = [some vc, some vw, some (.ref pp), some (.ref p0), some (.ref p1), some x2, some x3, some (.ref LR), y8, y9, none, none, none] ∧ Same H1 H' ∧ ∀ (s : Nat) (r : List Br) (f : F2), s < i → C[s]? = some r → gp pots s = some f → boundB W pace pots f r = true) ⟨_, _, rfl, Same.refl _, fun s r f h => absurd h (Nat.not_lt_zero _)⟩ (fun i σ H' _ ⟨_, _, _, s, _⟩ => ⟨same_l s hLR, same_t (s1.trans s) hp1⟩) ?_ ?_⟩
        · rintro i x σ H2 H2' hi ⟨y8, y9, rfl, s2, ih⟩ ⟨T', u, v', rfl, hT, rfl, hu, hv'⟩
          have s3 := s2.trans (same_new (o := .tup [u, v']) hT)
          have hT3 := upd_same (H := H2) (a := T') (o := .tup [u, v'])
          generalize upd H2 T' (.tup [u, v']) = H3 at s3 hT3
          obtain ⟨x', hx', px'⟩ := pot_at (dpA_same (s1.trans s3) _ _ hxs) (i := i) (by omega)
          have hv' : xs[i]? = some v' := hv'
          rw [hv'] at hx'
          cases hx'
          have hr : C[i]? = some (rowOf C i) := rowOf_at hi
          obtain ⟨u', hu', du⟩ := dpA_get (dpA_same s3 _ _ hrs) (by rw [List.getElem?_map, hr]; rfl : (C.map (wRow W))[i]? = some (wRow W (rowOf C i)))
          have hu : rs[i]? = some u := hu
          rw [hu] at hu'
          cases hu'
          have next : ∀ (y8 y9 : Option V) (H4 : Hp), Same H3 H4 → (∀ f, gp pots i = some f → boundB W pace pots f (rowOf C i) = true) → ∃ (a9 b9 : Option V), [some vc, some vw, some (.ref pp), some (.ref p0), some (.ref p1), some x2, some x3, some (.ref LR), y8, y9, none, none, none] = [some vc, some vw, some (.ref pp), some (.ref p0), some (.ref p1), some x2, some x3, some (.ref LR), a9, b9, none, none, none] ∧ Same H1 H4 ∧ ∀ (s : Nat) (r : List Br) (f : F2), s < i + 1 → C[s]? = some r → gp pots s = some f → boundB W pace pots f r = true := fun y8 y9 H4 s4 hb => by
            refine ⟨_, _, rfl, s3.trans s4, fun s r f hs hr' hf => ?_⟩
            by_cases c : s = i
            · subst c
              rw [hr] at hr'
              cases hr'
              exact hb f hf
            · exact ih s r f (by omega) hr' hf
          refine ⟨_, _, rfl, SqT.of hT3, rfl, _, _, rfl, _, _, rfl, rfl, ?_⟩
          cases hg : gp pots i with
          | none =>
            rw [hg] at px'
            obtain rfl : v' = .non := px'
            refine ⟨_, rfl, rfl, _, rfl, ite2 (fun h => (nomatch (show false = true from h))) (fun _ => ?_)⟩
            exact next _ _ _ (Same.refl _) fun f hf => by rw [hg] at hf; cases hf
          | some f =>
            rw [hg] at px'
            obtain ⟨pf, rfl, hpf⟩ := px'
            obtain ⟨lf, zf⟩ := ok.pot f (gp_mem hg)
            refine ⟨_, rfl, rfl, _, rfl, ite2 (fun _ => ?_) (fun h => absurd rfl h)⟩
            refine ⟨_, rfl, _, rfl, _, rfl, _, rfl, u, .ref p1, p0, pf, pace, f, pots, wRow W (rowOf C i), rfl, du, same_t (s1.trans s3) hp0, ok.low, ok.sz, dp_same (s1.trans s3) _ _ hx1, ok.pot, hpf, lf, zf, rowE okC.s hW kl (List.mem_of_getElem? hr), fun H4 s4 => ?_⟩
            cases hb : boundE pace pots f (wRow W (rowOf C i)) with
            | true =>
              refine ⟨_, rfl, ite2 (fun h => (nomatch (show false = true from h))) (fun _ => ?_)⟩
              exact next _ _ _ s4 fun f' hf => by
                rw [hg] at hf
                cases hf
                exact hb
            | false =>
              refine ⟨_, rfl, ite2 (fun _ => ?_) (fun h => absurd rfl h)⟩
              refine no _ (s1.trans (s3.trans s4)) fun t => ?_
              have := t.row i _ f hr hg
              unfold boundB at this
              rw [hb] at this
              cases this
        · rintro σ H2 ⟨y8, y9, rfl, s2, ih⟩
          have s2 := s1.trans s2
          have rows : ∀ (s : Nat) (r : List Br) (f : F2), C[s]? = some r → gp pots s = some f → boundB W pace pots f r = true := fun s r f hr hf => ih s r f (List.getElem?_eq_some_iff.mp hr).1 hr hf
          obtain ⟨pc, pq, ys, rfl, hpc, hpq, hA⟩ := chn_at hC
          refine ⟨_, rfl, pc, _, _, _, rfl, rfl, same_t s2 hpc, atI_nat (j := 2) rfl, _, rfl, _, rfl, .ref pq, x2, x3, C, way, ring, rfl, .tup (same_t s2 hpq) (dpA_same s2 _ _ hA), okC.s, okC.pos, ok.l1, ok.l2, dp_same s2 _ _ hx2, dp_same s2 _ _ hx3, fun H3 v s3 hv => ?_⟩
          have s4 := s2.trans s3
          cases hrg : ringB C way ring with
          | none =>
            rw [hrg] at hv
            obtain rfl : v = .non := hv
            refine ⟨_, rfl, rfl, _, rfl, ite2 (fun _ => ?_) (fun h => absurd rfl h)⟩
            refine no _ s4 fun t => ?_
            obtain ⟨l, m, e, _⟩ := t.ring
            rw [hrg] at e
            cases e
          | some lm =>
            obtain ⟨l, m⟩ := lm
            rw [hrg] at hv
            have hv : Dp K H3 v (.tuple [.list (l.map dBr), .list (m.map dBr)]) := hv
            obtain ⟨e1, e2, e3⟩ := ringB_ok okC.s okC.pos hrg
            obtain ⟨pw, vs, rfl, hpw, hvs⟩ := dp_tup hv
            obtain ⟨u0, r0', rfl, hu0, hvs⟩ := dpA_cons hvs
            obtain ⟨u1, r1', rfl, hu1, hvs⟩ := dpA_cons hvs
            cases dpA_nil hvs
            refine ⟨_, rfl, rfl, _, rfl, ite2 (fun h => (nomatch (show false = true from h))) (fun _ => ?_)⟩
            obtain ⟨pk, zs, rfl, hpk, hzs⟩ := dp_lst hu1
            have zl := dpA_len hzs
            rw [List.length_map] at zl
            have l2 := ok.l2
            obtain ⟨pg, gs, rfl, hpg, hgs⟩ := dp_tup hx3
            have gl := dpA_len hgs
            rw [List.length_map] at gl
            have wm := wsum_le hW m fun b hb => e3 b (List.mem_append_right _ hb)
            refine ⟨_, rfl, pw, _, _, _, rfl, rfl, hpw, atI_nat (j := 1) rfl, pk, rfl, ⟨_, hpk⟩, fun M hM => lc_list (K := K) (a := pk) (xs := zs) (fun j H' => Same H3 H' ∧ H' M = some (.lst (((m.take j).map fun b => wv W b.2.1).map V.int))) ⟨same_new hM, upd_same⟩ (fun j H' _ e => same_l e.1 hpk) ?_ ?_⟩
            · rintro j x H5 hj ⟨s5, hM5⟩
              obtain ⟨br, hbr, hy⟩ := dpA_mem (dpA_same s5 _ _ hzs) hj
              obtain ⟨pb, t0, t1, rfl, hpb, hd0, hd1⟩ := br_at hy
              have b6 := e3 br (List.mem_append_right _ (List.mem_of_getElem? hbr))
              refine ⟨rfl, _, rfl, _, rfl, pb, _, _, _, rfl, rfl, hpb, atI_nat (j := 1) rfl, vw, t1, W, br.2.1, rfl, hw.same (s4.trans s5), nd, wl, hd1, by omega, fun H6 s6 => ?_⟩
              refine ⟨_, s6 _ _ hM5, by rw [List.length_map, List.length_map, List.length_take]; exact line6 (by omega), same_mut (s5.trans s6) hM, ?_⟩
              rw [upd_same, ← take_map_succ (f := fun b : Br => wv W b.2.1) hbr, List.map_append]
              rfl
            · rintro H5 ⟨s5, hM5⟩
              rw [zl, List.take_length] at hM5
              have s6 := s4.trans s5
              refine ⟨M, _, rfl, SqL.of hM5, ?_⟩
              obtain ⟨l1', zr⟩ := w1 (ring.length : Int) (by omega)
              refine ⟨_, rfl, _, rfl, _, _, rfl, .inr ⟨_, same_t s6 hpg, rfl⟩, z2, fun N hN => ?_⟩
              rw [gl] at *
              have s7 := same_new (o := .tup [.int (ring.length : Int), .int 1]) hN
              refine ⟨p0, N, pace, ((ring.length : Int), 1), rfl, same_t (s6.trans s7) hp0, SqT.of upd_same, sz_up ok.sz (by decide), sz_up zr (by decide), mul2_ne ok.low l1', fun N2 hN2 => ?_⟩
              have s8 := same_new (o := tupF (frp (mul2 pace ((ring.length : Int), 1)))) hN2
              refine ⟨_, rfl, z2, fun N3 hN3 => ?_⟩
              have s9 := same_new (o := .tup [.int (wsum W m), .int 1]) hN3
              have s10 := s6.trans (s7.trans (s8.trans s9))
              refine ⟨dF (frp (mul2 pace ((ring.length : Int), 1))), dF (wsum W m, 1), dp_F (same_t s9 sq_new), dp_F (SqT.of upd_same), dF_sh _, dF_sh _, ?_⟩
              rw [eqv_F]
              have eg : decide (frp (mul2 pace ((ring.length : Int), 1)) = (wsum W m, 1)) = gB (TakeP C W pace pots way ring) := by
                by_cases c : frp (mul2 pace ((ring.length : Int), 1)) = (wsum W m, 1)
                · rw [decide_eq_true c, gB_t ⟨kl, ⟨f0, hg0⟩, rows, l, m, hrg, c⟩]
                · rw [decide_eq_false c, gB_f fun t => ?_]
                  obtain ⟨l', m', e, d⟩ := t.ring
                  rw [hrg] at e
                  cases e
                  exact c d
              rw [eg]
              exact q _ s10
    · refine ite2 (fun _ => ite2 (fun _ => no _ s1 fun h => kl h.len) (fun h => absurd rfl h)) (fun h => absurd ?_ h)
      have : V.int (pots.length : Int) ≠ V.int (C.length : Int) := fun z => kl (by have := V.int.inj z; omega)
      simp [this]
end
end Mt
namespace Mt
open PySem PySem.Spec PyProof.Rows L2
abbrev spTaken (K : PySem.W.Frag) : Sp := spJRate K
section
variable {P : Program} {w : World} {K : PySem.W.Frag} {mg : Str → Option Value} {base : Heap}
set_option maxHeartbeats 1000000 in
theorem ok__law_rate_taken (T : Txt K mg) (D__law_plus : Kept P w K mg base 2 "_law_plus" ["a", "b"] (spBin K add2)) (D__law_times : Kept P w K mg base 2 "_law_times" ["a", "b"] (spBin K mul2)) (D__law_less : Kept P w K mg base 1 "_law_less" ["a", "b"] (spLess K)) (D__law_worth : Kept P w K mg base 1 "_law_worth" ["worths", "shown"] (spLWorth K)) (D__law_along : Kept P w K mg base 2 "_law_along" ["chain", "worths", "start", "blocks"] (spLAlong K)) {f : Addr} {fd : FuncData} (F : FnP K "_law_rate_taken" s__law_rate_taken f fd) : FnOk P w K mg base CX0 3 f fd ["chain", "worths", "paper"] (spTaken K) := by
  refine F.ok sc__law_rate_taken (fun vs H Q E h => ?_) (fun cdv A outer s H vs Q E hr h => ?_)
  · obtain ⟨vc, vw, vp, b, C, W, pace, pots, way, ring, rfl, _⟩ := h
    rfl
  · obtain ⟨vc, vw, vp, b, C, W, pace, pots, way, ring, rfl, hC, okC, hw, nd, wl, hW, hP, ok, q⟩ := h
    refine ⟨_, PSs.nox (pss_cons (ps_asg (pv 2) (pg_tup rfl (pgs_cons (pg_name (i := 3) sc__law_rate_taken.nd rfl (Or.inl rfl)) (pgs_cons (pg_name (i := 4) sc__law_rate_taken.nd rfl (Or.inl rfl)) (pgs_cons (pg_name (i := 5) sc__law_rate_taken.nd rfl (Or.inl rfl)) (pgs_cons (pg_name (i := 6) sc__law_rate_taken.nd rfl (Or.inl rfl)) pgs_nil))))))
      (pss_cons (ps_if (PW.pt (pw_or (pt_cmpR op_ne (pe_callB call_len (by rfl) T.b_len (by decide +kernel) (pa_cons (pv 4) pa_nil)) (pe_callB call_len (by rfl) T.b_len (by decide +kernel) (pa_cons (pe_ix ix_tup (pv 0) pe_int (fun _ _ => rfl)) pa_nil)) (nomark _)) (pw_or1 (pt_cmpR op_isN (pe_ix ix_tup (pv 4) pe_int (fun _ _ => rfl)) pe_non (nomark _))))) (pss_one (ps_ret pe_bl)) pss_nil)
      (pss_cons (ps_for PassesOwn.never rfl (pi_range1 (by rfl) T.b_range (pa_cons (pe_callB call_len (by rfl) T.b_len (by decide +kernel) (pa_cons (pv 4) pa_nil)) pa_nil)) (pg_name (i := 7) sc__law_rate_taken.nd rfl (Or.inl rfl)) (pss_one (ps_if (pt_cmpR op_notN (pe_ix ix_tup (pv 4) (pv 7) (fun _ _ => rfl)) pe_non (nomark _)) (pss_cons (ps_set (i := 8) sc__law_rate_taken.nd rfl (Or.inl rfl) (pe_d D__law_plus (hr.mono (by decide)) (by rfl) (pa_cons (pv 3) (pa_cons (pe_ix ix_tup (pv 4) (pv 7) (fun _ _ => rfl)) pa_nil))))
      (pss_one (ps_for PassesOwn.never rfl (pi_tup (pe_ix ix_tup (pe_ix ix_tup (pv 0) pe_int (fun _ _ => rfl)) (pv 7) (fun _ _ => rfl))) (pg_tup rfl (pgs_cons (pg_name (i := 9) sc__law_rate_taken.nd rfl (Or.inl rfl)) (pgs_cons (pg_name (i := 10) sc__law_rate_taken.nd rfl (Or.inl rfl)) (pgs_cons (pg_name (i := 11) sc__law_rate_taken.nd rfl (Or.inl rfl)) pgs_nil)))) (pss_cons (ps_if (pt_cmpR op_isN (pe_ix ix_tup (pv 4) (pv 11) (fun _ _ => rfl)) pe_non (nomark _)) (pss_one (ps_ret pe_bl)) pss_nil)
      (pss_one (ps_if (pt_val (pe_d D__law_less (hr.mono (by decide)) (by rfl) (pa_cons (pv 8) (pa_cons (pe_d D__law_plus (hr.mono (by decide)) (by rfl) (pa_cons (pe_tup (pa_cons (pe_d D__law_worth (hr.mono (by decide)) (by rfl) (pa_cons (pv 1) (pa_cons (pv 10) pa_nil))) (pa_cons pe_int pa_nil))) (pa_cons (pe_ix ix_tup (pv 4) (pv 11) (fun _ _ => rfl)) pa_nil))) pa_nil)))) (pss_one (ps_ret pe_bl)) pss_nil)))))) pss_nil)))
      (pss_cons (ps_set (i := 12) sc__law_rate_taken.nd rfl (Or.inl rfl) (pe_d D__law_along (hr.mono (by decide)) (by rfl) (pa_cons (pv 0) (pa_cons (pv 1) (pa_cons pe_int (pa_cons (pv 5) pa_nil))))))
      (pss_cons (ps_if (PW.pt (pw_or (pt_cmpR op_isN (pv 12) pe_non (nomark _)) (pw_or1 (pt_cmpR op_eq (pe_callB call_len (by rfl) T.b_len (by decide +kernel) (pa_cons (pv 6) pa_nil)) pe_int (nomark _))))) (pss_one (ps_ret pe_bl)) pss_nil)
      (pss_cons (ps_set (i := 13) sc__law_rate_taken.nd rfl (Or.inl rfl) (pe_d D__law_along (hr.mono (by decide)) (by rfl) (pa_cons (pv 0) (pa_cons (pv 1) (pa_cons (pe_ix ix_tup (pv 12) pe_int (fun _ _ => rfl)) (pa_cons (pv 6) pa_nil))))))
      (pss_cons (ps_if (PW.pt (pw_or (pt_cmpR op_isN (pv 13) pe_non (nomark _)) (pw_or1 (pt_cmpR op_ne (pe_ix ix_tup (pv 13) pe_int (fun _ _ => rfl)) (pe_ix ix_tup (pv 12) pe_int (fun _ _ => rfl)) (nomark _))))) (pss_one (ps_ret pe_bl)) pss_nil)
      (pss_one (ps_ret (pe_cmpR (op_eqD (hr.units)) (pe_tup (pa_cons (pe_ix ix_tup (pv 13) pe_int (fun _ _ => rfl)) (pa_cons pe_int pa_nil))) (pe_d D__law_times (hr.mono (by decide)) (by rfl) (pa_cons (pv 3) (pa_cons (pe_tup (pa_cons (pe_callB call_len (by rfl) T.b_len (by decide +kernel) (pa_cons (pv 6) pa_nil)) (pa_cons pe_int pa_nil))) pa_nil))) (nomark _))))))))))), ?_⟩
    have no : ∀ H', Same H H' → ¬ TakeP C W pace pots way ring → Q (.bl false) H' := fun H' s h => by
      have := q _ s
      rw [gB_f h] at this
      exact this
    obtain ⟨pp, us, rfl, hpp, hus⟩ := dp_tup hP
    obtain ⟨x0, _, rfl, hx0, hus⟩ := dpA_cons hus
    obtain ⟨x1, _, rfl, hx1, hus⟩ := dpA_cons hus
    obtain ⟨x2, _, rfl, hx2, hus⟩ := dpA_cons hus
    obtain ⟨x3, _, rfl, hx3, hus⟩ := dpA_cons hus
    cases dpA_nil hus
    obtain ⟨p0, rfl, hp0⟩ := f2_at hx0
    obtain ⟨p1, xs, rfl, hp1, hxs⟩ := dp_tup hx1
    have xl := dpA_len hxs
    rw [List.length_map] at xl
    have few := okC.few
    have l0 := ok.l0
    have hC0 := hC
    obtain ⟨pc, pq, ys, rfl, hpc, hpq, hA⟩ := chn_at hC
    have yl := dpA_len hA
    rw [List.length_map] at yl
    refine ⟨_, rfl, _, _, rfl, hpp, rfl, _, _, rfl, _, _, rfl, _, _, rfl, _, _, rfl, rfl, ?_⟩
    refine ⟨_, rfl, _, _, rfl, .inr ⟨_, hp1, rfl⟩, _, rfl, pc, _, _, _, rfl, rfl, hpc, atI_nat (j := 2) rfl, _, _, rfl, .inr ⟨_, hpq, rfl⟩, rfl, _, rfl, ?_⟩
    rw [xl, yl]
    by_cases kl : pots.length = C.length
    · rw [kl]
      refine ite2 (fun h => absurd h (by simp)) (fun _ => ?_)
      obtain ⟨y0, hy0, py0⟩ := pot_at hxs (i := 0) (by have := okC.pos; omega)
      refine ⟨_, rfl, p1, _, _, _, rfl, rfl, hp1, atI_nat (j := 0) hy0, rfl, _, rfl, ?_⟩
      cases hg0 : gp pots 0 with
      | none =>
        rw [hg0] at py0
        obtain rfl : y0 = .non := py0
        refine ite2 (fun _ => ?_) (fun h => absurd rfl h)
        refine no _ (Same.refl _) fun t => ?_
        obtain ⟨f, hf⟩ := t.zero
        rw [hg0] at hf
        cases hf
      | some f0 =>
        rw [hg0] at py0
        obtain ⟨pf0, rfl, _⟩ := py0
        refine ite2 (fun h => (nomatch (show false = true from h))) (fun _ => ?_)
        refine ⟨_, rfl, _, _, rfl, .inr ⟨_, hp1, rfl⟩, _, rfl, by rw [xl]; omega, by rw [xl]; omega, for_range (lo := 0) (n := ((xs.length : Nat) : Int).toNat) (fun i σ H' => ∃ (y7 y8 y9 y10 y11 : Option V), σ = [some (.ref pc), some vw, some (.ref pp), some (.ref p0), some (.ref p1), some x2, some x3, y7, y8, y9, y10, y11, none, none] ∧ Same H H' ∧ ∀ (s : Nat) (r : List Br) (f : F2), s < i → C[s]? = some r → gp pots s = some f → boundB W pace pots f r = true) ⟨_, _, _, _, _, rfl, Same.refl _, fun s r f h => absurd h (Nat.not_lt_zero _)⟩ ?_ ?_⟩
        · rintro i σ H2 hi ⟨y7, y8, y9, y10, y11, rfl, s2, ih⟩
          rw [Int.toNat_natCast, xl, kl] at hi
          have e0 : (0 : Int) + (i : Int) = (i : Int) := Int.zero_add _
          obtain ⟨x, hx, px⟩ := pot_at (dpA_same s2 _ _ hxs) (i := i) (by omega)
          have atx : atI xs (0 + (i : Int)) = some x := by rw [e0]; exact atI_nat hx
          have hr : C[i]? = some (rowOf C i) := rowOf_at hi
          have next : ∀ (y7 y8 y9 y10 y11 : Option V) (H4 : Hp), Same H2 H4 → (∀ f, gp pots i = some f → boundB W pace pots f (rowOf C i) = true) → ∃ (a7 a8 a9 a10 a11 : Option V), [some (.ref pc), some vw, some (.ref pp), some (.ref p0), some (.ref p1), some x2, some x3, y7, y8, y9, y10, y11, none, none] = [some (.ref pc), some vw, some (.ref pp), some (.ref p0), some (.ref p1), some x2, some x3, a7, a8, a9, a10, a11, none, none] ∧ Same H H4 ∧ ∀ (s : Nat) (r : List Br) (f : F2), s < i + 1 → C[s]? = some r → gp pots s = some f → boundB W pace pots f r = true := fun y7 y8 y9 y10 y11 H4 s4 hb => by
            refine ⟨_, _, _, _, _, rfl, s2.trans s4, fun s r f hs hr' hf => ?_⟩
            by_cases c : s = i
            · subst c
              rw [hr] at hr'
              cases hr'
              exact hb f hf
            · exact ih s r f (by omega) hr' hf
          refine ⟨_, rfl, _, rfl, p1, _, _, _, rfl, rfl, same_t s2 hp1, atx, ?_⟩
          cases hg : gp pots i with
          | none =>
            rw [hg] at px
            obtain rfl : x = .non := px
            refine ⟨rfl, _, rfl, ite2 (fun h => (nomatch (show false = true from h))) (fun _ => ?_)⟩
            exact next _ _ _ _ _ _ (Same.refl _) fun f hf => by rw [hg] at hf; cases hf
          | some f =>
            rw [hg] at px
            obtain ⟨pf, rfl, hpf⟩ := px
            obtain ⟨lf, zf⟩ := ok.pot f (gp_mem hg)
            refine ⟨rfl, _, rfl, ite2 (fun _ => ?_) (fun h => absurd rfl h)⟩
            refine ⟨_, rfl, _, rfl, _, rfl, p1, _, _, _, rfl, rfl, same_t s2 hp1, atx, p0, pf, pace, f, rfl, same_t s2 hp0, hpf, sz_up ok.sz (by decide), sz_up zf (by decide), add2_ne ok.low lf, fun m hm => ?_⟩
            have s3 := same_new (o := tupF (frp (add2 pace f))) hm
            have hm1 := sq_new (K := K) (H := H2) (p := m) (f := frp (add2 pace f))
            have lm : Low (frp (add2 pace f)) := low_frp (add2_ne ok.low lf)
            have zm : Sz 2001 (frp (add2 pace f)) := fr_sz (add2_sz ok.sz zf)
            have be : boundB W pace pots f (rowOf C i) = (wRow W (rowOf C i)).all (okE (frp (add2 pace f)) pots) := rfl
            generalize frp (add2 pace f) = most at s3 hm1 lm zm be
            generalize upd H2 m (tupF most) = H3 at s3 hm1
            have s4 := s2.trans s3
            obtain ⟨xr, hxr, dr⟩ := dpA_get (dpA_same s4 _ _ hA) hr
            obtain ⟨okr1, okr2⟩ := okC.s.row _ (List.mem_of_getElem? hr)
            obtain ⟨pr, rs, rfl, hpr, hrs⟩ := dp_tup dr
            have rl := dpA_len hrs
            rw [List.length_map] at rl
            have aty : atI ys (0 + (i : Int)) = some (.ref pr) := by rw [e0]; exact atI_nat hxr
            refine ⟨_, rfl, pc, _, _, _, rfl, rfl, same_t s4 hpc, atI_nat (j := 2) rfl, _, rfl, pq, _, _, _, rfl, rfl, same_t s4 hpq, aty, pr, rfl, ⟨_, hpr⟩, for_tup (K := K) (a := pr) (xs := rs) (fun j σ H' => ∃ (y9 y10 y11 : Option V), σ = [some (.ref pc), some vw, some (.ref pp), some (.ref p0), some (.ref p1), some x2, some x3, some (.int (0 + (i : Int))), some (.ref m), y9, y10, y11, none, none] ∧ Same H3 H' ∧ ((wRow W (rowOf C i)).take j).all (okE most pots) = true) ⟨_, _, _, rfl, Same.refl _, rfl⟩ (fun j σ H' _ ⟨_, _, _, _, s, _⟩ => same_t s hpr) ?_ ?_⟩
            · rintro j y σ H4 hj ⟨y9, y10, y11, rfl, s5, jh⟩
              have s6 := s4.trans s5
              obtain ⟨br, hbr, hy⟩ := dpA_mem (dpA_same s5 _ _ hrs) hj
              obtain ⟨pb, t0, t1, rfl, hpb, hd0, hd1⟩ := br_at hy
              obtain ⟨tob, b6⟩ := okr2 br (List.mem_of_getElem? hbr)
              have he : (wRow W (rowOf C i))[j]? = some (wBr W br) := by
                unfold wRow
                rw [List.getElem?_map, hbr]
                rfl
              obtain ⟨x', hx', px'⟩ := pot_at (dpA_same s6 _ _ hxs) (i := br.2.2) (by omega)
              have stop : okE most pots (wBr W br) = false → ∀ H', Same H H' → Q (.bl false) H' := fun h H' s => by
                refine no _ s fun t => ?_
                have := t.row i _ f hr hg
                rw [be, all_not he h] at this
                cases this
              refine ⟨_, _, rfl, hpb, rfl, _, _, rfl, _, _, rfl, _, _, rfl, rfl, ?_⟩
              refine ⟨_, rfl, _, rfl, p1, _, _, _, rfl, rfl, same_t s6 hp1, atI_nat hx', ?_⟩
              cases hg' : gp pots br.2.2 with
              | none =>
                rw [hg'] at px'
                obtain rfl : x' = .non := px'
                refine ⟨rfl, _, rfl, ite2 (fun _ => ?_) (fun h => absurd rfl h)⟩
                refine stop ?_ _ s6
                unfold okE
                show (match gp pots br.2.2 with | none => false | some ah => !lessB most (frp (add2 (wv W br.2.1, 1) ah))) = false
                rw [hg']
              | some ah =>
                rw [hg'] at px'
                obtain ⟨pa, rfl, hpa⟩ := px'
                obtain ⟨la, za⟩ := ok.pot ah (gp_mem hg')
                obtain ⟨lw, zw⟩ := w1 (wv W br.2.1) (by have := wv_le hW br.2.1; omega)
                have ev : okE most pots (wBr W br) = !lessB most (frp (add2 (wv W br.2.1, 1) ah)) := by
                  unfold okE
                  show (match gp pots br.2.2 with | none => false | some ah => !lessB most (frp (add2 (wv W br.2.1, 1) ah))) = _
                  rw [hg']
                refine ⟨rfl, _, rfl, ite2 (fun h => (nomatch (show false = true from h))) (fun _ => ?_)⟩
                refine ⟨_, rfl, _, rfl, _, rfl, vw, t1, W, br.2.1, rfl, (hw.same s6).s, nd, wl, hd1, by omega, fun H5 s7 => ?_⟩
                refine ⟨z2, fun N hN => ?_⟩
                have s8 := same_new (o := .tup [.int (wv W br.2.1), .int 1]) hN
                have s9 := s7.trans s8
                refine ⟨_, rfl, _, rfl, p1, _, _, _, rfl, rfl, same_t (s6.trans s9) hp1, atI_nat hx', N, pa, (wv W br.2.1, 1), ah, rfl, SqT.of upd_same, same_t s9 hpa, sz_up zw (by decide), sz_up za (by decide), add2_ne lw la, fun M hM => ?_⟩
                have s10 := s9.trans (same_new (o := tupF (frp (add2 (wv W br.2.1, 1) ah))) hM)
                refine ⟨m, M, most, _, rfl, same_t (s5.trans s10) hm1, sq_new, sz_up zm (by decide), sz_up (fr_sz (add2_sz zw za)) (by decide), ?_⟩
                cases hl : lessB most (frp (add2 (wv W br.2.1, 1) ah)) with
                | true =>
                  refine ⟨_, rfl, ite2 (fun _ => ?_) (fun h => absurd rfl h)⟩
                  exact stop (by rw [ev, hl]; rfl) _ (s6.trans s10)
                | false =>
                  refine ⟨_, rfl, ite2 (fun h => (nomatch (show false = true from h))) (fun _ => ?_)⟩
                  exact ⟨_, _, _, rfl, s5.trans s10, all_snoc he jh (by rw [ev, hl]; rfl)⟩
            · rintro σ H4 ⟨y9, y10, y11, rfl, s5, jh⟩
              have wl' : (wRow W (rowOf C i)).length = rs.length := by
                unfold wRow
                rw [List.length_map, rl]
              rw [← wl', List.take_length] at jh
              exact next _ _ _ _ _ _ (s3.trans s5) fun f' hf => by
                rw [hg] at hf
                cases hf
                rw [be]
                exact jh
        · rintro σ H2 ⟨y7, y8, y9, y10, y11, rfl, s2, ih⟩
          rw [Int.toNat_natCast, xl, kl] at ih
          have rows : ∀ (s : Nat) (r : List Br) (f : F2), C[s]? = some r → gp pots s = some f → boundB W pace pots f r = true := fun s r f hr hf => ih s r f (List.getElem?_eq_some_iff.mp hr).1 hr hf
          obtain ⟨pg, gs, rfl, hpg, hgs⟩ := dp_tup hx3
          have gl := dpA_len hgs
          rw [List.length_map] at gl
          have l2 := ok.l2
          have noR : ringB C way ring = none → ¬ TakeP C W pace pots way ring := fun h t => by
            obtain ⟨l, m, e, _⟩ := t.ring
            rw [h] at e
            cases e
          refine ⟨_, rfl, _, rfl, _, rfl, .ref pc, vw, x2, 0, b, C, W, way, rfl, dp_same s2 _ _ hC0, okC.s, okC.pos, (hw.same s2).s, nd, wl, ok.l1, dp_same s2 _ _ hx2, fun H3 x s3 hx => ?_⟩
          have s3 := s2.trans s3
          cases hal : alongB C 0 way with
          | none =>
            rw [hal] at hx
            obtain rfl : x = .non := hx
            refine ⟨_, rfl, rfl, _, rfl, ite2 (fun _ => ite2 (fun _ => ?_) (fun h => absurd rfl h)) (fun h => absurd rfl h)⟩
            exact no _ s3 (noR (by unfold ringB; rw [hal]))
          | some l =>
            rw [hal] at hx
            obtain ⟨st1, _, _⟩ := along_ok okC.s okC.pos hal
            obtain ⟨pa, us, rfl, hpa, hus⟩ := dp_tup (show Dp K H3 x (.tuple [.int ((stA 0 l : Nat) : Int), .int (wsum W l)]) from hx)
            obtain ⟨u0, _, rfl, hu0, hus⟩ := dpA_cons hus
            obtain ⟨u1, _, rfl, hu1, hus⟩ := dpA_cons hus
            cases dpA_nil hus
            obtain rfl := dp_int hu0
            obtain rfl := dp_int hu1
            refine ⟨_, rfl, rfl, _, rfl, ite2 (fun h => (nomatch (show false = true from h))) (fun _ => ?_)⟩
            refine ⟨_, rfl, _, _, rfl, .inr ⟨_, same_t s3 hpg, rfl⟩, rfl, _, rfl, ?_⟩
            rw [gl]
            by_cases r0 : ring = []
            · refine ite2 (fun _ => ?_) (fun h => absurd (by rw [r0]; rfl) h)
              exact no _ s3 (noR (by unfold ringB; rw [hal]; show (if ring = [] then none else _) = none; rw [if_pos r0]))
            · have rp : 0 < ring.length := List.length_pos_iff.mpr r0
              have rB : ringB C way ring = match alongB C (stA 0 l) ring with | none => none | some m => if stA (stA 0 l) m = stA 0 l then some (l, m) else none := by
                unfold ringB
                rw [hal]
                show (if ring = [] then none else match alongB C (stA 0 l) ring with | none => none | some m => if stA (stA 0 l) m = stA 0 l then some (l, m) else none) = _
                rw [if_neg r0]
              refine ite2 (fun h => ?_) (fun _ => ?_)
              · have := V.int.inj (of_decide_eq_true h)
                omega
              refine ⟨_, rfl, _, rfl, _, rfl, pa, _, _, _, rfl, rfl, hpa, atI_nat (j := 0) rfl, _, rfl, .ref pc, vw, .ref pg, stA 0 l, b, C, W, ring, rfl, dp_same s3 _ _ hC0, okC.s, st1, (hw.same s3).s, nd, wl, ok.l2, dp_same s3 _ _ hx3, fun H4 x s4 hx => ?_⟩
              have s5 := s3.trans s4
              cases har : alongB C (stA 0 l) ring with
              | none =>
                rw [har] at hx rB
                obtain rfl : x = .non := hx
                refine ⟨_, rfl, rfl, _, rfl, ite2 (fun _ => ite2 (fun _ => ?_) (fun h => absurd rfl h)) (fun h => absurd rfl h)⟩
                exact no _ s5 (noR rB)
              | some m =>
                rw [har] at hx rB
                have rB : ringB C way ring = if stA (stA 0 l) m = stA 0 l then some (l, m) else none := rB
                obtain ⟨st2, ml, mb⟩ := along_ok okC.s st1 har
                obtain ⟨pb, ws, rfl, hpb, hws⟩ := dp_tup (show Dp K H4 x (.tuple [.int ((stA (stA 0 l) m : Nat) : Int), .int (wsum W m)]) from hx)
                obtain ⟨u0, _, rfl, hu0, hws⟩ := dpA_cons hws
                obtain ⟨u1, _, rfl, hu1, hws⟩ := dpA_cons hws
                cases dpA_nil hws
                obtain rfl := dp_int hu0
                obtain rfl := dp_int hu1
                refine ⟨_, rfl, rfl, _, rfl, ite2 (fun h => (nomatch (show false = true from h))) (fun _ => ?_)⟩
                refine ⟨_, rfl, pb, _, _, _, rfl, rfl, hpb, atI_nat (j := 0) rfl, _, rfl, pa, _, _, _, rfl, rfl, same_t s4 hpa, atI_nat (j := 0) rfl, rfl, _, rfl, ?_⟩
                by_cases ee : stA (stA 0 l) m = stA 0 l
                · rw [if_pos ee] at rB
                  rw [ee]
                  refine ite2 (fun h => absurd h (by simp)) (fun _ => ?_)
                  have wm := wsum_le hW m mb
                  obtain ⟨l1', zr⟩ := w1 (ring.length : Int) (by omega)
                  refine ⟨_, rfl, pb, _, _, _, rfl, rfl, hpb, atI_nat (j := 1) rfl, z2, fun N hN => ?_⟩
                  have s6 := same_new (o := .tup [.int (wsum W m), .int 1]) hN
                  have hN1 := SqT.of (K := K) (upd_same (H := H4) (a := N) (o := .tup [.int (wsum W m), .int 1]))
                  generalize upd H4 N (.tup [.int (wsum W m), .int 1]) = H5 at s6 hN1
                  have s7 := s5.trans s6
                  refine ⟨_, rfl, _, rfl, _, _, rfl, .inr ⟨_, same_t s7 hpg, rfl⟩, z2, fun N2 hN2 => ?_⟩
                  rw [gl]
                  have s8 := same_new (o := .tup [.int (ring.length : Int), .int 1]) hN2
                  refine ⟨p0, N2, pace, ((ring.length : Int), 1), rfl, same_t (s7.trans s8) hp0, SqT.of upd_same, sz_up ok.sz (by decide), sz_up zr (by decide), mul2_ne ok.low l1', fun N3 hN3 => ?_⟩
                  have s9 := same_new (o := tupF (frp (mul2 pace ((ring.length : Int), 1)))) hN3
                  refine ⟨dF (wsum W m, 1), dF (frp (mul2 pace ((ring.length : Int), 1))), dp_F (same_t (s8.trans s9) hN1), dp_F sq_new, dF_sh _, dF_sh _, ?_⟩
                  rw [eqv_F]
                  have eg : decide ((wsum W m, 1) = frp (mul2 pace ((ring.length : Int), 1))) = gB (TakeP C W pace pots way ring) := by
                    by_cases c : frp (mul2 pace ((ring.length : Int), 1)) = (wsum W m, 1)
                    · rw [decide_eq_true c.symm, gB_t ⟨kl, ⟨f0, hg0⟩, rows, l, m, rB, c⟩]
                    · rw [decide_eq_false (fun h => c h.symm), gB_f fun t => ?_]
                      obtain ⟨l', m', e, d⟩ := t.ring
                      rw [rB] at e
                      cases e
                      exact c d
                  rw [eg]
                  exact q _ (s7.trans (s8.trans s9))
                · rw [if_neg ee] at rB
                  refine ite2 (fun _ => no _ s5 (noR rB)) (fun h => absurd ?_ h)
                  have : V.int ((stA (stA 0 l) m : Nat) : Int) ≠ V.int ((stA 0 l : Nat) : Int) := fun z => ee (by have := V.int.inj z; omega)
                  simp [this]
    · refine ite2 (fun _ => ite2 (fun _ => no _ (Same.refl _) fun h => kl h.len) (fun h => absurd rfl h)) (fun h => absurd ?_ h)
      have : V.int (pots.length : Int) ≠ V.int (C.length : Int) := fun z => kl (by have := V.int.inj z; omega)
      simp [this]
end
end Mt
namespace Mt
open PySem PySem.Spec PyProof.Rows L2
section
variable {P : Program} {w : World} {K : PySem.W.Frag} {mg : Str → Option Value} {base : Heap}
theorem ok_product_of (T : Txt K mg) (D_make_fraction : Kept P w K mg base 1 "make_fraction" ["n", "d"] spFrac) {f : Addr} {fd : FuncData} (F : FnP K "product_of" s_product_of f fd) : FnOk P w K mg base CX0 2 f fd ["a", "b"] (spBin K mul2) := by
  refine F.ok sc_product_of (fun vs H Q E h => ?_) (fun cdv A outer s H vs Q E hr h => ?_)
  · obtain ⟨p, p2, a, b, rfl, _⟩ := h
    rfl
  · obtain ⟨p, p2, a, b, rfl, hp, hp2, za, zb, hne, q⟩ := h
    refine ⟨_, PSs.nox (pss_one (ps_ret (pe_d D_make_fraction (hr.mono (by decide)) (by rfl) (pa_cons (pe_op op_mulW (pe_ix ix_tup (pv 0) pe_int (fun _ _ => rfl)) (pe_ix ix_tup (pv 1) pe_int (fun _ _ => rfl))) (pa_cons (pe_op op_mulW (pe_ix ix_tup (pv 0) pe_int (fun _ _ => rfl)) (pe_ix ix_tup (pv 1) pe_int (fun _ _ => rfl))) pa_nil))))), ?_⟩
    exact ⟨_, rfl, p, _, _, _, rfl, rfl, hp, atI_nat (j := 0) rfl, _, rfl, p2, _, _, _, rfl, rfl, hp2, atI_nat (j := 0) rfl, _, _, rfl, rfl, wide_mul za.1 zb.1 (by decide) (by decide) (by decide), _, rfl, p, _, _, _, rfl, rfl, hp, atI_nat (j := 1) rfl, _, rfl, p2, _, _, _, rfl, rfl, hp2, atI_nat (j := 1) rfl, _, _, rfl, rfl, wide_mul za.2 zb.2 (by decide) (by decide) (by decide), _, _, rfl, hne, sz_up (mul2_sz za zb) (by decide), q⟩
end
end Mt
namespace Mt
open PySem PySem.Spec PyProof.Rows L2
/-- a tuple of words, no more than n -/
def Wd (K : PySem.W.Frag) (H : Hp) (v : V) (n : Nat) : Prop := ∃ ws : List (List Int), Dp K H v (dWs ws) ∧ ws.length ≤ n
theorem dWs_noL (ws : List (List Int)) : noL (dWs ws) = true := noLs_map dI ws fun x _ => noLs_map _ x fun _ _ => rfl
theorem Wd.same {K : PySem.W.Frag} {H H' : Hp} {v : V} {n : Nat} (s : Same H H') (h : Wd K H v n) : Wd K H' v n := let ⟨ws, a, b⟩ := h; ⟨ws, dp_same s _ _ a, b⟩
theorem Wd.go {K : PySem.W.Frag} {S D : Addr} {H H' : Hp} {v : V} {n : Nat} (d : DrawAt S D H) (g : Go S D H H') (h : Wd K H v n) : Wd K H' v n := let ⟨ws, a, b⟩ := h; ⟨ws, dp_keep (Go.keepT d g) _ _ (dWs_noL ws) a, b⟩
theorem Wd.up {K : PySem.W.Frag} {H : Hp} {v : V} {n m : Nat} (h : Wd K H v n) (l : n ≤ m) : Wd K H v m := let ⟨ws, a, b⟩ := h; ⟨ws, a, Nat.le_trans b l⟩
theorem dWs_take (ws : List (List Int)) (i j : Nat) : ((ws.map dI).drop i).take j = ((ws.drop i).take j).map dI := by rw [← List.map_drop, ← List.map_take]
theorem slW {K : PySem.W.Frag} {H : Hp} {v : V} {n : Nat} {lo hi : Option Int} {Q : VK} (h : Wd K H v n) (q : ∀ v' H', Same H H' → Wd K H' v' n → Q v' H') : rSlA K v lo hi H Q := by
  obtain ⟨ws, hd, hl⟩ := h
  obtain ⟨a, xs, rfl, ha, hx⟩ := dp_tup hd
  refine ⟨a, xs, rfl, ha, fun _ => q _ _ (Same.refl _) ⟨ws, hd, hl⟩, fun _ p hp => ?_⟩
  have s := same_new (o := .tup (cutV xs lo hi)) hp
  refine q _ _ s ⟨(ws.drop (HT.sIx xs.length 0 lo)).take (HT.sIx xs.length xs.length hi - HT.sIx xs.length 0 lo), .tup (SqT.of upd_same) ?_, ?_⟩
  · rw [← dWs_take]
    exact dpA_take _ (dpA_drop _ (dpA_same s _ _ hx))
  · rw [List.length_take, List.length_drop]
    omega
theorem catW {K : PySem.W.Frag} {H : Hp} {a b : V} {n m : Nat} {Q : VK} (ha : Wd K H a n) (hb : Wd K H b m) (hl : n + m ≤ 1000) (q : ∀ v' H', Same H H' → Wd K H' v' (n + m) → Q v' H') : rCatA K a b H Q := by
  obtain ⟨w1, d1, l1⟩ := ha
  obtain ⟨w2, d2, l2⟩ := hb
  obtain ⟨p1, xs, rfl, h1, x1⟩ := dp_tup d1
  obtain ⟨p2, ys, rfl, h2, x2⟩ := dp_tup d2
  refine catA_mono (cat_D h1 h2 x1 x2 (by rw [List.length_map, List.length_map]; omega)) fun v' H' ⟨s, hd⟩ => q _ _ s ⟨w1 ++ w2, ?_, by rw [List.length_append]; omega⟩
  unfold dWs
  rw [List.map_append]
  exact hd
theorem Wd.one {K : PySem.W.Frag} {H : Hp} {v : V} {p : Addr} {w : List Int} (h : Dp K H v (dI w)) (hp : H p = none) : Wd K (upd H p (.tup [v])) (.ref p) 1 :=
  ⟨[w], .tup (SqT.of upd_same) (.cons (dp_same (same_new hp) _ _ h) .nil), Nat.le_refl _⟩
theorem Wd.nil {K : PySem.W.Frag} {H : Hp} {p : Addr} {n : Nat} : Wd K (upd H p (.tup [])) (.ref p) n := ⟨[], .tup (SqT.of upd_same) .nil, Nat.zero_le _⟩
theorem noP {σ : L2.St} {H : Hp} {Q : Option Int → Hp → Prop} (h : Q none H) : tNoPart σ H Q := h
def RingAt (K : PySem.W.Frag) (H : Hp) (v : V) (n : Nat) : Prop := ∃ (p : Addr) (x y : V), v = .ref p ∧ SqT K H p [x, y] ∧ Wd K H x n ∧ Wd K H y n
def spBentRg (K : PySem.W.Frag) : Sp := fun vs H Q _ => ∃ (S D : Addr) (b : Int) (vw vr : V), vs = [.ref D, .int b, vw, vr] ∧ DrawAt S D H ∧ 2 ≤ b ∧ b ≤ 6 ∧ Wd K H vw 200 ∧ Wd K H vr 200 ∧ ∀ H' v, Go S D H H' → RingAt K H' v 500 → Q v H'
end Mt
namespace Mt
open PySem PySem.Spec PyProof.Rows L2
theorem nodup_lt : ∀ (n : Nat) {l : List Nat}, l.Nodup → (∀ x ∈ l, x < n) → l.length ≤ n
  | 0, l, _, h => by
    cases l with
    | nil => exact Nat.le_refl _
    | cons x r => exact absurd (h x List.mem_cons_self) (Nat.not_lt_zero x)
  | n + 1, l, nd, h => by
    have h2 := nodup_lt n (l := l.erase n) (nd.erase n) fun x hx => by
      have h3 := h x (List.mem_of_mem_erase hx)
      have : x ≠ n := fun e => by
        subst e
        exact (List.Nodup.not_mem_erase nd) hx
      omega
    by_cases k : n ∈ l
    · rw [List.length_erase_of_mem k] at h2
      omega
    · rw [List.erase_of_not_mem k] at h2
      omega
def kS (s : Nat) : L2.Key := .inl (s : Int)
theorem kS_inj {a b : Nat} (h : kS a = kS b) : a = b := by
  have := Sum.inl.inj h
  omega
/-- a dict with states as keys -/
structure KD (n : Nat) (kvs : List (L2.Key × V)) (ks : List Nat) (R : Nat → V → Prop) : Prop where
  keys : kvs.map (·.1) = ks.map kS
  nd : ks.Nodup
  lt : ∀ s ∈ ks, s < n
  val : ∀ s ∈ ks, ∃ v, valV kvs (kS s) = some v ∧ R s v
theorem KD.nil {n : Nat} {R : Nat → V → Prop} : KD n [] [] R := ⟨rfl, List.nodup_nil, fun _ h => absurd h List.not_mem_nil, fun _ h => absurd h List.not_mem_nil⟩
theorem KD.len {n : Nat} {kvs : List (L2.Key × V)} {ks : List Nat} {R : Nat → V → Prop} (h : KD n kvs ks R) : kvs.length = ks.length := by
  have := congrArg List.length h.keys
  rw [List.length_map, List.length_map] at this
  exact this
theorem KD.few {n : Nat} {kvs : List (L2.Key × V)} {ks : List Nat} {R : Nat → V → Prop} (h : KD n kvs ks R) : ks.length ≤ n := nodup_lt n h.nd h.lt
theorem KD.mono {n : Nat} {kvs : List (L2.Key × V)} {ks : List Nat} {R R' : Nat → V → Prop} (h : KD n kvs ks R) (m : ∀ s v, s ∈ ks → R s v → R' s v) : KD n kvs ks R' :=
  ⟨h.keys, h.nd, h.lt, fun s hs => let ⟨v, e, r⟩ := h.val s hs; ⟨v, e, m s v hs r⟩⟩
theorem KD.any {n : Nat} {kvs : List (L2.Key × V)} {ks : List Nat} {R : Nat → V → Prop} (h : KD n kvs ks R) (s : Nat) : (kvs.any fun kv => decide (kv.1 = kS s)) = decide (s ∈ ks) := by
  by_cases c : s ∈ ks
  · rw [decide_eq_true c]
    have : kS s ∈ kvs.map (·.1) := by
      rw [h.keys]
      exact List.mem_map.mpr ⟨s, c, rfl⟩
    obtain ⟨kv, hkv, e⟩ := List.mem_map.mp this
    exact List.any_eq_true.mpr ⟨kv, hkv, decide_eq_true e⟩
  · rw [decide_eq_false c]
    refine Bool.eq_false_iff.mpr fun z => c ?_
    obtain ⟨kv, hkv, e⟩ := List.any_eq_true.mp z
    have : kv.1 ∈ ks.map kS := by
      rw [← h.keys]
      exact List.mem_map.mpr ⟨kv, hkv, rfl⟩
    obtain ⟨a, ha, e2⟩ := List.mem_map.mp this
    rw [of_decide_eq_true e] at e2
    exact kS_inj e2 ▸ ha
theorem KD.is {n : Nat} {kvs : List (L2.Key × V)} {ks : List Nat} {R : Nat → V → Prop} (h : KD n kvs ks R) (s : Nat) : (valV kvs (kS s)).isSome = decide (s ∈ ks) := by
  rw [← h.any s, valV_any]
def addK (ks : List Nat) (s : Nat) : List Nat := if s ∈ ks then ks else ks ++ [s]
theorem mem_addK {ks : List Nat} {s x : Nat} : x ∈ addK ks s ↔ x ∈ ks ∨ x = s := by
  unfold addK
  split
  · rename_i c
    constructor
    · exact .inl
    · rintro (h | rfl)
      · exact h
      · exact c
  · rw [List.mem_append, List.mem_singleton]
theorem KD.put {n : Nat} {kvs : List (L2.Key × V)} {ks : List Nat} {R : Nat → V → Prop} (h : KD n kvs ks R) {s : Nat} {v : V} (hs : s < n) (hv : R s v) : KD n (putK kvs (kS s) v) (addK ks s) R := by
  have val : ∀ x ∈ addK ks s, ∃ u, valV (putK kvs (kS s) v) (kS x) = some u ∧ R x u := fun x hx => by
    rw [valV_put]
    by_cases c : x = s
    · subst c
      exact ⟨v, if_pos rfl, hv⟩
    · rw [if_neg fun z => c (kS_inj z)]
      exact h.val x ((mem_addK.mp hx).resolve_right c)
  have ha := h.any s
  by_cases c : s ∈ ks
  · rw [decide_eq_true c] at ha
    have e : addK ks s = ks := if_pos c
    rw [e] at val ⊢
    refine ⟨?_, h.nd, h.lt, val⟩
    unfold putK
    rw [if_pos ha, List.map_map, ← h.keys]
    refine List.map_congr_left fun kv _ => ?_
    show (if kv.1 = kS s then (kv.1, v) else kv).1 = kv.1
    split <;> rfl
  · rw [decide_eq_false c] at ha
    have e : addK ks s = ks ++ [s] := if_neg c
    rw [e] at val ⊢
    refine ⟨?_, ?_, fun x hx => ?_, val⟩
    · unfold putK
      rw [if_neg (by rw [ha]; decide), List.map_append, List.map_append, h.keys]
      rfl
    · refine List.nodup_append.mpr ⟨h.nd, List.nodup_cons.mpr ⟨List.not_mem_nil, List.nodup_nil⟩, fun a ha b hb e => ?_⟩
      rw [List.mem_singleton.mp hb] at e
      subst e
      exact c ‹_›
    · rcases List.mem_append.mp hx with k | k
      · exact h.lt x k
      · rw [List.mem_singleton.mp k]
        exact hs
theorem KD.at_ {n : Nat} {kvs : List (L2.Key × V)} {ks : List Nat} {R : Nat → V → Prop} (h : KD n kvs ks R) {i : Nat} {k : L2.Key} {v : V} (e : kvs[i]? = some (k, v)) : ∃ s, ks[i]? = some s ∧ k = kS s := by
  have h1 : (kvs.map (·.1))[i]? = some k := by rw [List.getElem?_map, e]; rfl
  rw [h.keys, List.getElem?_map] at h1
  obtain ⟨s, h2, h3⟩ := Option.map_eq_some_iff.mp h1
  exact ⟨s, h2, h3.symm⟩
theorem KD.vals {n : Nat} {kvs : List (L2.Key × V)} {ks : List Nat} {R : Nat → V → Prop} (h : KD n kvs ks R) : (kvs.map fun kv => kV kv.1) = ks.map vN := by
  have e : (kvs.map fun kv => kV kv.1) = (kvs.map (·.1)).map kV := by rw [List.map_map]; rfl
  rw [e, h.keys, List.map_map]
  rfl
/-- states that no branch leads out of -/
structure Rch (C : Chn) (ks : List Nat) : Prop where
  zero : 0 ∈ ks
  nd : ks.Nodup
  lt : ∀ s ∈ ks, s < C.length
  on : ∀ s ∈ ks, ∀ b ∈ rowOf C s, b.2.2 ∈ ks
/-- what can be come to -/
inductive RdC (C : Chn) : Nat → Prop
  | zero : RdC C 0
  | step {s : Nat} {b : Br} : RdC C s → b ∈ rowOf C s → RdC C b.2.2
def Zr (C : Chn) (ks : List Nat) : Prop := 0 ∈ ks ∧ ∀ x ∈ ks, RdC C x
def spWays (K : PySem.W.Frag) : Sp := fun vs H Q _ => ∃ (vc : V) (b : Int) (C : Chn), vs = [vc] ∧ Dp K H vc (dChn b C) ∧ ChnOk b C ∧
  ∀ (H' : Hp) (d : Addr) (kvs : List (L2.Key × V)) (ks : List Nat), Same H H' → H d = none → H' d = some (.dK kvs) → KD C.length kvs ks (fun _ v => Wd K H' v 60) → Rch C ks → (∀ s ∈ ks, RdC C s) → Q (.ref d) H'
section
variable {P : Program} {w : World} {K : PySem.W.Frag} {mg : Str → Option Value} {base : Heap}
set_option maxHeartbeats 1000000 in
theorem ok__law_ways_to (T : Txt K mg) {f : Addr} {fd : FuncData} (F : FnP K "_law_ways_to" s__law_ways_to f fd) : FnOk P w K mg base CX0 1 f fd ["chain"] (spWays K) := by
  refine F.ok sc__law_ways_to (fun vs H Q E h => ?_) (fun cdv A outer s H vs Q E hr h => ?_)
  · obtain ⟨vc, b, C, rfl, _⟩ := h
    rfl
  · obtain ⟨vc, b, C, rfl, hC, okC, q⟩ := h
    refine ⟨_, PSs.nox (pss_cons (ps_set (i := 1) sc__law_ways_to.nd rfl (Or.inl rfl) (pe_disp (pps_cons pe_int (pe_tup pa_nil) pps_nil) (by rfl) (by rfl) (fun z => by cases z) (by decide)))
      (pss_cons (ps_set (i := 2) sc__law_ways_to.nd rfl (Or.inl rfl) (pe_lst (pa_cons pe_int pa_nil)))
      (pss_cons (ps_set (i := 3) sc__law_ways_to.nd rfl (Or.inl rfl) pe_int)
      (pss_cons (ps_while PassesOwn.never (pt_cmpR op_lt (pv 3) (pe_callB call_len (by rfl) T.b_len (by decide +kernel) (pa_cons (pv 2) pa_nil)) (nomark _)) (pss_cons (ps_for PassesOwn.never rfl (pi_tup (pe_ix ix_tup (pe_ix ix_tup (pv 0) pe_int (fun _ _ => rfl)) (pe_ix ix_list (pv 2) (pv 3) (fun _ _ => rfl)) (fun _ _ => rfl))) (pg_tup rfl (pgs_cons (pg_name (i := 4) sc__law_ways_to.nd rfl (Or.inl rfl)) (pgs_cons (pg_name (i := 5) sc__law_ways_to.nd rfl (Or.inl rfl)) (pgs_cons (pg_name (i := 6) sc__law_ways_to.nd rfl (Or.inl rfl)) pgs_nil)))) (pss_one (ps_if (pt_cmp (pc_dnotin (hu_of hr) (pv 6) (pv 1))) (pss_cons (ps_asg (pe_op op_catA (pe_dget (hu_of hr) (pv 1) (pe_ix ix_list (pv 2) (pv 3) (fun _ _ => rfl)) (fun _ _ => rfl)) (pe_tup (pa_cons (pv 4) pa_nil))) (pg_sub (pv 1) (pv 6) (set_dict (hu_of hr))))
      (pss_one (ps_expr (pe_bm PySem.F.plainAttrs_list PySem.F.slot_list_append PySem.F.type_list_append mt_append (pv 2) (pa_cons (pv 6) pa_nil))))) pss_nil)))
      (pss_one (ps_aug (i := 3) sc__law_ways_to.nd rfl (Or.inl rfl) pe_int ip_add))))
      (pss_one (ps_ret (pv 1))))))), ?_⟩
    obtain ⟨pc, pq, xs, rfl, hpc, hpq, hA⟩ := chn_at hC
    have few := okC.few
    refine fun d hd => ⟨Nat.zero_le _, fun e he => ?_⟩
    have s1 := same_new (o := .dK []) hd
    have s2 := s1.trans (same_new (o := .tup []) he)
    have hd2 := same_new (o := .tup []) he _ _ (upd_same (H := H) (a := d) (o := .dK []))
    have we : Wd K (upd (upd H d (.dK [])) e (.tup [])) (.ref e) 1 := Wd.nil
    generalize upd (upd H d (.dK [])) e (.tup []) = H2 at s2 hd2 we
    refine ⟨hd2, [(kS 0, .ref e)], rfl, by show 1 ≤ 15; decide, ?_⟩
    have em : mergeK ([] : List (L2.Key × V)) [(kS 0, .ref e)] = [(kS 0, .ref e)] := rfl
    rw [em]
    have s3 := same_mut (o := .dK [(kS 0, .ref e)]) s2 hd
    have k3 := keepT_nt (o := .dK [(kS 0, .ref e)]) (nt_dk _) hd2
    have kd : KD C.length [(kS 0, V.ref e)] [0] (fun _ v => Wd K (upd H2 d (.dK [(kS 0, V.ref e)])) v 1) := by
      refine ⟨rfl, List.nodup_cons.mpr ⟨List.not_mem_nil, List.nodup_nil⟩, fun s hs => ?_, fun s hs => ⟨.ref e, ?_, ?_⟩⟩
      · rw [List.mem_singleton.mp hs]
        exact okC.pos
      · rw [List.mem_singleton.mp hs]
        rfl
      · exact let ⟨ws, h1, h2⟩ := we; ⟨ws, dp_keep k3 _ _ (dWs_noL ws) h1, h2⟩
    have hd3 := upd_same (H := H2) (a := d) (o := .dK [(kS 0, .ref e)])
    generalize upd H2 d (.dK [(kS 0, .ref e)]) = H3 at s3 kd hd3
    refine ⟨z1, fun L hL => ?_⟩
    have s4 := s3.trans (same_new (o := .lst [.int 0]) hL)
    have hd4 := same_new (o := .lst [.int 0]) hL _ _ hd3
    have hL4 := upd_same (H := H3) (a := L) (o := .lst [.int 0])
    have Ld : L ≠ d := (ne_of_none hd3 hL).symm
    have kd := kd.mono (R' := fun _ v => Wd K (upd H3 L (.lst [.int 0])) v 1) fun s v _ h => h.same (same_new hL)
    have hL0 : H L = none := s3.free hL
    generalize upd H3 L (.lst [.int 0]) = H4 at s4 hd4 hL4 kd
    refine ⟨fun mm σ H' => ∃ (y4 y5 y6 : Option V) (k : Nat) (kvs : List (L2.Key × V)) (ks : List Nat), mm = C.length - k ∧ σ = [some (.ref pc), some (.ref d), some (.ref L), some (vN k), y4, y5, y6] ∧ Same H H' ∧ H' d = some (.dK kvs) ∧ KD C.length kvs ks (fun _ v => Wd K H' v ks.length) ∧ H' L = some (.lst (ks.map vN)) ∧ Zr C ks ∧ k ≤ ks.length ∧ ∀ s ∈ ks.take k, ∀ b ∈ rowOf C s, b.2.2 ∈ ks, ⟨_, _, _, _, 0, _, [0], rfl, rfl, s4, hd4, kd, hL4, ⟨List.mem_cons_self, fun x hx => by rw [List.mem_singleton.mp hx]; exact .zero⟩, Nat.zero_le _, fun _ h => absurd h List.not_mem_nil⟩, ?_⟩
    rintro mm σ H5 ⟨y4, y5, y6, k, kvs, ks, rfl, rfl, s5, hd5, kd, hL5, z0, kl, cl⟩
    have kf := kd.few
    refine ⟨_, rfl, _, rfl, _, _, rfl, .inl ⟨_, SqL.of hL5, rfl⟩, ?_⟩
    rw [List.length_map]
    refine ⟨_, _, rfl, rfl, _, rfl, ite2 (fun hlt => ?_) (fun hge => ?_)⟩
    · have hk : k < ks.length := by
        have : (k : Int) < (ks.length : Int) := of_decide_eq_true hlt
        omega
      obtain ⟨s, hs⟩ : ∃ s, ks[k]? = some s := ⟨_, List.getElem?_eq_getElem hk⟩
      have sn := kd.lt s (List.mem_of_getElem? hs)
      obtain ⟨xr, hxr, dr⟩ := dpA_get hA (rowOf_at sn)
      obtain ⟨pr, rs, rfl, hpr, hrs⟩ := dp_tup dr
      have rl := dpA_len hrs
      rw [List.length_map] at rl
      have okr := okC.row _ (List.mem_of_getElem? (rowOf_at sn))
      have atk : atI (ks.map vN) (k : Int) = some (vN s) := atI_nat (by rw [List.getElem?_map, hs]; rfl)
      refine ⟨fun σ' H' => ∃ (y4 y5 y6 : Option V) (kvs : List (L2.Key × V)) (ks : List Nat), σ' = [some (.ref pc), some (.ref d), some (.ref L), some (vN (k + 1)), y4, y5, y6] ∧ Same H H' ∧ H' d = some (.dK kvs) ∧ KD C.length kvs ks (fun _ v => Wd K H' v ks.length) ∧ H' L = some (.lst (ks.map vN)) ∧ Zr C ks ∧ k + 1 ≤ ks.length ∧ ∀ s ∈ ks.take (k + 1), ∀ b ∈ rowOf C s, b.2.2 ∈ ks, fun σ' H' ⟨y4, y5, y6, kvs', ks', e1, e2⟩ => ⟨C.length - (k + 1), by omega, y4, y5, y6, k + 1, kvs', ks', rfl, e1, e2⟩, ?_⟩
      refine ⟨_, rfl, pc, _, _, _, rfl, rfl, same_t s5 hpc, atI_nat (j := 2) rfl, _, rfl, _, rfl, L, _, _, _, rfl, rfl, SqL.of hL5, atk, pq, _, _, _, rfl, rfl, same_t s5 hpq, atI_nat hxr, pr, rfl, ⟨_, same_t s5 hpr⟩, for_tup (K := K) (a := pr) (xs := rs) (fun j σ H' => ∃ (y4 y5 y6 : Option V) (kvs : List (L2.Key × V)) (ks' : List Nat), σ = [some (.ref pc), some (.ref d), some (.ref L), some (vN k), y4, y5, y6] ∧ Same H H' ∧ H' d = some (.dK kvs) ∧ KD C.length kvs ks' (fun _ v => Wd K H' v ks'.length) ∧ H' L = some (.lst (ks'.map vN)) ∧ Zr C ks' ∧ k + 1 ≤ ks'.length ∧ ks'.take (k + 1) = ks.take (k + 1) ∧ (∀ x ∈ ks, x ∈ ks') ∧ ∀ b ∈ (rowOf C s).take j, b.2.2 ∈ ks') ⟨_, _, _, kvs, ks, rfl, s5, hd5, kd, hL5, z0, hk, rfl, fun _ h => h, fun _ h => absurd h List.not_mem_nil⟩ (fun j σ H' _ ⟨_, _, _, _, _, _, s, _⟩ => same_t s hpr) ?_ ?_⟩
      · rintro j y σ H6 hj ⟨y4, y5, y6, kvs', ks', rfl, s6, hd6, kd6, hL6, z6, kl6, tk6, sub6, cl6⟩
        obtain ⟨br, hbr, hy⟩ := dpA_mem (dpA_same s6 _ _ hrs) hj
        obtain ⟨pb, x0, x1, rfl, hpb, hd0, hd1⟩ := br_at hy
        have tn := (okr.to br (List.mem_of_getElem? hbr)).1
        have kf6 := kd6.few
        have kv6 := kd6.len
        refine ⟨_, _, rfl, hpb, rfl, _, _, rfl, _, _, rfl, _, _, rfl, rfl, ?_⟩
        refine ⟨_, rfl, _, rfl, d, _, rfl, DGet.k (k := kS br.2.2) hd6, _, rfl, ?_⟩
        rw [kd6.is]
        by_cases c : br.2.2 ∈ ks'
        · rw [decide_eq_true c]
          refine ite2 (fun h => (nomatch (show false = true from h))) (fun _ => ?_)
          refine ⟨_, _, _, kvs', ks', rfl, s6, hd6, kd6, hL6, z6, kl6, tk6, sub6, fun b hb => ?_⟩
          rw [take_snoc hbr] at hb
          rcases List.mem_append.mp hb with h | h
          · exact cl6 b h
          · rw [List.mem_singleton.mp h]
            exact c
        · rw [decide_eq_false c]
          refine ite2 (fun _ => ?_) (fun h => absurd rfl h)
          have hs6 : ks'[k]? = some s := by
            have e1 : (ks'.take (k + 1))[k]? = ks'[k]? := List.getElem?_take_of_lt (Nat.lt_succ_self k)
            have e2 : (ks.take (k + 1))[k]? = ks[k]? := List.getElem?_take_of_lt (Nat.lt_succ_self k)
            rw [← e1, tk6, e2, hs]
          have atk6 : atI (ks'.map vN) (k : Int) = some (vN s) := atI_nat (by rw [List.getElem?_map, hs6]; rfl)
          obtain ⟨vs', ev, wv'⟩ := kd6.val s (List.mem_of_getElem? hs6)
          refine ⟨_, rfl, _, rfl, _, rfl, L, _, _, _, rfl, rfl, SqL.of hL6, atk6, d, vs', rfl, by rw [← ev]; exact DGet.k (k := kS s) hd6, _, rfl, z1, fun e he => ?_⟩
          have s7 := same_new (o := .tup [x0]) he
          have w7 := Wd.one (K := K) hd0 he
          generalize upd H6 e (.tup [x0]) = H7 at s7 w7
          refine catW (wv'.same s7) w7 (by omega) fun nv H8 s8 w8 => ?_
          have s78 := s7.trans s8
          have hd8 := s78 _ _ hd6
          have hL8 := s78 _ _ hL6
          refine ⟨_, rfl, _, rfl, d, _, rfl, DPut.k (k := kS br.2.2) hd8 (line6 (by omega)), ?_⟩
          have k8 := keepT_nt (o := .dK (putK kvs' (kS br.2.2) nv)) (nt_dk _) hd8
          have ea : addK ks' br.2.2 = ks' ++ [br.2.2] := if_neg c
          have la : (ks' ++ [br.2.2]).length = ks'.length + 1 := by rw [List.length_append]; rfl
          have kd9 : KD C.length (putK kvs' (kS br.2.2) nv) (ks' ++ [br.2.2]) (fun _ v => Wd K (upd H8 d (.dK (putK kvs' (kS br.2.2) nv))) v (ks' ++ [br.2.2]).length) := by
            rw [la, ← ea]
            have kp : ∀ {v : V} {n : Nat}, Wd K H8 v n → n ≤ ks'.length + 1 → Wd K (upd H8 d (.dK (putK kvs' (kS br.2.2) nv))) v (ks'.length + 1) := fun h hl => let ⟨ws, h1, h2⟩ := h; ⟨ws, dp_keep k8 _ _ (dWs_noL ws) h1, Nat.le_trans h2 hl⟩
            exact (kd6.mono (R' := fun _ v => Wd K (upd H8 d (.dK (putK kvs' (kS br.2.2) nv))) v (ks'.length + 1)) fun s v _ h => kp (h.same s78) (Nat.le_succ _)).put tn (kp w8 (Nat.le_refl _))
          have hL9 : upd H8 d (.dK (putK kvs' (kS br.2.2) nv)) L = some (.lst (ks'.map vN)) := by rw [upd_ne Ld]; exact hL8
          have hd9 := upd_same (H := H8) (a := d) (o := .dK (putK kvs' (kS br.2.2) nv))
          have s9 := same_mut (o := .dK (putK kvs' (kS br.2.2) nv)) (s6.trans s78) hd
          generalize upd H8 d (.dK (putK kvs' (kS br.2.2) nv)) = H9 at kd9 hL9 hd9 s9
          refine ⟨_, rfl, .inl ⟨rfl, _, SqL.of hL9⟩, _, rfl, L, _, _, rfl, rfl, hL9, by rw [List.length_map]; exact line6 (by omega), ?_⟩
          have k9 := keepT_nt (o := .lst (ks'.map vN ++ [vN br.2.2])) (nt_lst _) hL9
          refine ⟨_, _, _, putK kvs' (kS br.2.2) nv, ks' ++ [br.2.2], rfl, same_mut s9 hL0, by rw [upd_ne Ld.symm]; exact hd9, kd9.mono fun s v _ h => ?_, by rw [upd_same, List.map_append]; rfl, ⟨List.mem_append_left _ z6.1, fun x hx => (List.mem_append.mp hx).elim (z6.2 x) fun h => by rw [List.mem_singleton.mp h]; exact .step (z6.2 s (List.mem_of_getElem? hs6)) (List.mem_of_getElem? hbr)⟩, by omega, ?_, fun x hx => List.mem_append_left _ (sub6 x hx), fun b hb => ?_⟩
          · exact let ⟨ws, h1, h2⟩ := h; ⟨ws, dp_keep k9 _ _ (dWs_noL ws) h1, h2⟩
          · rw [List.take_append_of_le_length kl6, tk6]
          · rw [take_snoc hbr] at hb
            rcases List.mem_append.mp hb with h | h
            · exact List.mem_append_left _ (cl6 b h)
            · rw [List.mem_singleton.mp h]
              exact List.mem_append_right _ (List.mem_singleton.mpr rfl)
      · rintro σ H6 ⟨y4, y5, y6, kvs', ks', rfl, s6, hd6, kd6, hL6, z6, kl6, tk6, sub6, cl6⟩
        rw [rl, List.take_length] at cl6
        refine ⟨_, rfl, _, _, rfl, rfl, _, _, _, kvs', ks', rfl, s6, hd6, kd6, hL6, z6, kl6, fun x hx b hb => ?_⟩
        rw [tk6, take_snoc hs] at hx
        rcases List.mem_append.mp hx with h | h
        · exact sub6 _ (cl x h b hb)
        · rw [List.mem_singleton.mp h] at hb
          exact cl6 b hb
    · have hk : k = ks.length := by
        have : ¬ (k : Int) < (ks.length : Int) := fun h => hge (decide_eq_true h)
        omega
      rw [hk, List.take_length] at cl
      exact ⟨_, rfl, q H5 d kvs ks s5 hd hd5 (kd.mono fun s v _ h => h.up (by omega)) ⟨z0.1, kd.nd, kd.lt, cl⟩ z0.2⟩
end
end Mt
namespace Mt
open PySem PySem.Spec PyProof.Rows L2
theorem Wd.keep {K : PySem.W.Frag} {H H' : Hp} {v : V} {n : Nat} (k : KeepT H H') (h : Wd K H v n) : Wd K H' v n := let ⟨ws, a, b⟩ := h; ⟨ws, dp_keep k _ _ (dWs_noL ws) a, b⟩
/-- where the first branch leads -/
def fstT (C : Chn) (s : Nat) : Nat := ((rowOf C s)[0]?.map (·.2.2)).getD 0
def itr (C : Chn) (s : Nat) : Nat → Nat
  | 0 => s
  | i + 1 => fstT C (itr C s i)
theorem itr_add (C : Chn) (s i : Nat) : ∀ j, itr C s (i + j) = itr C (itr C s i) j
  | 0 => rfl
  | j + 1 => by
    show fstT C (itr C s (i + j)) = fstT C (itr C (itr C s i) j)
    rw [itr_add C s i j]
theorem sub_len : ∀ {l ks : List Nat}, l.Nodup → (∀ x ∈ l, x ∈ ks) → l.length ≤ ks.length
  | [], _, _, _ => Nat.zero_le _
  | a :: t, ks, nd, h => by
    obtain ⟨n1, n2⟩ := List.nodup_cons.mp nd
    have ha := h a List.mem_cons_self
    have := sub_len (ks := ks.erase a) n2 fun x hx => (List.mem_erase_of_ne fun e => n1 (by rw [← e]; exact hx)).mpr (h x (List.mem_cons_of_mem _ hx))
    rw [List.length_erase_of_mem ha] at this
    have p := List.length_pos_of_mem ha
    rw [List.length_cons]
    omega
theorem fst_in {C : Chn} {b : Int} (ok : ChnOk b C) {s : Nat} (hs : s < C.length) : ∃ br ∈ rowOf C s, fstT C s = br.2.2 := by
  have ne := (ok.row _ (List.mem_of_getElem? (rowOf_at hs))).ne
  refine ⟨(rowOf C s)[0], List.getElem_mem ne, ?_⟩
  unfold fstT
  rw [List.getElem?_eq_getElem ne]
  rfl
/-- a state comes back to itself -/
theorem comes_back {C : Chn} {b : Int} (ok : ChnOk b C) {ks : List Nat} (r : Rch C ks) : ∃ s ∈ ks, ∃ i, 1 ≤ i ∧ i ≤ ks.length ∧ itr C s i = s := by
  have inn : ∀ i, itr C 0 i ∈ ks := fun i => by
    induction i with
    | zero => exact r.zero
    | succ i ih =>
      obtain ⟨br, hb, e⟩ := fst_in ok (r.lt _ ih)
      show fstT C (itr C 0 i) ∈ ks
      rw [e]
      exact r.on _ ih br hb
  refine Classical.byContradiction fun no => ?_
  have ne : ∀ i j, i < j → j ≤ ks.length → itr C 0 i ≠ itr C 0 j := fun i j hij hj e => no ⟨itr C 0 i, inn i, j - i, by omega, by omega, by
    rw [← itr_add, show i + (j - i) = j by omega, e]⟩
  have nd : ((List.range (ks.length + 1)).map (itr C 0)).Nodup := by
    refine List.pairwise_map.mpr ((List.pairwise_lt_range).imp_of_mem fun ha hb h => ?_)
    exact ne _ _ h (by have := List.mem_range.mp hb; omega)
  have := sub_len (ks := ks) nd fun x hx => by
    obtain ⟨i, _, rfl⟩ := List.mem_map.mp hx
    exact inn i
  rw [List.length_map, List.length_range] at this
  omega
def SumR (K : PySem.W.Frag) (H : Hp) (n : Nat) (v : V) : Prop := ∃ (p : Addr) (sz : Int) (pw : V), v = .ref p ∧ SqT K H p [.int sz, pw] ∧ sz.natAbs ≤ 594 * n ∧ Wd K H pw n
theorem SumR.keep {K : PySem.W.Frag} {H H' : Hp} {v : V} {n : Nat} (k : KeepT H H') (h : SumR K H n v) : SumR K H' n v := let ⟨p, sz, pw, a, b, c, d⟩ := h; ⟨p, sz, pw, a, sqt_keep k b, c, d.keep k⟩
def BestOk (K : PySem.W.Frag) (H : Hp) (ks : List Nat) (v : V) : Prop := ∃ (p pp : Addr) (s : Nat) (pw : V) (pace : F2), v = .ref p ∧ SqT K H p [.ref pp, vN s, pw] ∧ SqT K H pp (tupV pace) ∧ Low pace ∧ Sz 16 pace ∧ s ∈ ks ∧ Wd K H pw 60
theorem BestOk.keep {K : PySem.W.Frag} {H H' : Hp} {v : V} {ks : List Nat} (k : KeepT H H') (h : BestOk K H ks v) : BestOk K H' ks v := let ⟨p, pp, s, pw, pace, a, b, c, d, e, f, g⟩ := h; ⟨p, pp, s, pw, pace, a, sqt_keep k b, sqt_keep k c, d, e, f, g.keep k⟩
def BB (K : PySem.W.Frag) (H : Hp) (ks : List Nat) (v : V) (P : Prop) : Prop := (v = .non ∧ P) ∨ BestOk K H ks v
theorem BB.keep {K : PySem.W.Frag} {H H' : Hp} {v : V} {ks : List Nat} {P : Prop} (k : KeepT H H') (h : BB K H ks v P) : BB K H' ks v P := h.imp id (·.keep k)
theorem BB.mono {K : PySem.W.Frag} {H : Hp} {v : V} {ks : List Nat} {P P' : Prop} (h : BB K H ks v P) (m : P → P') : BB K H ks v P' := h.imp (fun a => ⟨a.1, m a.2⟩) id
def spBest (K : PySem.W.Frag) : Sp := fun vs H Q _ => ∃ (vc vw : V) (Ls : Addr) (b : Int) (C : Chn) (W : List (Str × Int)) (ks : List Nat), vs = [vc, vw, .ref Ls] ∧ Dp K H vc (dChn b C) ∧ ChnOk b C ∧ WAtS K H vw W ∧ (W.map (·.1)).Nodup ∧ W.length ≤ 1000 ∧ (∀ e ∈ W, e.2.natAbs ≤ 99) ∧ H Ls = some (.lst (ks.map vN)) ∧ Rch C ks ∧
  ∀ H' v, Same H H' → BestOk K H' ks v → Q v H'
theorem unfrz {H H' : Hp} {d : Addr} {u f : HO} (h : H d = some u) (s : Same (upd H d f) H') : Same H (upd H' d u) := fun b x e => by
  by_cases c : b = d
  · subst c
    rw [h] at e
    rw [upd_same, ← e]
  · rw [upd_ne c]
    exact s b x (by rw [upd_ne c]; exact e)
theorem keepT_frz {H : Hp} {L : Addr} {o : HO} {od : Obj} {kvs : List (L2.Key × V)} (h : H L = some (.frz od (.dK kvs))) : KeepT H (upd H L o) := fun p xs r => by
  have ne : p ≠ L := fun e => by
    subst e
    rcases r with r | ⟨o', r⟩ <;> rw [h] at r <;> cases r
  rcases r with r | ⟨o', r⟩
  · exact .inl (by rw [upd_ne ne]; exact r)
  · exact .inr ⟨o', by rw [upd_ne ne]; exact r⟩
theorem same_upd2 {H : Hp} {d e : Addr} {u f : HO} (h : H e = none) : Same (upd H d f) (upd (upd H e u) d f) := fun b x q => by
  by_cases c : b = d
  · subst c
    rw [upd_same] at q ⊢
    exact q
  · rw [upd_ne c] at q ⊢
    rw [upd_ne (ne_of_none q h)]
    exact q
end Mt
namespace Mt
open PySem PySem.Spec PyProof.Rows L2
/-! ### walks with worths, from a state on: a row of branches -/
abbrev Gr : Type := Nat → List (Int × Nat)
def wEnd (u : Nat) : List (Int × Nat) → Nat
  | [] => u
  | e :: r => wEnd e.2 r
def wSum (p : List (Int × Nat)) : Int := (p.map (·.1)).sum
def WOk (G : Gr) (u : Nat) : List (Int × Nat) → Prop
  | [] => True
  | e :: r => e ∈ G u ∧ WOk G e.2 r
theorem wEnd_app : ∀ (p q : List (Int × Nat)) (u : Nat), wEnd u (p ++ q) = wEnd (wEnd u p) q
  | [], _, _ => rfl
  | e :: r, q, _ => wEnd_app r q e.2
theorem WOk_app {G : Gr} : ∀ (p q : List (Int × Nat)) (u : Nat), WOk G u (p ++ q) ↔ WOk G u p ∧ WOk G (wEnd u p) q
  | [], _, _ => ⟨fun h => ⟨trivial, h⟩, fun h => h.2⟩
  | e :: r, q, u => by
    have ih := WOk_app (G := G) r q e.2
    constructor
    · rintro ⟨h1, h2⟩
      exact ⟨⟨h1, (ih.mp h2).1⟩, (ih.mp h2).2⟩
    · rintro ⟨⟨h1, h2⟩, h3⟩
      exact ⟨h1, ih.mpr ⟨h2, h3⟩⟩
theorem wSum_app (p q : List (Int × Nat)) : wSum (p ++ q) = wSum p + wSum q := by
  unfold wSum
  rw [List.map_append, List.sum_append]
/-- states that the branches don't leave -/
structure Clo (G : Gr) (ks : List Nat) : Prop where
  on : ∀ s ∈ ks, ∀ e ∈ G s, e.2 ∈ ks
theorem Clo.walk {G : Gr} {ks : List Nat} (c : Clo G ks) : ∀ {p : List (Int × Nat)} {u : Nat}, u ∈ ks → WOk G u p → wEnd u p ∈ ks
  | [], _, h, _ => h
  | e :: r, u, h, o => c.walk (p := r) (u := e.2) (c.on u h e o.1) o.2
/-- a long walk goes round -/
theorem goes_round {G : Gr} {ks : List Nat} (c : Clo G ks) {u : Nat} {p : List (Int × Nat)} (hu : u ∈ ks) (ok : WOk G u p) (hl : ks.length ≤ p.length) :
    ∃ (q r : List (Int × Nat)) (v : Nat), WOk G u q ∧ wEnd u q = wEnd u p ∧ 1 ≤ r.length ∧ q.length + r.length = p.length ∧ wSum q + wSum r = wSum p ∧ v ∈ ks ∧ WOk G v r ∧ wEnd v r = v := by
  have cutp : ∀ i, WOk G u (p.take i) ∧ WOk G (wEnd u (p.take i)) (p.drop i) := fun i => (WOk_app _ _ _).mp (by rw [List.take_append_drop]; exact ok)
  refine Classical.byContradiction fun no => ?_
  have ne : ∀ i j, i < j → j ≤ p.length → wEnd u (p.take i) ≠ wEnd u (p.take j) := fun i j hij hj e => no ?_
  · have nd : ((List.range (p.length + 1)).map fun i => wEnd u (p.take i)).Nodup := by
      refine List.pairwise_map.mpr ((List.pairwise_lt_range).imp_of_mem fun ha hb h => ?_)
      exact ne _ _ h (by have := List.mem_range.mp hb; omega)
    have := sub_len (ks := ks) nd fun x hx => by
      obtain ⟨i, _, rfl⟩ := List.mem_map.mp hx
      exact c.walk hu (cutp i).1
    rw [List.length_map, List.length_range] at this
    omega
  · have e1 : p.take j = p.take i ++ (p.take j).drop i := by
      have := (List.take_append_drop i (p.take j)).symm
      rwa [List.take_take, Nat.min_eq_left (by omega)] at this
    have o1 : WOk G (wEnd u (p.take i)) ((p.take j).drop i) := ((WOk_app _ _ _).mp (e1 ▸ (cutp j).1)).2
    have e2 : wEnd (wEnd u (p.take i)) ((p.take j).drop i) = wEnd u (p.take j) := by rw [← wEnd_app, ← e1]
    have s1 : wSum (p.take i) + wSum ((p.take j).drop i) = wSum (p.take j) := by rw [← wSum_app, ← e1]
    have s2 : wSum (p.take j) + wSum (p.drop j) = wSum p := by rw [← wSum_app, List.take_append_drop]
    refine ⟨p.take i ++ p.drop j, (p.take j).drop i, wEnd u (p.take i), (WOk_app _ _ _).mpr ⟨(cutp i).1, by rw [e]; exact (cutp j).2⟩, ?_, ?_, ?_, ?_, c.walk hu (cutp i).1, o1, by rw [e2, ← e]⟩
    · rw [wEnd_app, e, ← wEnd_app, List.take_append_drop]
    · rw [List.length_drop, List.length_take]
      omega
    · rw [List.length_append, List.length_take, List.length_drop, List.length_drop, List.length_take]
      omega
    · rw [wSum_app]
      omega
/-- worth above the pace a / b -/
def spr (a b : Int) (p : List (Int × Nat)) : Int := b * wSum p - a * (p.length : Int)
theorem spr_app (a b : Int) (p q : List (Int × Nat)) : spr a b (p ++ q) = spr a b p + spr a b q := by
  unfold spr
  rw [wSum_app, List.length_append]
  grind
/-- no way round has more than the pace -/
def NoMore (G : Gr) (ks : List Nat) (a b : Int) : Prop := ∀ v ∈ ks, ∀ r, WOk G v r → wEnd v r = v → 1 ≤ r.length → spr a b r ≤ 0
theorem no_more {G : Gr} {ks : List Nat} (c : Clo G ks) {a b : Int} (h : ∀ v ∈ ks, ∀ r, WOk G v r → wEnd v r = v → 1 ≤ r.length → r.length ≤ ks.length → spr a b r ≤ 0) : NoMore G ks a b := by
  have key : ∀ m, ∀ v ∈ ks, ∀ r : List (Int × Nat), r.length ≤ m → WOk G v r → wEnd v r = v → 1 ≤ r.length → spr a b r ≤ 0 := fun m => by
    induction m with
    | zero => exact fun v _ r h1 _ _ h2 => by omega
    | succ m ih =>
      intro v hv r hm ok e l1
      by_cases hs : r.length ≤ ks.length
      · exact h v hv r ok e l1 hs
      · have okc := (WOk_app (r.take ks.length) (r.drop ks.length) v).mp (by rw [List.take_append_drop]; exact ok)
        have tl : (r.take ks.length).length = ks.length := by rw [List.length_take]; omega
        obtain ⟨q, x, y, hq1, hq2, hx1, hl, hs', hy, hx2, hx3⟩ := goes_round c hv okc.1 (by omega)
        have kp : 0 < ks.length := List.length_pos_of_mem hv
        have er : spr a b r = spr a b (r.take ks.length) + spr a b (r.drop ks.length) := by rw [← spr_app, List.take_append_drop]
        have et : spr a b (r.take ks.length) = spr a b q + spr a b x := by
          unfold spr
          rw [← hs', ← hl, Int.natCast_add]
          grind
        have sx := ih y hy x (by omega) hx2 hx3 hx1
        have dl : (r.drop ks.length).length = r.length - ks.length := List.length_drop
        have sq := ih v hv (q ++ r.drop ks.length) (by rw [List.length_append]; omega) ((WOk_app _ _ _).mpr ⟨hq1, by rw [hq2]; exact okc.2⟩) (by rw [wEnd_app, hq2, ← wEnd_app, List.take_append_drop, e]) (by rw [List.length_append]; omega)
        rw [spr_app] at sq
        omega
  exact fun v hv r ok e l => key r.length v hv r (Nat.le_refl _) ok e l
/-- a walk made short, without a loss -/
theorem short {G : Gr} {ks : List Nat} (c : Clo G ks) {a b : Int} (nm : NoMore G ks a b) : ∀ (m : Nat) {u : Nat} {p : List (Int × Nat)}, p.length ≤ m → u ∈ ks → WOk G u p → ∃ q, WOk G u q ∧ wEnd u q = wEnd u p ∧ q.length < ks.length ∧ spr a b p ≤ spr a b q
  | 0, u, p, hm, hu, ok => ⟨p, ok, rfl, by have := List.length_pos_of_mem hu; omega, Int.le_refl _⟩
  | m + 1, u, p, hm, hu, ok => by
    by_cases hs : p.length < ks.length
    · exact ⟨p, ok, rfl, hs, Int.le_refl _⟩
    · obtain ⟨q, r, v, h1, h2, h3, h4, h5, h6, h7, h8⟩ := goes_round c hu ok (by omega)
      obtain ⟨q', g1, g2, g3, g4⟩ := short c nm m (p := q) (by omega) hu h1
      have e : spr a b p = spr a b q + spr a b r := by
        unfold spr
        rw [← h5, ← h4, Int.natCast_add]
        grind
      have := nm v h6 r h7 h8 h3
      exact ⟨q', g1, g2.trans h2, g3, by omega⟩
/-- a set of integers with a bound has a greatest one -/
theorem int_max {P : Int → Prop} {B : Int} (hB : ∀ x, P x → x ≤ B) : ∀ (n : Nat) {x0 : Int}, P x0 → B - x0 ≤ (n : Int) → ∃ x, P x ∧ ∀ y, P y → y ≤ x
  | 0, x0, h, hn => ⟨x0, h, fun y hy => by have := hB y hy; omega⟩
  | n + 1, x0, h, hn => by
    by_cases k : ∃ y, P y ∧ x0 < y
    · obtain ⟨y, hy, l⟩ := k
      exact int_max hB n hy (by omega)
    · exact ⟨x0, h, fun y hy => Int.not_lt.mp fun l => k ⟨y, hy, l⟩⟩
/-- from each state on, to each state, a best walk -/
theorem best_to {G : Gr} {ks : List Nat} (c : Clo G ks) {a b Wm : Int} (nm : NoMore G ks a b) (hW : ∀ s ∈ ks, ∀ e ∈ G s, spr a b [e] ≤ Wm) (w0 : 0 ≤ Wm) {u : Nat} (hu : u ∈ ks) {p : List (Int × Nat)} (ok : WOk G u p) :
    ∃ q, WOk G u q ∧ wEnd u q = wEnd u p ∧ q.length < ks.length ∧ ∀ r, WOk G u r → wEnd u r = wEnd u p → spr a b r ≤ spr a b q := by
  have bd : ∀ (r : List (Int × Nat)) (v : Nat), v ∈ ks → WOk G v r → spr a b r ≤ Wm * (r.length : Int) := fun r => by
    induction r with
    | nil =>
      intro v _ _
      show b * 0 - a * 0 ≤ Wm * 0
      simp
    | cons e r ih =>
      intro v hv o
      have h1 := hW v hv e o.1
      have h2 := ih e.2 (c.on v hv e o.1) o.2
      have h3 : spr a b (e :: r) = spr a b [e] + spr a b r := spr_app a b [e] r
      rw [h3, List.length_cons, Int.natCast_add]
      grind
  have bnd : ∀ x, (∃ r, WOk G u r ∧ wEnd u r = wEnd u p ∧ spr a b r = x) → x ≤ Wm * (ks.length : Int) := fun x ⟨r, h1, h2, h3⟩ => by
    obtain ⟨q, g1, g2, g3, g4⟩ := short c nm r.length (Nat.le_refl _) hu h1
    have h5 := bd q u hu g1
    have h6 : Wm * (q.length : Int) ≤ Wm * (ks.length : Int) := Int.mul_le_mul_of_nonneg_left (by omega) w0
    omega
  obtain ⟨x, ⟨r, h1, h2, h3⟩, mx⟩ := int_max bnd (Wm * (ks.length : Int) - spr a b p).toNat ⟨p, ok, rfl, rfl⟩ (by omega)
  obtain ⟨q, g1, g2, g3, g4⟩ := short c nm r.length (Nat.le_refl _) hu h1
  exact ⟨q, g1, g2.trans h2, g3, fun r' o e => by
    have := mx _ ⟨r', o, e, rfl⟩
    omega⟩
/-- a walk of just so many, and a lesser one that has no less -/
theorem karp_le {G : Gr} {ks : List Nat} (c : Clo G ks) {a b : Int} (nm : NoMore G ks a b) {u : Nat} (hu : u ∈ ks) {p : List (Int × Nat)} (ok : WOk G u p) (hl : p.length = ks.length) :
    ∃ q, WOk G u q ∧ wEnd u q = wEnd u p ∧ q.length < ks.length ∧ spr a b p ≤ spr a b q := short c nm p.length (Nat.le_refl _) hu ok
def rounds (r : List (Int × Nat)) : Nat → List (Int × Nat)
  | 0 => []
  | n + 1 => r ++ rounds r n
theorem rounds_ok {G : Gr} {v : Nat} {r : List (Int × Nat)} (ok : WOk G v r) (e : wEnd v r = v) : ∀ n, WOk G v (rounds r n) ∧ wEnd v (rounds r n) = v
  | 0 => ⟨trivial, rfl⟩
  | n + 1 => by
    have ih := rounds_ok ok e n
    exact ⟨(WOk_app _ _ _).mpr ⟨ok, by rw [e]; exact ih.1⟩, by show wEnd v (r ++ rounds r n) = v; rw [wEnd_app, e, ih.2]⟩
theorem rounds_spr {a b : Int} {r : List (Int × Nat)} (z : spr a b r = 0) : ∀ n, spr a b (rounds r n) = 0
  | 0 => by
    show b * 0 - a * 0 = 0
    simp
  | n + 1 => by
    show spr a b (r ++ rounds r n) = 0
    rw [spr_app, z, rounds_spr z n]
    rfl
theorem rounds_len {r : List (Int × Nat)} (h : 1 ≤ r.length) : ∀ n, n ≤ (rounds r n).length
  | 0 => Nat.zero_le _
  | n + 1 => by
    show n + 1 ≤ (r ++ rounds r n).length
    rw [List.length_append]
    have := rounds_len h n
    omega
/-- with a way round that has the pace there is a walk of just so many that no walk to the same state beats -/
theorem karp_ge {G : Gr} {ks : List Nat} (c : Clo G ks) {a b Wm : Int} (nm : NoMore G ks a b) (hW : ∀ s ∈ ks, ∀ e ∈ G s, spr a b [e] ≤ Wm) (w0 : 0 ≤ Wm) {u v : Nat} (hu : u ∈ ks) {p r : List (Int × Nat)} (ok : WOk G u p) (ep : wEnd u p = v) (okr : WOk G v r) (er : wEnd v r = v) (rl : 1 ≤ r.length) (rz : spr a b r = 0) :
    ∃ q, WOk G u q ∧ q.length = ks.length ∧ ∀ r, WOk G u r → wEnd u r = wEnd u q → spr a b r ≤ spr a b q := by
  obtain ⟨q, g1, g2, g3, g4⟩ := best_to c nm hW w0 hu ok
  rw [ep] at g2 g4
  have R := rounds_ok okr er ks.length
  have Rz := rounds_spr rz ks.length
  have Rl := rounds_len rl ks.length
  generalize rounds r ks.length = R' at R Rz Rl
  have cut := (WOk_app (R'.take (ks.length - q.length)) (R'.drop (ks.length - q.length)) v).mp (by rw [List.take_append_drop]; exact R.1)
  have es : spr a b (R'.take (ks.length - q.length)) + spr a b (R'.drop (ks.length - q.length)) = 0 := by rw [← spr_app, List.take_append_drop, Rz]
  have tl : (R'.take (ks.length - q.length)).length = ks.length - q.length := by rw [List.length_take]; omega
  refine ⟨q ++ R'.take (ks.length - q.length), (WOk_app _ _ _).mpr ⟨g1, by rw [g2]; exact cut.1⟩, by rw [List.length_append, tl]; omega, fun r' o e => ?_⟩
  rw [wEnd_app, g2] at e
  have back := g4 (r' ++ R'.drop (ks.length - q.length)) ((WOk_app _ _ _).mpr ⟨o, by rw [e]; exact cut.2⟩) (by rw [wEnd_app, e, ← wEnd_app, List.take_append_drop, R.2])
  rw [spr_app] at back ⊢
  omega
end Mt
namespace Mt
open PySem PySem.Spec PyProof.Rows L2
section
variable {P : Program} {w : World} {K : PySem.W.Frag} {mg : Str → Option Value} {base : Heap}
theorem ok__law_is_int (T : Txt K mg) {f : Addr} {fd : FuncData} (F : FnP K "_law_is_int" s__law_is_int f fd) : FnOk P w K mg base CX0 1 f fd ["thing"] spIsInt := by
  refine F.ok sc__law_is_int (fun vs H Q E h => ?_) (fun cdv A outer s H vs Q E hr h => ?_)
  · obtain ⟨p, rfl, _⟩ := h
    rfl
  · obtain ⟨i, rfl, q⟩ := h
    refine ⟨_, PSs.nox (pss_one (ps_ret (pe_and (pe_callB call_isi (by rfl) T.b_isinstance (by decide +kernel) (pa_cons (pv 0) (pa_cons (pe_bltn (v := .ty "int") (u := .type "int") (by rfl) T.b_int (by decide +kernel) rfl) pa_nil))) (pe_one (pe_not (pe_callB call_isi (by rfl) T.b_isinstance (by decide +kernel) (pa_cons (pv 0) (pa_cons (pe_bltn (v := .ty "bool") (u := .type "bool") (by rfl) T.b_bool (by decide +kernel) rfl) pa_nil)))))))), ?_⟩
    refine ⟨_, rfl, _, .ty "int", .type "int", .type "int", true, rfl, .ty _, .base (.int _), kit_ty (by decide +kernel), true, rfl, ?_⟩
    exact ⟨_, rfl, _, .ty "bool", .type "int", .type "bool", false, rfl, .ty _, .base (.int _), kit_ty (by decide +kernel), false, rfl, q⟩
theorem ok__law_is_ints (T : Txt K mg) (D__law_is_int : Kept P w K mg base 1 "_law_is_int" ["thing"] spIsInt) {f : Addr} {fd : FuncData} (F : FnP K "_law_is_ints" s__law_is_ints f fd) : FnOk P w K mg base CX0 2 f fd ["row"] (spIsInts K) := by
  refine F.ok sc__law_is_ints (fun vs H Q E h => ?_) (fun cdv A outer s H vs Q E hr h => ?_)
  · obtain ⟨p, ns, rfl, _⟩ := h
    rfl
  · obtain ⟨p, ns, rfl, hp, hl, q⟩ := h
    refine ⟨_, PSs.nox (pss_one (ps_ret (pe_and (pe_callB call_isi (by rfl) T.b_isinstance (by decide +kernel) (pa_cons (pv 0) (pa_cons (pe_bltn (v := .ty "tuple") (u := .type "tuple") (by rfl) T.b_tuple (by decide +kernel) rfl) pa_nil))) (pe_one (pe_callB (cr_all rfl) (by rfl) T.b_all (by decide +kernel) (pa_cons (pe_lc (own := [("part", 1)]) (g := (gName 1)) (tt := tYes) rfl sc__law_is_ints.nd (pi_tup (pv 0)) (blkOk_by (N := N__law_is_ints) (sc := defScope s__law_is_ints) (by decide +kernel)) (fun _ _ _ _ _ => (pg_name (i := 1) sc__law_is_ints.nd rfl (Or.inl rfl))) (fun _ _ _ _ _ => pts_nil) (fun _ _ _ _ _ => (pe_d D__law_is_int (hr.mono (by decide)) (by rfl) (pa_cons (pv 1) pa_nil)))) pa_nil)))))), ?_⟩
    refine ⟨_, rfl, _, .ty "tuple", .type "tuple", .type "tuple", true, rfl, .ty _, sqt_ty hp, kit_ty (by decide +kernel), true, rfl, ?_⟩
    refine ⟨_, rfl, p, rfl, ⟨_, hp⟩, fun L hL => lc_tup (K := K) (a := p) (xs := ns.map V.int) (fun i H' => H' = upd H L (.lst ((ns.take i).map fun _ => .bl true))) rfl (fun i H' _ e => ?_) ?_ ?_⟩
    · subst e
      exact same_t (same_new hL) hp
    · rintro i x H1 hi rfl
      obtain ⟨z, rfl, hz⟩ := getV hi
      refine ⟨rfl, _, rfl, z, rfl, _, upd_same, ?_, ?_⟩
      · rw [List.length_map, List.length_take]
        exact Nat.lt_of_le_of_lt (Nat.min_le_right _ _) (small1000 (by omega))
      · rw [upd_upd, take_map_succ (f := fun _ => V.bl true) hz]
    · rintro H' rfl
      rw [List.take_of_length_le (by rw [List.length_map]; exact Nat.le_refl _)]
      refine ⟨L, ns.map fun _ => true, rfl, SqL.of (by rw [upd_same, List.map_map]; rfl), ?_⟩
      rw [all_true]
      exact q _ (same_new hL)
end
end Mt
namespace Mt
open PySem PySem.Spec PyProof.Rows L2
section
variable {P : Program} {w : World} {K : PySem.W.Frag} {mg : Str → Option Value} {base : Heap}
theorem ok_branch_at (T : Txt K mg) {f : Addr} {fd : FuncData} (F : FnP K "branch_at" s_branch_at f fd) : FnOk P w K mg base CX0 1 f fd ["row", "tape", "at"] (spBranch K) := by
  refine F.ok sc_branch_at (fun vs H Q E h => ?_) (fun cdv A outer s H vs Q E hr h => ?_)
  · obtain ⟨vr, vt, k, r, tape, b, rfl, _⟩ := h
    rfl
  · obtain ⟨vr, vt, k, r, tape, b, rfl, hR, hs, hrl, ht, hk, hl, hnx, q⟩ := h
    refine ⟨_, PSs.nox (pss_cons (ps_for PassesOwn.never rfl (pi_tup (pv 0)) (pg_name (i := 3) sc_branch_at.nd rfl (Or.inl rfl)) (pss_one (ps_if (pt_cmpR (op_eqD (hr.units)) (pe_slice sl_tupA (pv 1) (po_some (pv 2)) (po_some (pe_op op_add (pv 2) (pe_callB call_len (by rfl) T.b_len (by decide +kernel) (pa_cons (pe_ix ix_tup (pv 3) pe_int (fun _ _ => rfl)) pa_nil))))) (pe_ix ix_tup (pv 3) pe_int (fun _ _ => rfl)) (nomark _)) (pss_one (ps_ret (pv 3))) pss_nil)))
      (pss_one ps_never)), ?_⟩
    obtain ⟨pr, rs, rfl, hpr, hrs⟩ := dp_tup hR
    have rl := dpA_len hrs
    rw [List.length_map] at rl
    obtain ⟨pt, rfl, hpt⟩ := i_at ht
    refine ⟨_, rfl, pr, rfl, ⟨_, hpr⟩, for_tup (K := K) (a := pr) (xs := rs) (fun i σ H' => ∃ y3 : Option V, σ = [some (.ref pr), some (.ref pt), some (.int k), y3] ∧ Same H H' ∧ (r.drop i).find? (fits (tape.drop k)) = some b) ⟨_, rfl, Same.refl _, hnx⟩ (fun i σ H' _ ⟨_, _, s, _⟩ => same_t s hpr) ?_ ?_⟩
    · rintro i x σ H1 hi ⟨y3, rfl, s1, hno⟩
      obtain ⟨br, hbr, hx⟩ := dpA_mem (dpA_same s1 _ _ hrs) hi
      obtain ⟨pb, x0, x1, rfl, hpb, hd0, hd1⟩ := br_at hx
      obtain ⟨p0, rfl, hp0⟩ := i_at hd0
      have il := (List.getElem?_eq_some_iff.mp hbr).1
      have ec := cut_any (l := tape) (k := k) (m := br.1.length) hk
      have hdr : r.drop i = br :: r.drop (i + 1) := by
        rw [List.drop_eq_getElem_cons il]
        congr 1
        rw [List.getElem?_eq_getElem il] at hbr
        exact Option.some.inj hbr
      rw [hdr] at hno
      have fin : ∀ (H2 : Hp) (p : Addr), Same H1 H2 → SqT K H2 p (((tape.drop k).take br.1.length).map V.int) → ∃ d e, Dp K H2 (.ref p) d ∧ Dp K H2 (.ref p0) e ∧ SeqAt.shaped d = true ∧ SeqAt.shaped e = true ∧ PyData.eqv d e = fits (tape.drop k) br := fun H2 p s2 hp =>
        ⟨_, _, i_of hp, dp_same s2 _ _ hd0, dI_sh _, dI_sh _, eqv_I _ _⟩
      have found : fits (tape.drop k) br = true → br = b := fun h => by
        rw [List.find?_cons_of_pos h] at hno
        exact Option.some.inj hno
      have on : ¬ fits (tape.drop k) br = true → (r.drop (i + 1)).find? (fits (tape.drop k)) = some b := fun h => by
        rw [List.find?_cons_of_neg h] at hno
        exact hno
      refine ⟨_, rfl, _, rfl, _, rfl, _, rfl, _, rfl, pb, _, _, _, rfl, rfl, hpb, atI_nat (j := 0) rfl, _, _, rfl, .inr ⟨_, hp0, rfl⟩, _, _, rfl, rfl, _, rfl, pt, _, rfl, same_t s1 hpt, fun hwh => ?_, fun _ p hp => ?_⟩
      · rw [HT.sIx_nat, List.length_map, ← Int.natCast_add, HT.sIx_nat, List.length_map] at hwh
        have e1 : (tape.drop k).take br.1.length = tape := by
          by_cases k0 : k = 0
          · rw [k0, List.drop_zero]
            exact List.take_of_length_le (by omega)
          · have : tape = [] := List.length_eq_zero_iff.mp (by omega)
            rw [this]
            simp
        obtain ⟨d, e, f1, f2, f3, f4, f5⟩ := fin _ pt (Same.refl _) (by rw [e1]; exact same_t s1 hpt)
        refine ⟨_, rfl, pb, _, _, _, rfl, rfl, hpb, atI_nat (j := 0) rfl, d, e, f1, f2, f3, f4, _, rfl, ?_⟩
        rw [f5]
        exact ite2 (fun h => ⟨_, rfl, q _ _ s1 (found h ▸ hx)⟩) (fun hne => ⟨_, rfl, s1, on hne⟩)
      · rw [List.length_map, ec]
        have s2 := same_new (o := .tup (((tape.drop k).take br.1.length).map V.int)) hp
        obtain ⟨d, e, f1, f2, f3, f4, f5⟩ := fin _ p s2 (SqT.of upd_same)
        refine ⟨_, rfl, pb, _, _, _, rfl, rfl, same_t s2 hpb, atI_nat (j := 0) rfl, d, e, f1, f2, f3, f4, _, rfl, ?_⟩
        rw [f5]
        exact ite2 (fun h => ⟨_, rfl, q _ _ (s1.trans s2) (found h ▸ dp_same s2 _ _ hx)⟩) (fun hne => ⟨_, rfl, s1.trans s2, on hne⟩)
    · rintro σ H1 ⟨y3, rfl, s1, hno⟩
      rw [rl, List.drop_length] at hno
      cases hno
theorem ok_walk (T : Txt K mg) (D_branch_at : Kept P w K mg base 1 "branch_at" ["row", "tape", "at"] (spBranch K)) {f : Addr} {fd : FuncData} (F : FnP K "walk" s_walk f fd) : FnOk P w K mg base CX0 2 f fd ["chain", "tape", "ticks"] (spWalk K) := by
  refine F.ok sc_walk (fun vs H Q E h => ?_) (fun cdv A outer s H vs Q E hr h => ?_)
  · obtain ⟨vc, vt, n, b, C, tape, w, rfl, _⟩ := h
    rfl
  · obtain ⟨vc, vt, n, b, C, tape, w, rfl, hC, ok, ht, hn, hl, hw, q⟩ := h
    refine ⟨_, PSs.nox (pss_cons (ps_set (i := 3) sc_walk.nd rfl (Or.inl rfl) (pe_ix ix_tup (pv 0) pe_int (fun _ _ => rfl)))
      (pss_cons (ps_set (i := 4) sc_walk.nd rfl (Or.inl rfl) pe_int)
      (pss_cons (ps_set (i := 5) sc_walk.nd rfl (Or.inl rfl) pe_int)
      (pss_cons (ps_set (i := 6) sc_walk.nd rfl (Or.inl rfl) (pe_lst pa_nil))
      (pss_cons (ps_for PassesOwn.never rfl (pi_range1 (by rfl) T.b_range (pa_cons (pv 2) pa_nil)) (pg_name (i := 7) sc_walk.nd rfl (Or.inl rfl)) (pss_cons (ps_asg (pe_d D_branch_at (hr.mono (by decide)) (by rfl) (pa_cons (pe_ix ix_tup (pv 3) (pv 4) (fun _ _ => rfl)) (pa_cons (pv 1) (pa_cons (pv 5) pa_nil)))) (pg_tup rfl (pgs_cons (pg_name (i := 8) sc_walk.nd rfl (Or.inl rfl)) (pgs_cons (pg_name (i := 9) sc_walk.nd rfl (Or.inl rfl)) (pgs_cons (pg_name (i := 4) sc_walk.nd rfl (Or.inl rfl)) pgs_nil)))))
      (pss_cons (ps_expr (pe_bm PySem.F.plainAttrs_list PySem.F.slot_list_append PySem.F.type_list_append mt_append (pv 6) (pa_cons (pv 9) pa_nil)))
      (pss_one (ps_aug (i := 5) sc_walk.nd rfl (Or.inl rfl) (pe_callB call_len (by rfl) T.b_len (by decide +kernel) (pa_cons (pv 8) pa_nil)) ip_add)))))
      (pss_one (ps_ret (pe_tup (pa_cons (pe_callTy call_tuple_of (by rfl) T.b_tuple (by decide +kernel) (pa_cons (pv 6) pa_nil)) (pa_cons (pv 4) (pa_cons (pv 5) pa_nil))))))))))), ?_⟩
    obtain ⟨pc, pq, xs, rfl, hpc, hpq, hA⟩ := chn_at hC
    have xl := dpA_len hA
    rw [List.length_map] at xl
    refine ⟨_, rfl, pc, _, _, _, rfl, rfl, hpc, atI_nat (j := 2) rfl, Nat.zero_le _, fun L hL => ?_⟩
    have s1 := same_new (o := .lst []) hL
    have hL1 := upd_same (H := H) (a := L) (o := .lst [])
    generalize upd H L (.lst []) = H1 at s1 hL1
    refine ⟨_, rfl, _, rfl, by omega, by omega, for_range (lo := 0) (n := n) (fun i σ H' => ∃ (x : List (List Str) × Nat × Nat) (y7 y8 y9 : Option V) (zs : List V), σ = [some (.ref pc), some vt, some (.int n), some (.ref pq), some (.int x.2.1), some (.int x.2.2), some (.ref L), y7, y8, y9] ∧ Same H H' ∧ H' L = some (.lst zs) ∧ DpAll K H' zs (x.1.map dSh) ∧ wk C tape i = some x) ⟨([], 0, 0), _, _, _, [], rfl, s1, hL1, .nil, rfl⟩ ?_ ?_⟩
    · rintro i σ H2 hi ⟨x, y7, y8, y9, zs, rfl, s2, hL2, hzs, hx⟩
      obtain ⟨xl1, hst, hrd⟩ := wk_ok ok i x hx
      obtain ⟨x', hx'⟩ := wk_pre hw (i + 1) hi
      obtain ⟨x2, hx2, hb⟩ := Option.bind_eq_some_iff.mp hx'
      rw [hx] at hx2
      obtain rfl := Option.some.inj hx2
      obtain ⟨br, hnb, hx3⟩ := Option.map_eq_some_iff.mp hb
      obtain ⟨xr, hxr, hdr⟩ := dpA_get hA (rowOf_at hst)
      have okr := ok.row _ (List.mem_of_getElem? (rowOf_at hst))
      have zl := dpA_len hzs
      rw [List.length_map] at zl
      refine ⟨_, rfl, _, rfl, pq, _, _, _, rfl, rfl, same_t s2 hpq, atI_nat hxr, _, rfl, _, rfl, xr, vt, x.2.2, rowOf C x.2.1, tape, br, rfl, dp_same s2 _ _ hdr, fun b hb => okr.cm.short b.1 (List.mem_map.mpr ⟨b, hb, rfl⟩), by have := okr.few; omega, dp_same s2 _ _ ht, hrd, hl, hnb, fun H3 v s3 hv => ?_⟩
      obtain ⟨pb, x0, x1, rfl, hpb, hd0, hd1⟩ := br_at hv
      obtain ⟨p0, rfl, hp0⟩ := i_at hd0
      have hL3 := s3 _ _ hL2
      have k4 := keepT_nt (o := .lst (zs ++ [x1])) (nt_lst _) hL3
      refine ⟨pb, _, rfl, hpb, rfl, _, _, rfl, _, _, rfl, _, _, rfl, rfl, ?_⟩
      refine ⟨_, rfl, .inl ⟨rfl, _, SqL.of hL3⟩, _, rfl, L, zs, _, rfl, rfl, hL3, line6 (by omega), ?_⟩
      refine ⟨_, rfl, _, rfl, _, _, rfl, .inr ⟨_, sqt_keep k4 hp0, rfl⟩, _, _, rfl, rfl, ?_⟩
      refine ⟨(x.1 ++ [br.2.1], br.2.2, x.2.2 + br.1.length), some (.int (0 + (i : Int))), some (.ref p0), some x1, zs ++ [x1], ?_, same_mut (s2.trans s3) hL, upd_same, ?_, ?_⟩
      · show _ = [_, _, _, _, _, some (V.int ((x.2.2 + br.1.length : Nat) : Int)), _, _, _, _]
        rw [Int.natCast_add, List.length_map]
        rfl
      · show DpAll K _ _ ((x.1 ++ [br.2.1]).map dSh)
        rw [List.map_append]
        exact dpA_snoc (dpA_keep k4 _ _ (noLs_sh x.1) (dpA_same s3 _ _ hzs)) (dp_keep k4 _ _ (dSh_noL _) hd1)
      · show (wk C tape i).bind _ = _
        rw [hx]
        show (nextB (rowOf C x.2.1) (tape.drop x.2.2)).map _ = _
        rw [hnb]
        rfl
    · rintro σ H2 ⟨x, y7, y8, y9, zs, rfl, s2, hL2, hzs, hx⟩
      rw [hw] at hx
      obtain rfl := Option.some.inj hx
      refine ⟨_, rfl, L, zs, rfl, .inl ⟨SqL.of hL2, fun pt hpt => ⟨_, rfl, _, rfl, by show 3 ≤ sizeLine; decide, fun p hp => ?_⟩⟩⟩
      have s3 := same_new (o := .tup zs) hpt
      have s4 := same_new (o := .tup [.ref pt, .int w.2.1, .int w.2.2]) hp
      exact q _ _ (s2.trans (s3.trans s4)) (.tup (SqT.of upd_same) (.cons (.tup (SqT.of (s4 _ _ upd_same)) (dpA_same (s3.trans s4) _ _ hzs)) (.cons (.int _) (.cons (.int _) .nil))))
end
end Mt
namespace Mt
open PySem PySem.Spec PyProof.Rows L2
section
variable {P : Program} {w : World} {K : PySem.W.Frag} {mg : Str → Option Value} {base : Heap}
theorem ok_longest (T : Txt K mg) {f : Addr} {fd : FuncData} (F : FnP K "longest" s_longest f fd) : FnOk P w K mg base CX0 1 f fd ["nexts"] (spLong K) := by
  refine F.ok sc_longest (fun vs H Q E h => ?_) (fun cdv A outer s H vs Q E hr h => ?_)
  · obtain ⟨v, N, rfl, _⟩ := h
    rfl
  · obtain ⟨v, N, rfl, hN, ok, q⟩ := h
    refine ⟨_, PSs.nox (pss_cons (ps_set (i := 1) sc_longest.nd rfl (Or.inr rfl) (pe_lc (own := [("_", 2)]) (g := (gName 2)) (tt := tYes) rfl sc_longest.nd (pi_list (pv 0)) (blkOk_by (N := N_longest) (sc := defScope s_longest) (by decide +kernel)) (fun _ _ _ _ _ => (pg_name (i := 2) sc_longest.nd rfl (Or.inl rfl))) (fun _ _ _ _ _ => pts_nil) (fun _ _ _ _ _ => pe_int)))
      (pss_cons (ps_set (i := 3) sc_longest.nd rfl (Or.inl rfl) pe_int)
      (pss_cons (ps_set (i := 4) sc_longest.nd rfl (Or.inl rfl) (pe_listRg rfl rfl T.b_list (prg_1 rfl T.b_range (pe_callB call_len (by rfl) T.b_len (by decide +kernel) (pa_cons (pv 0) pa_nil)))))
      (pss_cons (ps_while PassesOwn.never (pt_truth (pv 4) (by intro _; rfl)) (pss_cons (ps_aug (i := 3) sc_longest.nd rfl (Or.inl rfl) pe_int ip_add)
      (pss_cons (ps_setLc (i := 4) (own := [("state", 5), ("targets", 6)]) (g := (gTup K 2 (gCons (gName 5) (gCons (gName 6) gNil)))) rfl sc_longest.nd rfl rfl (sw_true rfl rfl rfl (by decide +kernel)) (pi_enum (by rfl) T.b_enumerate (pa_cons (pv 0) pa_nil)) (blkOk_by (N := N_longest) (sc := defScope s_longest) (by decide +kernel)) (fun _ _ _ _ _ => (pg_tup rfl (pgs_cons (pg_name (i := 5) sc_longest.nd rfl (Or.inl rfl)) (pgs_cons (pg_name (i := 6) sc_longest.nd rfl (Or.inl rfl)) pgs_nil)))) (fun _ _ _ _ _ => (pts_one (PW.pt (pw_and (pt_cmpR op_eq (pe_ix (ixL (K := K) rfl) (pv 1) (pv 5) (fun _ _ => rfl)) pe_int (nomark _)) (pw_and1 (pt_val (pe_callB (allK (K := K) rfl rfl) (by rfl) T.b_all (by decide +kernel) (pa_cons (pe_lc (own := [("target", 7)]) (g := (gName 7)) (tt := tYes) rfl sc_longest.nd (piLK (K := K) rfl (pv 6)) (blkOk_by (N := N_longest) (sc := cs_lo) (by decide +kernel)) (fun _ _ _ _ _ => (pg_name (i := 7) sc_longest.nd rfl (Or.inl rfl))) (fun _ _ _ _ _ => pts_nil) (fun _ _ _ _ _ => (pe_cmpR op_gt (pe_ix (ixL (K := K) rfl) (pv 1) (pv 7) (fun _ _ => rfl)) pe_int (nomark _)))) pa_nil)))))))) (fun _ _ _ _ _ => (pv 5)))
      (pss_one (ps_for PassesOwn.never rfl (pi_list (pv 4)) (pg_name (i := 5) sc_longest.nd rfl (Or.inl rfl)) (pss_one (ps_asg (pv 3) (pg_sub (pv 1) (pv 5) set_list))))))))
      (pss_one (ps_ret (pv 1))))))), ?_⟩
    obtain ⟨pN, xs, rfl, hpN, hA⟩ := dp_lst hN
    have xl := dpA_len hA
    rw [List.length_map] at xl
    have few := ok.few
    refine ⟨_, rfl, pN, rfl, ⟨_, hpN⟩, fun F0 hF => lc_list (K := K) (a := pN) (xs := xs) (fun i H' => Same H H' ∧ H' F0 = some (.lst ((xs.take i).map fun _ => .int 0))) ⟨same_new hF, upd_same⟩ (fun i H' _ e => same_l e.1 hpN) ?_ ?_⟩
    · rintro i x H2 hi ⟨s2, h2⟩
      refine ⟨rfl, _, h2, ?_, same_mut s2 hF, ?_⟩
      · rw [List.length_map, List.length_take]
        exact line6 (by omega)
      · rw [upd_same, take_map_succ (f := fun _ => V.int 0) hi]
    · rintro H2 ⟨s2, h2⟩
      rw [List.take_length, zeros xs _ xl] at h2
      refine ⟨_, rfl, _, _, rfl, .inl ⟨_, same_l s2 hpN, rfl⟩, _, rfl, RgOk.of_le (by decide) (by omega) (by decide) (by omega), fun q0 hq0 => ?_⟩
      have s3 := s2.trans (same_new (o := .lst (rgV 0 (xs.length : Int))) hq0)
      have hq01 := upd_same (H := H2) (a := q0) (o := .lst (rgV 0 (xs.length : Int)))
      have hF3 := same_new (o := .lst (rgV 0 (xs.length : Int))) hq0 _ _ h2
      generalize upd H2 q0 (.lst (rgV 0 (xs.length : Int))) = H3 at s3 hq01 hF3
      refine ⟨fun m σ H' => ∃ (k : Nat) (Lf : Addr) (fr : List V) (y5 : Option V), m = 2 * (N.length - nz (fnd N k)) + (if fr = [] then 0 else 1) ∧ σ = [some (.ref pN), some (.ref F0), none, some (.int (k : Int)), some (.ref Lf), y5, none, none] ∧ Same H H' ∧ H' F0 = some (.lst ((fnd N k).map vN)) ∧ H' Lf = some (.lst fr) ∧ fr.length ≤ 100 ∧ (fr = [] → fnd N k = rk N), ⟨_, 0, q0, _, _, rfl, rfl, s3, hF3, hq01, ?_, ?_⟩, ?_⟩
      · rw [rgV_length]
        omega
      · intro e
        have : (rgV 0 (xs.length : Int)).length = 0 := by rw [e]; rfl
        rw [rgV_length] at this
        have h0 : N.length = 0 := by omega
        show fnd N 0 = fnd N N.length
        rw [h0]
      · rintro m σ H4 ⟨k, Lf, fr, y5, rfl, rfl, s4, hF4, hLf4, frl, fin⟩
        refine ⟨_, rfl, _, .inl ⟨fr, SqL.of hLf4, rfl⟩, ?_⟩
        cases hfr : fr with
        | nil =>
          rw [fin hfr] at hF4
          exact ⟨_, rfl, q _ F0 s4 hF hF4⟩
        | cons z zr =>
          refine ite2 (fun _ => ?_) (fun h => absurd rfl h)
          refine ⟨fun σ' H' => ∃ (Lf : Addr) (fr : List V) (y5 : Option V), 2 * (N.length - nz (fnd N (k + 1))) + (if fr = [] then 0 else 1) < 2 * (N.length - nz (fnd N k)) + (if z :: zr = [] then 0 else 1) ∧ σ' = [some (.ref pN), some (.ref F0), none, some (.int ((k + 1 : Nat) : Int)), some (.ref Lf), y5, none, none] ∧ Same H H' ∧ H' F0 = some (.lst ((fnd N (k + 1)).map vN)) ∧ H' Lf = some (.lst fr) ∧ fr.length ≤ 100 ∧ (fr = [] → fnd N (k + 1) = rk N), fun σ' H' ⟨Lf, fr, y5, lt, e, r⟩ => ⟨_, lt, k + 1, Lf, fr, y5, rfl, e, r⟩, ?_⟩
          refine ⟨_, rfl, _, _, rfl, rfl, _, rfl, pN, xs, rfl, same_l s4 hpN, fun M hM => lc_it walk_enum (fun j H' => Same H4 H' ∧ H' M = some (.lst (((List.range j).filter (rdy N (fnd N k))).map vN))) ⟨same_new hM, upd_same⟩ (fun j H' _ e => same_l (s4.trans e.1) hpN) ?_ ?_⟩
          · rintro j x H5 H5' hj ⟨s5, hM5⟩ ⟨T', a, b, rfl, hT, rfl, ha, hb⟩
            obtain rfl := Option.some.inj ha
            obtain ⟨l, hl, hx⟩ := dpA_mem hA hb
            obtain ⟨pt, ts, rfl, hpt, hts⟩ := dp_lst hx
            obtain rfl := dp_nats hts
            have hj' : j < N.length := by omega
            have et : tgs N j = l := by
              unfold tgs
              rw [hl]
              rfl
            obtain ⟨ll, lt⟩ := ok.row l (List.mem_of_getElem? hl)
            have s6 := s5.trans (same_new (o := .tup [V.int (j : Int), .ref pt]) hT)
            have hM6 := same_new (o := .tup [V.int (j : Int), .ref pt]) hT _ _ hM5
            have hT6 := upd_same (H := H5) (a := T') (o := .tup [V.int (j : Int), .ref pt])
            generalize upd H5 T' (.tup [V.int (j : Int), .ref pt]) = H6 at s6 hM6 hT6
            have hF6 := s6 _ _ hF4
            refine ⟨T', _, rfl, SqT.of hT6, rfl, _, _, rfl, _, _, rfl, rfl, rfl, ?_⟩
            refine ⟨_, rfl, _, rfl, F0, _, _, _, rfl, rfl, SqL.of hF6, vN_at (by rw [fnd_len]; exact hj'), rfl, _, rfl, ?_⟩
            have no : rdy N (fnd N k) j = false → Same H4 H6 ∧ H6 M = some (.lst (((List.range (j + 1)).filter (rdy N (fnd N k))).map vN)) := fun h => by
              refine ⟨s6, ?_⟩
              rw [List.range_succ, List.filter_append, List.filter_cons_of_neg (by simp [h]), List.filter_nil, List.append_nil]
              exact hM6
            refine ite2 (fun h0 => ?_) (fun hne => ?_)
            · have g0 : ga (fnd N k) j = 0 := by
                have : V.int ((ga (fnd N k) j : Nat) : Int) = V.int 0 := of_decide_eq_true h0
                have := V.int.inj this
                omega
              refine ⟨_, rfl, pt, rfl, ⟨_, same_l (s4.trans s6) hpt⟩, fun M2 hM2 => lc_list (K := K) (a := pt) (xs := l.map vN) (fun i H' => Same H6 H' ∧ H' M2 = some (.lst ((l.take i).map fun t => V.bl (decide ((0 : Int) < ((ga (fnd N k) t : Nat) : Int)))))) ⟨same_new hM2, upd_same⟩ (fun i H' _ e => same_l ((s4.trans s6).trans e.1) hpt) ?_ ?_⟩
              · rintro i y H7 hi ⟨s7, hM27⟩
                rw [List.getElem?_map] at hi
                obtain ⟨t, ht, rfl⟩ := Option.map_eq_some_iff.mp hi
                have il := (List.getElem?_eq_some_iff.mp ht).1
                refine ⟨rfl, _, rfl, _, rfl, F0, _, _, _, rfl, rfl, SqL.of (s7 _ _ hF6), vN_at (by rw [fnd_len]; exact lt t (List.mem_of_getElem? ht)), _, _, rfl, rfl, _, hM27, ?_, same_mut s7 hM2, ?_⟩
                · rw [List.length_map, List.length_take]
                  exact line6 (by omega)
                · rw [upd_same, take_map_succ (f := fun t => V.bl (decide ((0 : Int) < ((ga (fnd N k) t : Nat) : Int)))) ht]
              · rintro H7 ⟨s7, hM27⟩
                rw [List.length_map, List.take_length] at hM27
                have er : rdy N (fnd N k) j = (l.map fun t => decide ((0 : Int) < ((ga (fnd N k) t : Nat) : Int))).all id := by
                  rw [Bool.eq_iff_iff, rdy_iff, List.all_map, List.all_eq_true, et]
                  constructor
                  · intro h t ht
                    exact decide_eq_true (by have := h.2 t ht; omega)
                  · intro h
                    refine ⟨g0, fun t ht => ?_⟩
                    have := of_decide_eq_true (h t ht)
                    omega
                refine ⟨M2, l.map fun t => decide ((0 : Int) < ((ga (fnd N k) t : Nat) : Int)), rfl, SqL.of (by rw [List.map_map]; exact hM27), _, rfl, ?_⟩
                rw [← er]
                have s67 := s6.trans s7
                cases hrd : rdy N (fnd N k) j with
                | true =>
                  refine ⟨_, rfl, _, s7 _ _ hM6, ?_, same_mut s67 hM, ?_⟩
                  · rw [List.length_map]
                    have := List.length_filter_le (rdy N (fnd N k)) (List.range j)
                    rw [List.length_range] at this
                    exact line6 (by omega)
                  · rw [upd_same, List.range_succ, List.filter_append, List.filter_cons_of_pos hrd, List.filter_nil, List.map_append]
                    rfl
                | false =>
                  obtain ⟨_, h2⟩ := no hrd
                  exact ⟨s67, s7 _ _ h2⟩
            · refine no ?_
              cases hrd : rdy N (fnd N k) j with
              | false => rfl
              | true =>
                have := (rdy_iff.mp hrd).1
                exact absurd (by show decide (V.int ((ga (fnd N k) j : Nat) : Int) = V.int 0) = true; rw [this]; exact decide_eq_true rfl) hne
          · rintro H5 ⟨s5, hM5⟩
            rw [xl] at hM5
            have hM5' : H5 M = some (.lst ((frs N k).map vN)) := hM5
            have frl' : (frs N k).length ≤ N.length := by
              have := List.length_filter_le (rdy N (fnd N k)) (List.range N.length)
              rw [List.length_range] at this
              exact this
            have MF : M ≠ F0 := (ne_of_none hF4 hM).symm
            refine ⟨_, rfl, M, rfl, ⟨_, SqL.of hM5'⟩, for_list (K := K) (a := M) (xs := (frs N k).map vN) (fun j σ H' => ∃ y5 : Option V, σ = [some (.ref pN), some (.ref F0), none, some (.int ((k + 1 : Nat) : Int)), some (.ref M), y5, none, none] ∧ Same H H' ∧ H' M = some (.lst ((frs N k).map vN)) ∧ H' F0 = some (.lst ((setN (fnd N k) ((frs N k).take j) (k + 1)).map vN))) ⟨_, rfl, s4.trans s5, hM5', s5 _ _ hF4⟩ (fun j σ H' _ ⟨_, _, _, h, _⟩ => SqL.of h) ?_ ?_⟩
            · rintro j x σ H6 hj ⟨y5, rfl, s6, hM6, hF6⟩
              rw [List.getElem?_map] at hj
              obtain ⟨s, hs, rfl⟩ := Option.map_eq_some_iff.mp hj
              have sl : s < N.length := List.mem_range.mp (List.mem_filter.mp (List.mem_of_getElem? hs)).1
              refine ⟨_, rfl, _, rfl, _, rfl, F0, _, _, s, rfl, rfl, hF6, Evl.ixN_nat (by rw [List.length_map, setN_len, fnd_len]; exact sl), _, rfl, same_mut s6 hF, ?_, ?_⟩
              · rw [upd_ne MF]
                exact hM6
              · rw [upd_same, setN_take hs, List.map_set]
                rfl
            · rintro σ H6 ⟨y5, rfl, s6, hM6, hF6⟩
              rw [List.length_map, List.take_length, setN_end] at hF6
              refine ⟨M, (frs N k).map vN, _, ?_, rfl, s6, hF6, hM6, by rw [List.length_map]; omega, fun e => ?_⟩
              · have up : frs N k ≠ [] → nz (fnd N k) < nz (fnd N (k + 1)) := nz_up
                have le := nz_le (fnd N (k + 1))
                rw [fnd_len] at le
                cases hf : frs N k with
                | nil =>
                  rw [frs_none hf]
                  simp
                | cons s r =>
                  have := up (by rw [hf]; simp)
                  simp
                  omega
              · have e' : frs N k = [] := List.map_eq_nil_iff.mp e
                rw [frs_none e']
                exact fnd_end e'
end
end Mt
namespace Mt
open PySem PySem.Spec PyProof.Rows L2
theorem minK {X : Cx} {K : PySem.W.Frag} (hc : X.calm = true) (h : X.K = K) : CallR X (.builtin "min") (rMin K) := h ▸ cr_min hc
theorem maxK {X : Cx} {K : PySem.W.Frag} (hc : X.calm = true) (h : X.K = K) : CallR X (.builtin "max") (rMax K) := h ▸ cr_max hc
abbrev cs_g1 : Scope := { kind := .function, names := [(Str.ofString ".0", .local), (Str.ofString "row", .local), (Str.ofString "min", .globalImplicit), (Str.ofString "least", .cell)], isGenerator := false, isCoroutine := false }
abbrev cs_g2 : Scope := { kind := .function, names := [(Str.ofString ".0", .local), (Str.ofString "row", .local), (Str.ofString "max", .globalImplicit), (Str.ofString "most", .cell)], isGenerator := false, isCoroutine := false }
/-! ### the least and the greatest -/
def mn : List Int → Int
  | [] => 0
  | [x] => x
  | x :: r => min x (mn r)
def mx (l : List Int) : Int := -mn (l.map fun x => -x)
theorem mn_mem : ∀ {l : List Int}, l ≠ [] → mn l ∈ l
  | [], h => absurd rfl h
  | [x], _ => List.mem_cons_self
  | x :: y :: r, _ => by
    have ih := mn_mem (l := y :: r) (by simp)
    show min x (mn (y :: r)) ∈ _
    by_cases h : x ≤ mn (y :: r)
    · rw [Int.min_eq_left h]
      exact List.mem_cons_self
    · rw [Int.min_eq_right (by omega)]
      exact List.mem_cons_of_mem _ ih
theorem mn_le : ∀ {l : List Int} {z : Int}, z ∈ l → mn l ≤ z
  | [], _, h => absurd h List.not_mem_nil
  | [x], z, h => by
    rw [List.mem_singleton.mp h]
    exact Int.le_refl _
  | x :: y :: r, z, h => by
    show min x (mn (y :: r)) ≤ z
    rcases List.mem_cons.mp h with rfl | h
    · exact Int.min_le_left _ _
    · exact Int.le_trans (Int.min_le_right _ _) (mn_le h)
theorem mn_eq {l : List Int} {m : Int} (h : m ∈ l) (h2 : ∀ y ∈ l, m ≤ y) : mn l = m := by
  have a := mn_le h
  have b := h2 _ (mn_mem (List.ne_nil_of_mem h))
  omega
theorem mx_mem {l : List Int} (h : l ≠ []) : mx l ∈ l := by
  have := mn_mem (l := l.map fun x => -x) (by simpa using h)
  obtain ⟨x, hx, e⟩ := List.mem_map.mp this
  unfold mx
  rw [← e]
  simpa using hx
theorem mx_ge {l : List Int} {z : Int} (h : z ∈ l) : z ≤ mx l := by
  have := mn_le (l := l.map fun x => -x) (List.mem_map.mpr ⟨z, h, rfl⟩)
  unfold mx
  omega
theorem mx_eq {l : List Int} {m : Int} (h : m ∈ l) (h2 : ∀ y ∈ l, y ≤ m) : mx l = m := by
  have a := mx_ge h
  have b := h2 _ (mx_mem (List.ne_nil_of_mem h))
  omega
abbrev WR : Type := List (List (Int × Nat))
def nxt (l : List Int) (e : Int × Nat) : Int := e.1 + (l[e.2]?).getD 0
def lo (R : WR) : Nat → List Int
  | 0 => R.map fun _ => 0
  | n + 1 => R.map fun row => mn (row.map (nxt (lo R n)))
def hi (R : WR) : Nat → List Int
  | 0 => R.map fun _ => 0
  | n + 1 => R.map fun row => mx (row.map (nxt (hi R n)))
theorem lo_len (R : WR) (n : Nat) : (lo R n).length = R.length := by
  cases n <;> (unfold lo; rw [List.length_map])
theorem hi_len (R : WR) (n : Nat) : (hi R n).length = R.length := by
  cases n <;> (unfold hi; rw [List.length_map])
structure ROk (R : WR) : Prop where
  pos : 0 < R.length
  few : R.length ≤ 50
  row : ∀ r ∈ R, 0 < r.length ∧ r.length ≤ 20 ∧ ∀ e ∈ r, e.2 < R.length
theorem ROk.of {base : Int} {C : Chn} (o : ChnOk base C) (W : List (Str × Int)) : ROk (C.map (wRow W)) := by
  refine ⟨by rw [List.length_map]; exact o.pos, by rw [List.length_map]; exact o.few, fun r hr => ?_⟩
  obtain ⟨r0, h0, rfl⟩ := List.mem_map.mp hr
  have k := o.row r0 h0
  refine ⟨?_, ?_, fun e he => ?_⟩
  · unfold wRow
    rw [List.length_map]
    exact k.ne
  · unfold wRow
    rw [List.length_map]
    exact k.few
  · obtain ⟨b, hb, rfl⟩ := List.mem_map.mp he
    rw [List.length_map]
    exact (k.to b hb).1
def at0 (l : List Int) (i : Nat) : Int := (l[i]?).getD 0
def spGreat (K : PySem.W.Frag) : Sp := fun vs H Q _ => ∃ (vc vw : V) (n : Nat) (base : Int) (C : Chn) (W : List (Str × Int)), vs = [vc, vw, .int n] ∧ Dp K H vc (dChn base C) ∧ ChnOk base C ∧ WAt K H vw W ∧ (W.map (·.1)).Nodup ∧ W.length ≤ 1000 ∧ n ≤ 10000 ∧
  ∀ H' p, Same H H' → H' p = some (.tup [.int (at0 (lo (C.map (wRow W)) n) 0), .int (at0 (hi (C.map (wRow W)) n) 0)]) → Q (.ref p) H'
theorem getD_at {l : List Int} {i : Nat} (h : i < l.length) : l[i]? = some ((l[i]?).getD 0) := by
  rw [List.getElem?_eq_getElem h]
  rfl
end Mt
namespace Mt
open PySem PySem.Spec PyProof.Rows L2
theorem row_at {K : PySem.W.Frag} {H : Hp} {v : V} {r : List (Int × Nat)} (h : Dp K H v (dWRow r)) : ∃ p xs, v = .ref p ∧ SqL K H p xs ∧ DpAll K H xs (r.map dE) := dp_lst h
theorem sum_at {l : List Int} {e : Int × Nat} (h : e.2 < l.length) : atI (l.map V.int) (e.2 : Int) = some (.int ((l[e.2]?).getD 0)) := atI_nat (by rw [List.getElem?_map, getD_at h]; rfl)
section
variable {P : Program} {w : World} {K : PySem.W.Frag} {mg : Str → Option Value} {base : Heap}
theorem ok_greatest (T : Txt K mg) (D_worth_rows : Kept P w K mg base 2 "worth_rows" ["chain", "worths"] (spWRows K)) {f : Addr} {fd : FuncData} (F : FnP K "greatest" s_greatest f fd) : FnOk P w K mg base CX0 3 f fd ["chain", "worths", "n"] (spGreat K) := by
  refine F.ok sc_greatest (fun vs H Q E h => ?_) (fun cdv A outer s H vs Q E hr h => ?_)
  · obtain ⟨vc, vw, n, b, C, W, rfl, _⟩ := h
    rfl
  · obtain ⟨vc, vw, n, b, C, W, rfl, hC, okC, hw, nd, hwl, n1, q⟩ := h
    refine ⟨_, PSs.nox (pss_cons (ps_set (i := 3) sc_greatest.nd rfl (Or.inl rfl) (pe_d D_worth_rows (hr.mono (by decide)) (by rfl) (pa_cons (pv 0) (pa_cons (pv 1) pa_nil))))
      (pss_cons (ps_set (i := 4) sc_greatest.nd rfl (Or.inr rfl) (pe_lc (own := [("_", 5)]) (g := (gName 5)) (tt := tYes) rfl sc_greatest.nd (pi_list (pv 3)) (blkOk_by (N := N_greatest) (sc := defScope s_greatest) (by decide +kernel)) (fun _ _ _ _ _ => (pg_name (i := 5) sc_greatest.nd rfl (Or.inl rfl))) (fun _ _ _ _ _ => pts_nil) (fun _ _ _ _ _ => pe_int)))
      (pss_cons (ps_set (i := 6) sc_greatest.nd rfl (Or.inr rfl) (pe_lc (own := [("_", 5)]) (g := (gName 5)) (tt := tYes) rfl sc_greatest.nd (pi_list (pv 3)) (blkOk_by (N := N_greatest) (sc := defScope s_greatest) (by decide +kernel)) (fun _ _ _ _ _ => (pg_name (i := 5) sc_greatest.nd rfl (Or.inl rfl))) (fun _ _ _ _ _ => pts_nil) (fun _ _ _ _ _ => pe_int)))
      (pss_cons (ps_for PassesOwn.never rfl (pi_range1 (by rfl) T.b_range (pa_cons (pv 2) pa_nil)) (pg_name (i := 5) sc_greatest.nd rfl (Or.inl rfl)) (pss_cons (ps_set (i := 4) sc_greatest.nd rfl (Or.inr rfl) (pe_lc (own := [("row", 9)]) (g := (gName 9)) (tt := tYes) rfl sc_greatest.nd (pi_list (pv 3)) (blkOk_by (N := N_greatest) (sc := defScope s_greatest) (by decide +kernel)) (fun _ _ _ _ _ => (pg_name (i := 9) sc_greatest.nd rfl (Or.inl rfl))) (fun _ _ _ _ _ => pts_nil) (fun _ _ _ _ _ => (pe_callB (minK (K := K) rfl rfl) (by rfl) T.b_min (by decide +kernel) (pa_cons (pe_lc (own := [("worth", 7), ("target", 8)]) (g := (gTup K 2 (gCons (gName 7) (gCons (gName 8) gNil)))) (tt := tYes) rfl sc_greatest.nd (piLK (K := K) rfl (pv 9)) (blkOk_by (N := N_greatest) (sc := cs_g1) (by decide +kernel)) (fun _ _ _ _ _ => (pg_tup rfl (pgs_cons (pg_name (i := 7) sc_greatest.nd rfl (Or.inl rfl)) (pgs_cons (pg_name (i := 8) sc_greatest.nd rfl (Or.inl rfl)) pgs_nil)))) (fun _ _ _ _ _ => pts_nil) (fun _ _ _ _ _ => (pe_op op_add (pv 7) (pe_ix (ixL (K := K) rfl) (pv 4) (pv 8) (fun _ _ => rfl))))) pa_nil)))))
      (pss_one (ps_set (i := 6) sc_greatest.nd rfl (Or.inr rfl) (pe_lc (own := [("row", 9)]) (g := (gName 9)) (tt := tYes) rfl sc_greatest.nd (pi_list (pv 3)) (blkOk_by (N := N_greatest) (sc := defScope s_greatest) (by decide +kernel)) (fun _ _ _ _ _ => (pg_name (i := 9) sc_greatest.nd rfl (Or.inl rfl))) (fun _ _ _ _ _ => pts_nil) (fun _ _ _ _ _ => (pe_callB (maxK (K := K) rfl rfl) (by rfl) T.b_max (by decide +kernel) (pa_cons (pe_lc (own := [("worth", 7), ("target", 8)]) (g := (gTup K 2 (gCons (gName 7) (gCons (gName 8) gNil)))) (tt := tYes) rfl sc_greatest.nd (piLK (K := K) rfl (pv 9)) (blkOk_by (N := N_greatest) (sc := cs_g2) (by decide +kernel)) (fun _ _ _ _ _ => (pg_tup rfl (pgs_cons (pg_name (i := 7) sc_greatest.nd rfl (Or.inl rfl)) (pgs_cons (pg_name (i := 8) sc_greatest.nd rfl (Or.inl rfl)) pgs_nil)))) (fun _ _ _ _ _ => pts_nil) (fun _ _ _ _ _ => (pe_op op_add (pv 7) (pe_ix (ixL (K := K) rfl) (pv 6) (pv 8) (fun _ _ => rfl))))) pa_nil))))))))
      (pss_one (ps_ret (pe_tup (pa_cons (pe_ix ix_list (pv 4) pe_int (fun _ _ => rfl)) (pa_cons (pe_ix ix_list (pv 6) pe_int (fun _ _ => rfl)) pa_nil))))))))), ?_⟩
    refine ⟨_, rfl, _, rfl, vc, vw, b, C, W, rfl, hC, okC, hw, nd, hwl, fun H1 v s1 hR => ?_⟩
    have okR := ROk.of okC W
    generalize C.map (wRow W) = R at q hR okR
    have pos := okR.pos
    have few := okR.few
    obtain ⟨pR, xs, rfl, hpR, hA⟩ := dp_lst hR
    have xl := dpA_len hA
    rw [List.length_map] at xl
    have zero : xs.map (fun _ => V.int 0) = (R.map fun _ => (0 : Int)).map V.int := by
      rw [List.map_const', xl, List.map_const', List.map_replicate]
    refine ⟨_, rfl, pR, rfl, ⟨_, hpR⟩, fun a ha => lc_list (K := K) (a := pR) (xs := xs) (fun i H' => Same H1 H' ∧ H' a = some (.lst ((xs.take i).map fun _ => .int 0))) ⟨same_new ha, upd_same⟩ (fun i H' _ e => same_l e.1 hpR) ?_ ?_⟩
    · rintro i x H2 hi ⟨s2, h2⟩
      refine ⟨rfl, _, h2, ?_, same_mut s2 ha, ?_⟩
      · rw [List.length_map, List.length_take]
        exact line6 (by omega)
      · rw [upd_same, take_map_succ (f := fun _ => V.int 0) hi]
    · rintro H2 ⟨s2, h2⟩
      rw [List.take_length] at h2
      refine ⟨_, rfl, pR, rfl, ⟨_, same_l s2 hpR⟩, fun b ha => lc_list (K := K) (a := pR) (xs := xs) (fun i H' => Same H2 H' ∧ H' b = some (.lst ((xs.take i).map fun _ => .int 0))) ⟨same_new ha, upd_same⟩ (fun i H' _ e => same_l (s2.trans e.1) hpR) ?_ ?_⟩
      · rintro i x H3 hi ⟨s3, h3⟩
        refine ⟨rfl, _, h3, ?_, same_mut s3 ha, ?_⟩
        · rw [List.length_map, List.length_take]
          exact line6 (by omega)
        · rw [upd_same, take_map_succ (f := fun _ => V.int 0) hi]
      · rintro H3 ⟨s3, h3⟩
        rw [List.take_length] at h3
        have s13 := s2.trans s3
        refine ⟨_, rfl, _, rfl, by omega, by omega, for_range (lo := 0) (n := n) (fun i σ H' => ∃ (a b : Addr) (y5 : Option V), σ = [some vc, some vw, some (.int n), some (.ref pR), some (.ref a), y5, some (.ref b), none, none, none] ∧ Same H1 H' ∧ H' a = some (.lst ((lo R i).map V.int)) ∧ H' b = some (.lst ((hi R i).map V.int))) ⟨a, b, _, rfl, s13, ?_, ?_⟩ ?_ ?_⟩
        · rw [s3 _ _ h2, zero]
          rfl
        · rw [h3, zero]
          rfl
        · rintro i σ H4 hi ⟨a, b, y5, rfl, s4, h4, h5⟩
          refine ⟨_, rfl, pR, rfl, ⟨_, same_l s4 hpR⟩, fun c hc => lc_list (K := K) (a := pR) (xs := xs) (fun j H' => Same H4 H' ∧ H' c = some (.lst (((lo R (i + 1)).take j).map V.int))) ⟨same_new hc, upd_same⟩ (fun i H' _ e => same_l (s4.trans e.1) hpR) ?_ ?_⟩
          · rintro j x H5 hj ⟨s5, h6⟩
            obtain ⟨r, hr1, hx⟩ := dpA_mem hA hj
            have jl := (List.getElem?_eq_some_iff.mp hr1).1
            obtain ⟨r0, r1, r2⟩ := okR.row r (List.mem_of_getElem? hr1)
            obtain ⟨pr, rs, rfl, hpr, hrs⟩ := row_at hx
            have s45 := s4.trans s5
            refine ⟨rfl, _, rfl, pr, rfl, ⟨_, same_l s45 hpr⟩, fun M hM => lc_list (K := K) (a := pr) (xs := rs) (fun k H' => Same H5 H' ∧ H' M = some (.lst (((r.map (Mt.nxt (lo R i))).take k).map V.int))) ⟨same_new hM, upd_same⟩ (fun k H' _ e => same_l (s45.trans e.1) hpr) ?_ ?_⟩
            · rintro k y H6 hk ⟨s6, h7⟩
              obtain ⟨e, he, hy⟩ := dpA_mem hrs hk
              obtain ⟨pe, rfl, hpe⟩ := e_at hy
              have kl := (List.getElem?_eq_some_iff.mp he).1
              refine ⟨_, _, rfl, same_t (s45.trans s6) hpe, rfl, _, _, rfl, _, _, rfl, rfl, rfl, ?_⟩
              refine ⟨_, rfl, _, rfl, _, rfl, a, _, _, _, rfl, rfl, SqL.of ((s5.trans s6) _ _ h4), sum_at (by rw [lo_len]; exact r2 e (List.mem_of_getElem? he)), _, _, rfl, rfl, _, h7, ?_, same_mut s6 hM, ?_⟩
              · rw [List.length_map, List.length_take, List.length_map]
                exact line6 (by omega)
              · rw [upd_same, List.take_add_one, List.getElem?_map, he, List.map_append]
                rfl
            · rintro H6 ⟨s6, h7⟩
              have rl := dpA_len hrs
              rw [List.length_map] at rl
              rw [rl, ← List.length_map (f := Mt.nxt (lo R i)), List.take_length] at h7
              refine ⟨M, _, rfl, SqL.of h7, by rw [List.length_map]; exact r0, fun m hm hmin => ⟨_, s6 _ _ h6, ?_, same_mut (s5.trans s6) hc, ?_⟩⟩
              · rw [List.length_map, List.length_take, lo_len]
                exact line6 (by omega)
              · rw [upd_same, ← mn_eq hm hmin, List.take_add_one, show (lo R (i + 1))[j]? = some (mn (r.map (Mt.nxt (lo R i)))) by show (R.map _)[j]? = _; rw [List.getElem?_map, hr1]; rfl, List.map_append]
                rfl
          · rintro H5 ⟨s5, h6⟩
            rw [xl, ← lo_len R (i + 1), List.take_length] at h6
            have s45 := s4.trans s5
            have h5' := s5 _ _ h5
            refine ⟨_, rfl, pR, rfl, ⟨_, same_l s45 hpR⟩, fun c' hc' => lc_list (K := K) (a := pR) (xs := xs) (fun j H' => Same H5 H' ∧ H' c' = some (.lst (((Mt.hi R (i + 1)).take j).map V.int))) ⟨same_new hc', upd_same⟩ (fun i H' _ e => same_l (s45.trans e.1) hpR) ?_ ?_⟩
            · rintro j x H6 hj ⟨s6, h7⟩
              obtain ⟨r, hr1, hx⟩ := dpA_mem hA hj
              have jl := (List.getElem?_eq_some_iff.mp hr1).1
              obtain ⟨r0, r1, r2⟩ := okR.row r (List.mem_of_getElem? hr1)
              obtain ⟨pr, rs, rfl, hpr, hrs⟩ := row_at hx
              have s46 := s45.trans s6
              refine ⟨rfl, _, rfl, pr, rfl, ⟨_, same_l s46 hpr⟩, fun M hM => lc_list (K := K) (a := pr) (xs := rs) (fun k H' => Same H6 H' ∧ H' M = some (.lst (((r.map (Mt.nxt (Mt.hi R i))).take k).map V.int))) ⟨same_new hM, upd_same⟩ (fun k H' _ e => same_l (s46.trans e.1) hpr) ?_ ?_⟩
              · rintro k y H7 hk ⟨s7, h8⟩
                obtain ⟨e, he, hy⟩ := dpA_mem hrs hk
                obtain ⟨pe, rfl, hpe⟩ := e_at hy
                have kl := (List.getElem?_eq_some_iff.mp he).1
                refine ⟨_, _, rfl, same_t (s46.trans s7) hpe, rfl, _, _, rfl, _, _, rfl, rfl, rfl, ?_⟩
                refine ⟨_, rfl, _, rfl, _, rfl, b, _, _, _, rfl, rfl, SqL.of ((s6.trans s7) _ _ h5'), sum_at (by rw [hi_len]; exact r2 e (List.mem_of_getElem? he)), _, _, rfl, rfl, _, h8, ?_, same_mut s7 hM, ?_⟩
                · rw [List.length_map, List.length_take, List.length_map]
                  exact line6 (by omega)
                · rw [upd_same, List.take_add_one, List.getElem?_map, he, List.map_append]
                  rfl
              · rintro H7 ⟨s7, h8⟩
                have rl := dpA_len hrs
                rw [List.length_map] at rl
                rw [rl, ← List.length_map (f := Mt.nxt (Mt.hi R i)), List.take_length] at h8
                refine ⟨M, _, rfl, SqL.of h8, by rw [List.length_map]; exact r0, fun m hm hmin => ⟨_, s7 _ _ h7, ?_, same_mut (s6.trans s7) hc', ?_⟩⟩
                · rw [List.length_map, List.length_take, hi_len]
                  exact line6 (by omega)
                · rw [upd_same, ← mx_eq hm hmin, List.take_add_one, show (Mt.hi R (i + 1))[j]? = some (mx (r.map (Mt.nxt (Mt.hi R i)))) by show (R.map _)[j]? = _; rw [List.getElem?_map, hr1]; rfl, List.map_append]
                  rfl
            · rintro H6 ⟨s6, h7⟩
              rw [xl, ← hi_len R (i + 1), List.take_length] at h7
              exact ⟨c, c', _, rfl, s45.trans s6, s6 _ _ h6, h7⟩
        · rintro σ H4 ⟨a, b, y5, rfl, s4, h4, h5⟩
          refine ⟨_, rfl, a, _, _, _, rfl, rfl, SqL.of h4, atI_nat (j := 0) (by rw [List.getElem?_map, getD_at (by rw [lo_len]; exact pos)]; rfl), _, rfl, b, _, _, _, rfl, rfl, SqL.of h5, atI_nat (j := 0) (by rw [List.getElem?_map, getD_at (by rw [hi_len]; exact pos)]; rfl), by show 2 ≤ sizeLine; decide, fun p hp => ?_⟩
          exact q _ p (s1.trans (s4.trans (same_new hp))) upd_same
end
end Mt
namespace Mt
open PySem PySem.Spec PyProof.Rows L2
/-! ### distances: the search by layers over a graph of numbers -/
structure DistOk (nx : Nat → List Nat) (B : List Nat) (F : Nat → Option Nat) : Prop where
  zero : ∀ s, F s = some 0 ↔ s ∈ B
  st : ∀ s k, F s = some k → ∀ t ∈ nx s, ∃ j, j ≤ k + 1 ∧ F t = some j
  ex : ∀ t k, F t = some (k + 1) → ∃ s, F s = some k ∧ t ∈ nx s
structure BTop (nx : Nat → List Nat) (B : List Nat) (m : Nat) (F : Nat → Option Nat) (ls : List Nat) : Prop where
  zero : ∀ s, F s = some 0 ↔ s ∈ B
  bd : ∀ s k, F s = some k → k ≤ m
  lay : ∀ s, s ∈ ls ↔ F s = some m
  st : ∀ s k, F s = some k → k < m → ∀ t ∈ nx s, ∃ j, j ≤ k + 1 ∧ F t = some j
  ex : ∀ t k, F t = some (k + 1) → ∃ s, F s = some k ∧ t ∈ nx s
structure BIn (nx : Nat → List Nat) (B : List Nat) (m : Nat) (F : Nat → Option Nat) (ls fs : List Nat) (a : Nat) (S : List Nat) : Prop where
  zero : ∀ s, F s = some 0 ↔ s ∈ B
  bd : ∀ s k, F s = some k → k ≤ m + 1
  lay : ∀ s, s ∈ ls ↔ F s = some m
  fr : ∀ s, s ∈ fs ↔ F s = some (m + 1)
  st : ∀ s k, F s = some k → k < m → ∀ t ∈ nx s, ∃ j, j ≤ k + 1 ∧ F t = some j
  dn : ∀ s ∈ ls.take a, ∀ t ∈ nx s, ∃ j, j ≤ m + 1 ∧ F t = some j
  now : ∀ t ∈ S, ∃ j, j ≤ m + 1 ∧ F t = some j
  ex : ∀ t k, F t = some (k + 1) → ∃ s, F s = some k ∧ t ∈ nx s
section
variable {nx : Nat → List Nat} {B : List Nat} {m : Nat} {F : Nat → Option Nat} {ls fs : List Nat} {a : Nat} {S : List Nat}
theorem BTop.begin (B : List Nat) {ls : List Nat} (h : ∀ s, s ∈ ls ↔ s ∈ B) : BTop nx B 0 (fun s => if s ∈ B then some 0 else none) ls := by
  have v : ∀ s k, (if s ∈ B then some 0 else none) = some k → k = 0 ∧ s ∈ B := fun s k e => by
    by_cases c : s ∈ B
    · rw [if_pos c] at e
      cases e
      exact ⟨rfl, c⟩
    · rw [if_neg c] at e
      cases e
  refine ⟨fun s => ⟨fun e => (v s 0 e).2, fun c => if_pos c⟩, fun s k e => Nat.le_of_eq (v s k e).1, fun s => (h s).trans ⟨fun c => if_pos c, fun e => (v s 0 e).2⟩, fun s k _ h => absurd h (Nat.not_lt_zero _), fun t k e => ?_⟩
  have := (v t _ e).1
  omega
theorem BTop.layer (h : BTop nx B m F ls) : BIn nx B m F ls [] 0 [] :=
  ⟨h.zero, fun s k e => Nat.le_succ_of_le (h.bd s k e), h.lay, fun s => ⟨fun k => absurd k List.not_mem_nil, fun e => by
    have := h.bd s _ e
    omega⟩, h.st, fun s k => absurd k List.not_mem_nil, fun t k => absurd k List.not_mem_nil, h.ex⟩
theorem BIn.old (h : BIn nx B m F ls fs a S) {t j : Nat} (e : F t = some j) : BIn nx B m F ls fs a (S ++ [t]) :=
  ⟨h.zero, h.bd, h.lay, h.fr, h.st, h.dn, fun x hx => (List.mem_append.mp hx).elim (h.now x) fun k => by
    rw [List.mem_singleton.mp k]
    exact ⟨j, h.bd t j e, e⟩, h.ex⟩
theorem BIn.more (h : BIn nx B m F ls fs a S) {q t : Nat} (hq : F q = some m) (ht : t ∈ nx q) (hn : F t = none) : BIn nx B m (fun x => if x = t then some (m + 1) else F x) ls (fs ++ [t]) a (S ++ [t]) := by
  have keep : ∀ {x k}, F x = some k → (if x = t then some (m + 1) else F x) = some k := fun {x k} e => by
    rw [if_neg fun z => by
      rw [z, hn] at e
      cases e]
    exact e
  have inv : ∀ {x k}, (if x = t then some (m + 1) else F x) = some k → (x = t ∧ k = m + 1) ∨ F x = some k := fun {x k} e => by
    by_cases c : x = t
    · rw [if_pos c] at e
      cases e
      exact .inl ⟨c, rfl⟩
    · rw [if_neg c] at e
      exact .inr e
  refine ⟨fun s => ⟨fun e => ?_, fun c => keep ((h.zero s).mpr c)⟩, fun s k e => ?_, fun s => (h.lay s).trans ⟨keep, fun e => ?_⟩, fun s => ⟨fun c => ?_, fun e => ?_⟩, fun s k e hk x hx => ?_, fun s hs x hx => ?_, fun x hx => ?_, fun x k e => ?_⟩
  · rcases inv e with ⟨_, k⟩ | k
    · omega
    · exact (h.zero s).mp k
  · rcases inv e with ⟨_, k⟩ | k
    · omega
    · exact h.bd s _ k
  · rcases inv e with ⟨_, k⟩ | k
    · omega
    · exact k
  · rcases List.mem_append.mp c with c | c
    · exact keep ((h.fr s).mp c)
    · exact if_pos (List.mem_singleton.mp c)
  · rcases inv e with ⟨k, _⟩ | k
    · exact List.mem_append_right _ (List.mem_singleton.mpr k)
    · exact List.mem_append_left _ ((h.fr s).mpr k)
  · rcases inv e with ⟨_, k'⟩ | k'
    · omega
    · obtain ⟨j, hj, ej⟩ := h.st s k k' hk x hx
      exact ⟨j, hj, keep ej⟩
  · obtain ⟨j, hj, ej⟩ := h.dn s hs x hx
    exact ⟨j, hj, keep ej⟩
  · rcases List.mem_append.mp hx with hx | hx
    · obtain ⟨j, hj, ej⟩ := h.now x hx
      exact ⟨j, hj, keep ej⟩
    · exact ⟨m + 1, Nat.le_refl _, if_pos (List.mem_singleton.mp hx)⟩
  · rcases inv e with ⟨k1, k2⟩ | k1
    · obtain rfl : k = m := by omega
      exact ⟨q, keep hq, k1 ▸ ht⟩
    · obtain ⟨s, e1, e2⟩ := h.ex x k k1
      exact ⟨s, keep e1, e2⟩
theorem BIn.row {q : Nat} (h : BIn nx B m F ls fs a (nx q)) (hq : ls[a]? = some q) : BIn nx B m F ls fs (a + 1) [] :=
  ⟨h.zero, h.bd, h.lay, h.fr, h.st, fun s hs t ht => by
    rw [List.take_add_one, hq] at hs
    rcases List.mem_append.mp hs with hs | hs
    · exact h.dn s hs t ht
    · have e : s = q := by simpa using hs
      rw [e] at ht
      exact h.now t ht, fun t k => absurd k List.not_mem_nil, h.ex⟩
theorem BIn.fin (h : BIn nx B m F ls fs ls.length []) : BTop nx B (m + 1) F fs :=
  ⟨h.zero, h.bd, h.fr, fun s k e hk t ht => by
    by_cases c : k < m
    · exact h.st s k e c t ht
    · obtain rfl : k = m := by omega
      exact h.dn s (by rw [List.take_length]; exact (h.lay s).mpr e) t ht, h.ex⟩
theorem BTop.stop (h : BTop nx B m F []) : DistOk nx B F :=
  ⟨h.zero, fun s k e t ht => by
    have b := h.bd s k e
    by_cases c : k < m
    · exact h.st s k e c t ht
    · obtain rfl : k = m := by omega
      exact absurd ((h.lay s).mpr e) List.not_mem_nil, h.ex⟩
end
end Mt
namespace Mt
open PySem PySem.Spec PyProof.Rows L2
def vI (k : Nat) : V := .int (k : Int)
theorem dcK_it {J : It} {n : Nat} {G : Hp → Prop} {Y : Nat → Hp → V → Hp → Prop} (w : Walk J n G Y) {g : L2.TG} {tk tv : TE} {vs : List Nat} {σ : L2.St} {H1 : Hp} {D : Addr} {Qd : Hp → Prop} (Pv : Nat → Hp → Prop) (h0 : Pv 0 (upd H1 D (.dK []))) (hG : ∀ i H, i ≤ n → Pv i H → G H)
    (hs : ∀ i x H H', i < n → Pv i H → Y i H x H' → g x (wipe σ vs) H' fun σ3 H3 => wipe σ3 vs = wipe σ vs ∧ tk σ3 H3 fun y H4 => tv σ3 H4 fun z H5 => ∃ H6, DPut H5 D y z H6 ∧ Pv (i + 1) H6) (hd : ∀ H, Pv n H → Qd H) :
    ∃ W : Nat → Nat → Hp → Prop, (∃ m, W 0 m (upd H1 D (.dK []))) ∧ ∀ i m H, W i m H →
      (J.stop i H ∧ Qd H) ∨ (J.go i H ∧ ∃ Nx : Hp → Prop, (∀ H2, Nx H2 → ∃ m2, m2 < m ∧ W (i + 1) m2 H2) ∧
        ∀ x H2, J.yld i H x H2 → g x (wipe σ vs) H2 fun σ3 H3 => wipe σ3 vs = wipe σ vs ∧ tk σ3 H3 fun y H4 => tv σ3 H4 fun z H5 => ∃ H6, DPut H5 D y z H6 ∧ Nx H6) := by
  refine ⟨fun i m H => m = n - i ∧ i ≤ n ∧ Pv i H, ⟨n, by simp, Nat.zero_le _, h0⟩, ?_⟩
  rintro i m H ⟨rfl, hi, p⟩
  have q := hG i H hi p
  by_cases hlt : i < n
  · refine .inr ⟨w.goes i H hlt q, Pv (i + 1), fun H' p' => ⟨n - (i + 1), by omega, rfl, hlt, p'⟩, fun x H' y => hs i x H H' hlt p (w.yields i H x H' hlt q y)⟩
  · have e : i = n := by omega
    subst e
    exact .inl ⟨w.stops H q, hd H p⟩
/-- a dict keyed by numbers below n -/
structure FK (n : Nat) (kvs : List (L2.Key × V)) (F : Nat → Option Nat) : Prop where
  val : ∀ s : Nat, valV kvs (.inl (s : Int)) = (F s).map vI
  ks : ∃ ps : List Nat, kvs.map (·.1) = ps.map (fun s : Nat => (.inl (s : Int) : L2.Key)) ∧ ps.Nodup ∧ ∀ s ∈ ps, s < n
theorem FK.nil {n : Nat} : FK n [] (fun _ => none) := ⟨fun _ => rfl, [], rfl, List.nodup_nil, fun _ h => absurd h List.not_mem_nil⟩
theorem FK.few {n : Nat} {kvs : List (L2.Key × V)} {F : Nat → Option Nat} (h : FK n kvs F) : kvs.length ≤ n := by
  obtain ⟨ps, h1, h2, h3⟩ := h.ks
  have := congrArg List.length h1
  rw [List.length_map, List.length_map] at this
  rw [this]
  exact nodup_lt n h2 h3
theorem inl_nat {a b : Nat} (h : (.inl (a : Int) : L2.Key) = .inl (b : Int)) : a = b := by
  have := Sum.inl.inj h
  omega
theorem FK.has {n : Nat} {kvs : List (L2.Key × V)} {F : Nat → Option Nat} (h : FK n kvs F) (s : Nat) : (kvs.any fun kv => decide (kv.1 = .inl (s : Int))) = (F s).isSome := by
  rw [valV_any, h.val, Option.isSome_map]
theorem FK.put {n : Nat} {kvs : List (L2.Key × V)} {F : Nat → Option Nat} (h : FK n kvs F) {s : Nat} (hs : s < n) (k : Nat) : FK n (putK kvs (.inl (s : Int)) (vI k)) (fun x => if x = s then some k else F x) ∧ (F s = none → (putK kvs (.inl (s : Int)) (vI k)).length = kvs.length + 1) := by
  obtain ⟨ps, h1, h2, h3⟩ := h.ks
  have hv : ∀ x : Nat, valV (putK kvs (.inl (s : Int)) (vI k)) (.inl (x : Int)) = (if x = s then some k else F x).map vI := fun x => by
    rw [valV_put, h.val]
    by_cases e : x = s
    · rw [if_pos (by rw [e]), if_pos e]
      rfl
    · rw [if_neg fun z => e (inl_nat z), if_neg e]
  by_cases c : (kvs.any fun kv => decide (kv.1 = .inl (s : Int))) = true
  · refine ⟨⟨hv, ps, ?_, h2, h3⟩, fun e => ?_⟩
    · unfold putK
      rw [if_pos c, List.map_map, ← h1]
      refine List.map_congr_left fun kv _ => ?_
      show (if kv.1 = .inl (s : Int) then (kv.1, vI k) else kv).1 = kv.1
      split <;> rfl
    · rw [h.has, e] at c
      cases c
  · refine ⟨⟨hv, ps ++ [s], ?_, ?_, fun z hz => ?_⟩, fun _ => ?_⟩
    · unfold putK
      rw [if_neg c, List.map_append, List.map_append, h1]
      rfl
    · refine List.nodup_append.mpr ⟨h2, List.nodup_cons.mpr ⟨List.not_mem_nil, List.nodup_nil⟩, fun a ha b hb e => ?_⟩
      rw [List.mem_singleton.mp hb] at e
      subst e
      refine c ?_
      have : (.inl (a : Int) : L2.Key) ∈ kvs.map (·.1) := by
        rw [h1]
        exact List.mem_map.mpr ⟨a, ha, rfl⟩
      obtain ⟨kv, hkv, e2⟩ := List.mem_map.mp this
      exact List.any_eq_true.mpr ⟨kv, hkv, decide_eq_true e2⟩
    · rcases List.mem_append.mp hz with k | k
      · exact h3 z k
      · rw [List.mem_singleton.mp k]
        exact hs
    · unfold putK
      rw [if_neg c, List.length_append]
      rfl
theorem FK.keys {n : Nat} {kvs : List (L2.Key × V)} {F : Nat → Option Nat} (h : FK n kvs F) : ∃ ls : List Nat, (kvs.map fun kv => kV kv.1) = ls.map vI ∧ ls.length = kvs.length ∧ ∀ s, s ∈ ls ↔ F s ≠ none := by
  obtain ⟨ps, h1, h2, h3⟩ := h.ks
  refine ⟨ps, ?_, ?_, fun s => ?_⟩
  · rw [show (kvs.map fun kv => kV kv.1) = (kvs.map (·.1)).map kV by rw [List.map_map]; rfl, h1, List.map_map]
    rfl
  · have := congrArg List.length h1
    rw [List.length_map, List.length_map] at this
    exact this.symm
  · have hs := h.has s
    constructor
    · intro m z
      rw [z] at hs
      have : (.inl (s : Int) : L2.Key) ∈ kvs.map (·.1) := by
        rw [h1]
        exact List.mem_map.mpr ⟨s, m, rfl⟩
      obtain ⟨kv, hkv, e2⟩ := List.mem_map.mp this
      rw [List.any_eq_true.mpr ⟨kv, hkv, decide_eq_true e2⟩] at hs
      cases hs
    · intro z
      have t : (F s).isSome = true := by
        cases e : F s with
        | none => exact absurd e z
        | some _ => rfl
      rw [t] at hs
      obtain ⟨kv, hkv, e2⟩ := List.any_eq_true.mp hs
      have : kv.1 ∈ ps.map (fun s : Nat => (.inl (s : Int) : L2.Key)) := by
        rw [← h1]
        exact List.mem_map.mpr ⟨kv, hkv, rfl⟩
      obtain ⟨a, ha, e3⟩ := List.mem_map.mp this
      rw [of_decide_eq_true e2] at e3
      exact inl_nat e3 ▸ ha
def dG (l : List (List Nat)) : PyData := .list (l.map fun r : List Nat => .list (r.map fun k : Nat => .int (k : Int)))
def nxG (l : List (List Nat)) (s : Nat) : List Nat := (l[s]?).getD []
def spDist (K : PySem.W.Frag) : Sp := fun vs H Q _ => ∃ (v : V) (pb : Addr) (N : List (List Nat)) (B : List Nat), vs = [v, .ref pb] ∧ Dp K H v (dG N) ∧ SqL K H pb (B.map fun k : Nat => V.int (k : Int)) ∧ N.length ≤ 100 ∧ (∀ r ∈ N, r.length ≤ 1000 ∧ ∀ t ∈ r, t < N.length) ∧ (∀ s ∈ B, s < N.length) ∧ B.length ≤ 100 ∧
  ∀ (H' : Hp) (d : Addr) (kvs : List (L2.Key × V)) (F : Nat → Option Nat), Same H H' → H d = none → H' d = some (.dK kvs) → FK N.length kvs F → DistOk (nxG N) B F → Q (.ref d) H'
end Mt
namespace Mt
open PySem PySem.Spec PyProof.Rows L2
theorem FK.lt {n : Nat} {kvs : List (L2.Key × V)} {F : Nat → Option Nat} (h : FK n kvs F) {s k : Nat} (e : F s = some k) : s < n := by
  obtain ⟨ps, h1, h2, h3⟩ := h.ks
  have hs := h.has s
  rw [e] at hs
  obtain ⟨kv, hkv, e2⟩ := List.any_eq_true.mp hs
  have : kv.1 ∈ ps.map (fun s : Nat => (.inl (s : Int) : L2.Key)) := by
    rw [← h1]
    exact List.mem_map.mpr ⟨kv, hkv, rfl⟩
  obtain ⟨a, ha, e3⟩ := List.mem_map.mp this
  rw [of_decide_eq_true e2] at e3
  exact h3 s (inl_nat e3 ▸ ha)
theorem dp_natsI {K : PySem.W.Frag} {H : Hp} : ∀ {l : List Nat} {xs : List V}, DpAll K H xs (l.map fun k : Nat => PyData.int (k : Int)) → xs = l.map vI
  | [], _, h => dpA_nil h
  | k :: l, _, h => by
    obtain ⟨x, r, rfl, h1, h2⟩ := dpA_cons h
    rw [dp_int h1, dp_natsI h2]
    rfl
section
variable {P : Program} {w : World} {K : PySem.W.Frag} {mg : Str → Option Value} {base : Heap}
theorem ok_distances (T : Txt K mg) {f : Addr} {fd : FuncData} (F : FnP K "distances" s_distances f fd) : FnOk P w K mg base CX0 1 f fd ["nexts", "begins"] (spDist K) := by
  refine F.ok sc_distances (fun vs H Q E h => ?_) (fun cdv A outer s H vs Q E hr h => ?_)
  · obtain ⟨v, pb, N, B, rfl, _⟩ := h
    rfl
  · obtain ⟨v, pb, N, B, rfl, hN, hB, nl, nr, bl, b100, q⟩ := h
    refine ⟨_, PSs.nox (pss_cons (DCK.ps_setDcK (i := 2) (own := [("state", 3)]) (g := (gName 3)) rfl sc_distances.nd rfl rfl (DCK.swaps rfl rfl rfl (by decide +kernel)) (pi_list (pv 1)) (blkOk_by (N := N_distances) (sc := defScope s_distances) (by decide +kernel)) (Nat.lt_of_le_of_lt (Nat.le_add_right _ _) hr.units) (fun _ => (pg_name (i := 3) sc_distances.nd rfl (Or.inl rfl))) (fun _ => (pv 3)) (fun _ => pe_int))
      (pss_cons (ps_set (i := 4) sc_distances.nd rfl (Or.inl rfl) (pe_callTy (call_list_dK rfl) (by rfl) T.b_list (by decide +kernel) (pa_cons (pv 2) pa_nil)))
      (pss_cons (ps_while PassesOwn.never (pt_truth (pv 4) (by intro _; rfl)) (pss_cons (ps_set (i := 5) sc_distances.nd rfl (Or.inl rfl) (pe_lst pa_nil))
      (pss_cons (ps_for PassesOwn.never rfl (pi_list (pv 4)) (pg_name (i := 3) sc_distances.nd rfl (Or.inl rfl)) (pss_one (ps_for PassesOwn.never rfl (pi_list (pe_ix ix_list (pv 0) (pv 3) (fun _ _ => rfl))) (pg_name (i := 6) sc_distances.nd rfl (Or.inl rfl)) (pss_one (ps_if (pt_cmp (pc_dnotin (hu_of hr) (pv 6) (pv 2))) (pss_cons (ps_asg (pe_op op_add (pe_dget (hu_of hr) (pv 2) (pv 3) (fun _ _ => rfl)) pe_int) (pg_sub (pv 2) (pv 6) (set_dict (hu_of hr))))
      (pss_one (ps_expr (pe_bm PySem.F.plainAttrs_list PySem.F.slot_list_append PySem.F.type_list_append mt_append (pv 5) (pa_cons (pv 6) pa_nil))))) pss_nil)))))
      (pss_one (ps_set (i := 4) sc_distances.nd rfl (Or.inl rfl) (pv 5))))))
      (pss_one (ps_ret (pv 2)))))), ?_⟩
    have hB : SqL K H pb (B.map vI) := hB
    refine ⟨_, rfl, pb, rfl, ⟨_, hB⟩, fun d hd => dcK_it (walk_list (K := K) (a := pb) (xs := B.map vI)) (fun i H' => ∃ kvs : List (L2.Key × V), Same H H' ∧ H' d = some (.dK kvs) ∧ FK N.length kvs (fun s => if s ∈ B.take i then some 0 else none)) ⟨[], same_new hd, upd_same, FK.nil⟩ (fun i H' _ ⟨_, s, _⟩ => same_l s hB) ?_ ?_⟩
    · rintro i x H2 H2' hi' ⟨kvs, s2, hd2, fk⟩ ⟨e2, hi⟩
      subst e2
      rw [List.getElem?_map] at hi
      obtain ⟨b, hb, rfl⟩ := Option.map_eq_some_iff.mp hi
      have few := fk.few
      have hbn := bl b (List.mem_of_getElem? hb)
      refine ⟨rfl, _, rfl, _, DPut.k (k := .inl (b : Int)) hd2 (line6 (by omega)), _, same_mut s2 hd, upd_same, ?_⟩
      have := (fk.put hbn 0).1
      have e : (fun x => if x = b then some 0 else if x ∈ B.take i then some 0 else none) = fun x => if x ∈ B.take (i + 1) then some 0 else none := by
        funext x
        rw [take_snoc hb]
        by_cases c : x = b
        · rw [if_pos c, if_pos (List.mem_append_right _ (List.mem_singleton.mpr c))]
        · rw [if_neg c]
          by_cases c2 : x ∈ B.take i
          · rw [if_pos c2, if_pos (List.mem_append_left _ c2)]
          · rw [if_neg c2, if_neg fun z => (List.mem_append.mp z).elim c2 fun k => c (List.mem_singleton.mp k)]
      rw [← e]
      exact this
    · rintro H2 ⟨kvs, s2, hd2, fk⟩
      rw [List.length_map, List.take_length] at fk
      obtain ⟨ls, el, ll, lm⟩ := fk.keys
      have few := fk.few
      refine ⟨_, rfl, d, kvs, rfl, hd2, fun L hL => ?_⟩
      rw [el]
      have s3 := s2.trans (same_new (o := .lst (ls.map vI)) hL)
      have hd3 := same_new (o := .lst (ls.map vI)) hL _ _ hd2
      have hL3 := upd_same (H := H2) (a := L) (o := .lst (ls.map vI))
      generalize upd H2 L (.lst (ls.map vI)) = H3 at s3 hd3 hL3
      have bt : BTop (nxG N) B 0 (fun s => if s ∈ B then some 0 else none) ls := BTop.begin B fun s => (lm s).trans ⟨fun h => by
        by_cases c : s ∈ B
        · exact c
        · exact absurd (if_neg c) h, fun c => by
        rw [if_pos c]
        exact fun z => nomatch z⟩
      have hN3 := dp_same s3 _ _ hN
      refine ⟨fun mm σ H' => ∃ (L : Addr) (y3 y5 y6 : Option V) (kvs : List (L2.Key × V)) (m : Nat) (F : Nat → Option Nat) (ls : List Nat), mm = 2 * (200 - kvs.length) + min 1 ls.length ∧ σ = [some v, some (.ref pb), some (.ref d), y3, some (.ref L), y5, y6] ∧ Same H H' ∧ H' d = some (.dK kvs) ∧ FK N.length kvs F ∧ H' L = some (.lst (ls.map vI)) ∧ BTop (nxG N) B m F ls ∧ ls.length ≤ kvs.length, ⟨_, L, _, _, _, kvs, 0, _, ls, rfl, rfl, s3, hd3, fk, hL3, bt, Nat.le_of_eq ll⟩, ?_⟩
      rintro mm σ H4 ⟨L, y3, y5, y6, kvs, m, F, ls, rfl, rfl, s4, hd4, fk, hL4, bt, ll⟩
      have few := fk.few
      refine ⟨_, rfl, !(ls.map vI).isEmpty, .inl ⟨_, SqL.of hL4, rfl⟩, ?_⟩
      refine ite2 (fun hne => ?_) (fun hem => ?_)
      · have lpos : 0 < ls.length := by
          cases ls with
          | nil => cases hne
          | cons a r => exact Nat.succ_pos _
        refine ⟨fun σ' H' => ∃ (L : Addr) (y3 y5 y6 : Option V) (kvs' : List (L2.Key × V)) (m : Nat) (F : Nat → Option Nat) (ls' : List Nat), kvs'.length = kvs.length + ls'.length ∧ σ' = [some v, some (.ref pb), some (.ref d), y3, some (.ref L), y5, y6] ∧ Same H H' ∧ H' d = some (.dK kvs') ∧ FK N.length kvs' F ∧ H' L = some (.lst (ls'.map vI)) ∧ BTop (nxG N) B m F ls', fun σ' H' ⟨L, z3, z5, z6, kvs', m, F, ls', hl, e, a1, a2, a3, a4, a5⟩ => ⟨2 * (200 - kvs'.length) + min 1 ls'.length, ?_, L, z3, z5, z6, kvs', m, F, ls', rfl, e, a1, a2, a3, a4, a5, by omega⟩, ?_⟩
        · have := a3.few
          omega
        refine ⟨Nat.zero_le _, fun Fa hFa => ?_⟩
        have LF : L ≠ Fa := ne_of_none hL4 hFa
        have s5 := same_new (o := .lst []) hFa
        have hFa5 := upd_same (H := H4) (a := Fa) (o := .lst [])
        have hFaH : H Fa = none := s4.free hFa
        generalize upd H4 Fa (.lst []) = H5 at s5 hFa5
        refine ⟨_, rfl, L, rfl, ⟨_, SqL.of (s5 _ _ hL4)⟩, for_list (K := K) (a := L) (xs := ls.map vI) (fun a σ H' => ∃ (y3 y6 : Option V) (kvs' : List (L2.Key × V)) (F : Nat → Option Nat) (fs : List Nat), kvs'.length = kvs.length + fs.length ∧ σ = [some v, some (.ref pb), some (.ref d), y3, some (.ref L), some (.ref Fa), y6] ∧ Same H H' ∧ H' d = some (.dK kvs') ∧ FK N.length kvs' F ∧ H' L = some (.lst (ls.map vI)) ∧ H' Fa = some (.lst (fs.map vI)) ∧ BIn (nxG N) B m F ls fs a []) ⟨_, _, kvs, F, [], rfl, rfl, s4.trans s5, s5 _ _ hd4, fk, s5 _ _ hL4, hFa5, bt.layer⟩ (fun a σ H' _ ⟨_, _, _, _, _, _, _, _, _, _, h, _⟩ => SqL.of h) ?_ ?_⟩
        · rintro a x σ H6 ha ⟨y3, y6, kvs', F, fs, hl, rfl, s6, hd6, fk6, hL6, hFa6, bi⟩
          rw [List.getElem?_map] at ha
          obtain ⟨q0, hq, rfl⟩ := Option.map_eq_some_iff.mp ha
          have hFq := (bi.lay q0).mp (List.mem_of_getElem? hq)
          obtain ⟨pn, xs, rfl, hpn, hxs⟩ := dp_lst (id hN)
          have qn := fk6.lt hFq
          obtain ⟨row, hrow⟩ : ∃ row, N[q0]? = some row := ⟨_, List.getElem?_eq_getElem qn⟩
          obtain ⟨rl, rt⟩ := nr row (List.mem_of_getElem? hrow)
          have enx : nxG N q0 = row := by
            unfold nxG
            rw [hrow]
            rfl
          obtain ⟨xr, hxr, dxr⟩ := dpA_get hxs hrow
          obtain ⟨pr, rs, rfl, hpr, hrs⟩ := dp_lst dxr
          obtain rfl := dp_natsI hrs
          refine ⟨_, rfl, _, rfl, pn, _, _, _, rfl, rfl, same_l s6 hpn, atI_nat hxr, pr, rfl, ⟨_, same_l s6 hpr⟩, for_list (K := K) (a := pr) (xs := row.map vI) (fun j σ H' => ∃ (y6 : Option V) (kvs' : List (L2.Key × V)) (F : Nat → Option Nat) (fs : List Nat), kvs'.length = kvs.length + fs.length ∧ σ = [some (.ref pn), some (.ref pb), some (.ref d), some (vI q0), some (.ref L), some (.ref Fa), y6] ∧ Same H H' ∧ H' d = some (.dK kvs') ∧ FK N.length kvs' F ∧ H' L = some (.lst (ls.map vI)) ∧ H' Fa = some (.lst (fs.map vI)) ∧ F q0 = some m ∧ BIn (nxG N) B m F ls fs a (row.take j)) ⟨_, kvs', F, fs, hl, rfl, s6, hd6, fk6, hL6, hFa6, hFq, bi⟩ (fun j σ H' _ ⟨_, _, _, _, _, _, s, _⟩ => same_l s hpr) ?_ ?_⟩
          · rintro j y σ H7 hj ⟨y6, kvs', F, fs, hl, rfl, s7, hd7, fk7, hL7, hFa7, hFq, bi⟩
            rw [List.getElem?_map] at hj
            obtain ⟨t, ht, rfl⟩ := Option.map_eq_some_iff.mp hj
            have tm := List.mem_of_getElem? ht
            have tn := rt t tm
            have few7 := fk7.few
            refine ⟨_, rfl, _, rfl, d, _, rfl, DGet.k (k := .inl (t : Int)) hd7, _, rfl, ?_⟩
            rw [fk7.val]
            cases e : F t with
            | some k =>
              refine ite2 (fun h => (nomatch (show false = true from h))) (fun _ => ?_)
              refine ⟨_, kvs', F, fs, hl, rfl, s7, hd7, fk7, hL7, hFa7, hFq, ?_⟩
              rw [take_snoc ht]
              exact bi.old e
            | none =>
              refine ite2 (fun _ => ?_) (fun h => absurd rfl h)
              have Fad : Fa ≠ d := fun z => by
                rw [z, hd7] at hFa7
                cases hFa7
              have Ld : L ≠ d := fun z => by
                rw [z, hd7] at hL7
                cases hL7
              have gq : some (vI m) = valV kvs' (.inl (q0 : Int)) := by
                rw [fk7.val, hFq]
                rfl
              refine ⟨_, rfl, _, rfl, d, vI m, rfl, by rw [gq]; exact DGet.k (k := .inl (q0 : Int)) hd7, _, _, rfl, rfl, ?_⟩
              obtain ⟨fk8, kl8⟩ := fk7.put tn (m + 1)
              have e8 : (fun i j : Int => V.int (i + j)) (m : Int) 1 = vI (m + 1) := by
                show V.int ((m : Int) + 1) = V.int ((m + 1 : Nat) : Int)
                rw [Int.natCast_add]
                rfl
              rw [e8]
              refine ⟨_, rfl, _, rfl, d, _, rfl, DPut.k (k := .inl (t : Int)) hd7 (line6 (by omega)), ?_⟩
              have hFa8 : (upd H7 d (.dK (putK kvs' (.inl (t : Int)) (vI (m + 1))))) Fa = some (.lst (fs.map vI)) := by
                rw [upd_ne Fad]
                exact hFa7
              have fl : fs.length ≤ 200 := by omega
              refine ⟨_, rfl, .inl ⟨rfl, _, SqL.of hFa8⟩, _, rfl, Fa, _, _, rfl, rfl, hFa8, by rw [List.length_map]; exact line6 (by omega), ?_⟩
              refine ⟨_, _, _, fs ++ [t], ?_, rfl, same_mut (same_mut s7 hd) hFaH, by rw [upd_ne Fad.symm, upd_same], fk8, by rw [upd_ne LF, upd_ne Ld]; exact hL7, by rw [upd_same, List.map_append]; rfl, ?_, ?_⟩
              · rw [kl8 e, List.length_append]
                show _ + 1 = _ + (_ + 1)
                omega
              · show (if q0 = t then some (m + 1) else F q0) = some m
                rw [if_neg fun z => by
                  rw [← z, hFq] at e
                  cases e]
                exact hFq
              · rw [take_snoc ht]
                exact bi.more hFq (by rw [enx]; exact tm) e
          · rintro σ H7 ⟨y6, kvs', F, fs, hl, rfl, s7, hd7, fk7, hL7, hFa7, hFq, bi⟩
            rw [List.length_map, List.take_length, ← enx] at bi
            exact ⟨_, _, kvs', F, fs, hl, rfl, s7, hd7, fk7, hL7, hFa7, bi.row hq⟩
        · rintro σ H6 ⟨y3, y6, kvs', F, fs, hl, rfl, s6, hd6, fk6, hL6, hFa6, bi⟩
          rw [List.length_map] at bi
          exact ⟨_, rfl, Fa, _, _, _, kvs', m + 1, F, fs, hl, rfl, s6, hd6, fk6, hFa6, bi.fin⟩
      · have l0 : ls = [] := by
          cases ls with
          | nil => rfl
          | cons a r => exact absurd rfl hem
        subst l0
        exact ⟨_, rfl, q H4 d kvs F s4 hd hd4 fk bt.stop⟩
end
end Mt
namespace Mt
open PySem PySem.Spec PyProof.Rows L2
theorem dpA_ofI {K : PySem.W.Frag} {H : Hp} : ∀ {xs : List V} {ds : List PyData}, xs.length = ds.length → (∀ (i : Nat) (x : V) (d : PyData), xs[i]? = some x → ds[i]? = some d → Dp K H x d) → DpAll K H xs ds
  | [], [], _, _ => .nil
  | x :: xs, d :: ds, h, f => .cons (f 0 x d rfl rfl) (dpA_ofI (by simpa using h) fun i a b h1 h2 => f (i + 1) a b h1 h2)
  | [], _ :: _, h, _ => nomatch h
  | _ :: _, [], h, _ => nomatch h
/-- lists of numbers, filled in place -/
structure Srcs (H0 H : Hp) (L : Addr) (as : List Addr) (m : Nat → List Nat) : Prop where
  same : Same H0 H
  top : H L = some (.lst (as.map V.ref))
  nd : as.Nodup
  out : L ∉ as
  at_ : ∀ (t : Nat) (a : Addr), as[t]? = some a → H a = some (.lst ((m t).map vI))
  fresh : ∀ a ∈ as, H0 a = none
theorem Srcs.nil {H : Hp} {L : Addr} {m : Nat → List Nat} (h : H L = none) : Srcs H (upd H L (.lst [])) L [] m :=
  ⟨same_new h, upd_same, List.nodup_nil, List.not_mem_nil, fun t a e => (nomatch e), fun a h => absurd h List.not_mem_nil⟩
theorem Srcs.add {H0 H : Hp} {L M : Addr} {as : List Addr} (h : Srcs H0 H L as (fun _ => [])) (hM : H M = none) (hL : H0 L = none) : Srcs H0 (upd (upd H M (.lst [])) L (.lst (as.map V.ref ++ [.ref M]))) L (as ++ [M]) (fun _ => []) := by
  have ML : M ≠ L := fun e => by
    have := h.top
    rw [← e, hM] at this
    cases this
  have Ma : M ∉ as := fun z => by
    obtain ⟨t, ht⟩ := List.getElem?_of_mem z
    have := h.at_ t M ht
    rw [hM] at this
    cases this
  refine ⟨same_mut (h.same.trans (same_new hM)) hL, by rw [upd_same, List.map_append]; rfl, List.nodup_append.mpr ⟨h.nd, List.nodup_cons.mpr ⟨List.not_mem_nil, List.nodup_nil⟩, fun a ha b hb e => ?_⟩, fun z => ?_, fun t a e => ?_, fun a z => ?_⟩
  · rw [List.mem_singleton.mp hb] at e
    exact Ma (e ▸ ha)
  · rcases List.mem_append.mp z with k | k
    · exact h.out k
    · exact ML (List.mem_singleton.mp k).symm
  · have hm : a ∈ as ++ [M] := List.mem_of_getElem? e
    rcases List.mem_append.mp hm with k | k
    · obtain ⟨t', ht'⟩ := List.getElem?_of_mem k
      rw [upd_ne fun z : a = L => h.out (z ▸ k), upd_ne fun z : a = M => Ma (z ▸ k)]
      exact h.at_ t' a ht'
    · rw [List.mem_singleton.mp k, upd_ne ML, upd_same]
      rfl
  · rcases List.mem_append.mp z with k | k
    · exact h.fresh a k
    · rw [List.mem_singleton.mp k]
      cases e : H0 M with
      | none => rfl
      | some o =>
        have := h.same _ _ e
        rw [hM] at this
        cases this
theorem Srcs.grow {H0 H H' : Hp} {L : Addr} {as : List Addr} {m : Nat → List Nat} (h : Srcs H0 H L as m) (s : Same H H') : Srcs H0 H' L as m :=
  ⟨h.same.trans s, s _ _ h.top, h.nd, h.out, fun t a e => s _ _ (h.at_ t a e), h.fresh⟩
theorem nd_at {as : List Addr} (h : as.Nodup) {i j : Nat} {a : Addr} (h1 : as[i]? = some a) (h2 : as[j]? = some a) : i = j := by
  obtain ⟨l1, e1⟩ := List.getElem?_eq_some_iff.mp h1
  obtain ⟨l2, e2⟩ := List.getElem?_eq_some_iff.mp h2
  rcases Nat.lt_trichotomy i j with g | g | g
  · exact absurd (e1.trans e2.symm) (List.pairwise_iff_getElem.mp h i j l1 l2 g)
  · exact g
  · exact absurd (e2.trans e1.symm) (List.pairwise_iff_getElem.mp h j i l2 l1 g)
theorem Srcs.put {H0 H : Hp} {L : Addr} {as : List Addr} {m : Nat → List Nat} (h : Srcs H0 H L as m) {t s : Nat} {a : Addr} (e : as[t]? = some a) : Srcs H0 (upd H a (.lst ((m t).map vI ++ [vI s]))) L as (fun x => if x = t then m t ++ [s] else m x) := by
  have am := List.mem_of_getElem? e
  refine ⟨same_mut h.same (h.fresh a am), ?_, h.nd, h.out, fun t' a' e' => ?_, h.fresh⟩
  · rw [upd_ne fun z : L = a => h.out (z ▸ am)]
    exact h.top
  · by_cases c : t' = t
    · subst c
      rw [e] at e'
      cases e'
      rw [upd_same, if_pos rfl, List.map_append]
      rfl
    · rw [if_neg c, upd_ne fun z : a' = a => c (nd_at h.nd (z ▸ e') e)]
      exact h.at_ t' a' e'
theorem Srcs.dp {K : PySem.W.Frag} {H0 H : Hp} {L : Addr} {as : List Addr} {m : Nat → List Nat} (h : Srcs H0 H L as m) : Dp K H (.ref L) (dG ((List.range as.length).map m)) := by
  refine .lst (SqL.of h.top) (dpA_ofI (by simp) fun i x d h1 h2 => ?_)
  rw [List.getElem?_map] at h1 h2
  obtain ⟨a, ha, rfl⟩ := Option.map_eq_some_iff.mp h1
  obtain ⟨r, hr, rfl⟩ := Option.map_eq_some_iff.mp h2
  have il := (List.getElem?_eq_some_iff.mp ha).1
  rw [List.getElem?_map, List.getElem?_range il] at hr
  cases hr
  refine .lst (SqL.of (h.at_ i a ha)) (dpA_ofI (by simp) fun j y e h3 h4 => ?_)
  rw [List.getElem?_map] at h3 h4
  obtain ⟨k, hk, rfl⟩ := Option.map_eq_some_iff.mp h3
  rw [hk] at h4
  cases h4
  exact .int _
/-- what has been told of the arcs: all rows ahead of i, and the first j of row i -/
structure TrnI (N : List (List Nat)) (i : Nat) (S : List Nat) (m : Nat → List Nat) : Prop where
  iff : ∀ t s, s ∈ m t ↔ (s < i ∧ t ∈ nxG N s) ∨ (s = i ∧ t ∈ S)
  len : ∀ t, (m t).length ≤ i * 20 + S.length
theorem TrnI.nil {N : List (List Nat)} : TrnI N 0 [] (fun _ => []) := ⟨fun t s => ⟨fun h => absurd h List.not_mem_nil, fun h => h.elim (fun h => absurd h.1 (Nat.not_lt_zero _)) fun h => absurd h.2 List.not_mem_nil⟩, fun t => Nat.zero_le _⟩
theorem TrnI.put {N : List (List Nat)} {i : Nat} {S : List Nat} {m : Nat → List Nat} (h : TrnI N i S m) (t : Nat) : TrnI N i (S ++ [t]) (fun x => if x = t then m t ++ [i] else m x) := by
  refine ⟨fun x s => ?_, fun x => ?_⟩
  · by_cases c : x = t
    · subst c
      rw [if_pos rfl, List.mem_append, h.iff, List.mem_singleton, List.mem_append, List.mem_singleton]
      constructor
      · rintro ((k | k) | k)
        · exact .inl k
        · exact .inr ⟨k.1, .inl k.2⟩
        · exact .inr ⟨k, .inr rfl⟩
      · rintro (k | ⟨k, _⟩)
        · exact .inl (.inl k)
        · exact .inr k
    · rw [if_neg c, h.iff, List.mem_append, List.mem_singleton]
      constructor
      · rintro (k | k)
        · exact .inl k
        · exact .inr ⟨k.1, .inl k.2⟩
      · rintro (k | ⟨k, k2 | k2⟩)
        · exact .inl k
        · exact .inr ⟨k, k2⟩
        · exact absurd k2 c
  · have h1 := h.len t
    have h2 := h.len x
    rw [List.length_append, List.length_singleton]
    show (if x = t then m t ++ [i] else m x).length ≤ _
    split
    · rw [List.length_append, List.length_singleton]
      omega
    · omega
theorem TrnI.row {N : List (List Nat)} {i : Nat} {m : Nat → List Nat} (h : TrnI N i (nxG N i) m) (hl : (nxG N i).length ≤ 20) : TrnI N (i + 1) [] m := by
  refine ⟨fun t s => (h.iff t s).trans ⟨?_, ?_⟩, fun t => ?_⟩
  · rintro (k | k)
    · exact .inl ⟨by omega, k.2⟩
    · exact .inl ⟨by omega, k.1 ▸ k.2⟩
  · rintro (k | k)
    · by_cases c : s < i
      · exact .inl ⟨c, k.2⟩
      · have : s = i := by omega
        exact .inr ⟨this, this ▸ k.2⟩
    · exact absurd k.2 List.not_mem_nil
  · have := h.len t
    show _ ≤ (i + 1) * 20 + 0
    omega
def spTurned (K : PySem.W.Frag) : Sp := fun vs H Q _ => ∃ (v : V) (N : List (List Nat)), vs = [v] ∧ Dp K H v (dG N) ∧ N.length ≤ 50 ∧ (∀ r ∈ N, r.length ≤ 20 ∧ ∀ t ∈ r, t < N.length) ∧
  ∀ (H' : Hp) (v' : V) (M : List (List Nat)), Same H H' → Dp K H' v' (dG M) → M.length = N.length → (∀ r ∈ M, r.length ≤ 1000 ∧ ∀ s ∈ r, s < N.length) → (∀ t s, t < N.length → (s ∈ nxG M t ↔ t ∈ nxG N s)) → Q v' H'
section
variable {P : Program} {w : World} {K : PySem.W.Frag} {mg : Str → Option Value} {base : Heap}
theorem ok_turned (T : Txt K mg) {f : Addr} {fd : FuncData} (F : FnP K "turned" s_turned f fd) : FnOk P w K mg base CX0 1 f fd ["nexts"] (spTurned K) := by
  refine F.ok sc_turned (fun vs H Q E h => ?_) (fun cdv A outer s H vs Q E hr h => ?_)
  · obtain ⟨v, N, rfl, _⟩ := h
    rfl
  · obtain ⟨v, N, rfl, hN, nl, nr, q⟩ := h
    refine ⟨_, PSs.nox (pss_cons (ps_setLc (i := 1) (own := [("_", 2)]) (g := (gName 2)) (tt := tYes) rfl sc_turned.nd rfl rfl (sw_true rfl rfl rfl (by decide +kernel)) (pi_list (pv 0)) (blkOk_by (N := N_turned) (sc := defScope s_turned) (by decide +kernel)) (fun _ _ _ _ _ => (pg_name (i := 2) sc_turned.nd rfl (Or.inl rfl))) (fun _ _ _ _ _ => pts_nil) (fun _ _ _ _ _ => (pe_lst pa_nil)))
      (pss_cons (ps_for PassesOwn.never rfl (pi_enum (by rfl) T.b_enumerate (pa_cons (pv 0) pa_nil)) (pg_tup rfl (pgs_cons (pg_name (i := 3) sc_turned.nd rfl (Or.inl rfl)) (pgs_cons (pg_name (i := 4) sc_turned.nd rfl (Or.inl rfl)) pgs_nil))) (pss_one (ps_for PassesOwn.never rfl (pi_list (pv 4)) (pg_name (i := 5) sc_turned.nd rfl (Or.inl rfl)) (pss_one (ps_expr (pe_bm PySem.F.plainAttrs_list PySem.F.slot_list_append PySem.F.type_list_append mt_append (pe_ix ix_list (pv 1) (pv 5) (fun _ _ => rfl)) (pa_cons (pv 3) pa_nil)))))))
      (pss_one (ps_ret (pv 1))))), ?_⟩
    obtain ⟨pn, xs, rfl, hpn, hxs⟩ := dp_lst (id hN)
    have xl := dpA_len hxs
    rw [List.length_map] at xl
    refine ⟨_, rfl, pn, rfl, ⟨_, hpn⟩, fun L hL => lc_list (K := K) (a := pn) (xs := xs) (fun i H' => ∃ as, Srcs H H' L as (fun _ => []) ∧ as.length = i) ⟨[], Srcs.nil hL, rfl⟩ (fun i H' _ ⟨_, s, _⟩ => same_l s.same hpn) ?_ ?_⟩
    · rintro i x H1 hi ⟨as, sr, al⟩
      have il := (List.getElem?_eq_some_iff.mp hi).1
      refine ⟨rfl, Nat.zero_le _, fun M hM => ?_⟩
      have LM : L ≠ M := fun e => by
        have := sr.top
        rw [e, hM] at this
        cases this
      exact ⟨_, by rw [upd_ne LM]; exact sr.top, by rw [List.length_map]; exact line6 (by omega), as ++ [M], sr.add hM hL, by rw [List.length_append, al]; rfl⟩
    · rintro H1 ⟨as, sr, al⟩
      refine ⟨_, rfl, pn, xs, rfl, same_l sr.same hpn, for_it walk_enum (fun i σ H' => ∃ (y2 y3 y4 y5 : Option V) (m : Nat → List Nat), σ = [some (.ref pn), some (.ref L), y2, y3, y4, y5] ∧ Srcs H H' L as m ∧ TrnI N i [] m) ⟨_, _, _, _, _, rfl, sr, TrnI.nil⟩ (fun i σ H' _ ⟨_, _, _, _, _, _, s, _⟩ => same_l s.same hpn) ?_ ?_⟩
      · rintro i x σ H2 H2' hi ⟨y2, y3, y4, y5, m, rfl, sr, tr⟩ ⟨T', a, y, rfl, hT, rfl, ha, hb⟩
        obtain rfl := Option.some.inj ha
        obtain ⟨row, hrow, hy⟩ := dpA_mem hxs hb
        obtain ⟨rl, rt⟩ := nr row (List.mem_of_getElem? hrow)
        have enx : nxG N i = row := by
          unfold nxG
          rw [hrow]
          rfl
        obtain ⟨pr, rs, rfl, hpr, hrs⟩ := dp_lst hy
        obtain rfl := dp_natsI hrs
        have sr2 := sr.grow (same_new (o := .tup [V.int (i : Int), .ref pr]) hT)
        have hT2 := upd_same (H := H2) (a := T') (o := .tup [V.int (i : Int), .ref pr])
        generalize upd H2 T' (.tup [V.int (i : Int), .ref pr]) = H3 at sr2 hT2
        refine ⟨T', _, rfl, SqT.of hT2, rfl, _, _, rfl, _, _, rfl, rfl, ?_⟩
        refine ⟨_, rfl, pr, rfl, ⟨_, same_l sr2.same hpr⟩, for_list (K := K) (a := pr) (xs := row.map vI) (fun j σ H' => ∃ (y5 : Option V) (m : Nat → List Nat), σ = [some (.ref pn), some (.ref L), y2, some (.int (i : Int)), some (.ref pr), y5] ∧ Srcs H H' L as m ∧ TrnI N i (row.take j) m) ⟨_, m, rfl, sr2, tr⟩ (fun j σ H' _ ⟨_, _, _, s, _⟩ => same_l s.same hpr) ?_ ?_⟩
        · rintro j z σ H4 hj ⟨y5, m, rfl, sr4, tr4⟩
          rw [List.getElem?_map] at hj
          obtain ⟨t, ht, rfl⟩ := Option.map_eq_some_iff.mp hj
          have tn := rt t (List.mem_of_getElem? ht)
          have et : as[t]? = some (as[t]'(by omega)) := List.getElem?_eq_getElem _
          generalize as[t]'(by omega) = a at et
          have ha4 := sr4.at_ t a et
          have ml := tr4.len t
          have jl : (row.take j).length ≤ 20 := Nat.le_trans (by rw [List.length_take]; omega) rl
          have hi' : i ≤ 50 := by omega
          have eat : atI (as.map V.ref) (t : Int) = some (.ref a) := by
            refine atI_nat ?_
            rw [List.getElem?_map, et]
            rfl
          refine ⟨_, rfl, _, rfl, L, _, _, _, rfl, rfl, SqL.of sr4.top, eat, .inl ⟨rfl, _, SqL.of ha4⟩, _, rfl, a, _, _, rfl, rfl, ha4, by rw [List.length_map]; exact line6 (by omega), ?_⟩
          refine ⟨_, _, rfl, sr4.put (s := i) et, ?_⟩
          rw [take_snoc ht]
          exact tr4.put t
        · rintro σ H4 ⟨y5, m, rfl, sr4, tr4⟩
          rw [List.length_map, List.take_length, ← enx] at tr4
          exact ⟨_, _, _, _, m, rfl, sr4, tr4.row (by rw [enx]; exact rl)⟩
      · rintro σ H2 ⟨y2, y3, y4, y5, m, rfl, sr, tr⟩
        rw [xl] at tr
        refine ⟨_, rfl, q H2 _ _ sr.same sr.dp (by simp [al, xl]) (fun r hr => ?_) fun t s ht => ?_⟩
        · obtain ⟨t, ht, rfl⟩ := List.mem_map.mp hr
          have := tr.len t
          refine ⟨by have : N.length * 20 + 0 ≤ 1000 := by omega
                     exact Nat.le_trans (tr.len t) this, fun s hs => ?_⟩
          rcases (tr.iff t s).mp hs with k | k
          · exact k.1
          · exact absurd k.2 List.not_mem_nil
        · have : nxG ((List.range as.length).map m) t = m t := by
            unfold nxG
            rw [List.getElem?_map, List.getElem?_range (by omega)]
            rfl
          rw [this, tr.iff]
          constructor
          · rintro (k | k)
            · exact k.2
            · exact absurd k.2 List.not_mem_nil
          · intro k
            refine .inl ⟨?_, k⟩
            by_cases c : s < N.length
            · exact c
            · unfold nxG at k
              rw [List.getElem?_eq_none (by omega)] at k
              exact absurd k List.not_mem_nil
end
end Mt
namespace Mt
open PySem PySem.Spec PyProof.Rows L2
theorem eqv_bl (a b : Bool) : decide (V.bl a = V.bl b) = (a == b) := by cases a <;> cases b <;> rfl
def spIsBool : Sp := fun vs H Q _ => ∃ a b : Bool, vs = [.bl a, .bl b] ∧ Q (.bl (a == b)) H
section
variable {P : Program} {w : World} {K : PySem.W.Frag} {mg : Str → Option Value} {base : Heap}
theorem ok__law_is_bool (T : Txt K mg) {f : Addr} {fd : FuncData} (F : FnP K "_law_is_bool" s__law_is_bool f fd) : FnOk P w K mg base CX0 1 f fd ["told", "due"] spIsBool := by
  refine F.ok sc__law_is_bool (fun vs H Q E h => ?_) (fun cdv A outer s H vs Q E hr h => ?_)
  · obtain ⟨a, b, rfl, _⟩ := h
    rfl
  · obtain ⟨a, b, rfl, q⟩ := h
    refine ⟨_, PSs.nox (pss_one (ps_ret (pe_and (pe_callB call_isi (by rfl) T.b_isinstance (by decide +kernel) (pa_cons (pv 0) (pa_cons (pe_bltn (v := .ty "bool") (u := .type "bool") (by rfl) T.b_bool (by decide +kernel) rfl) pa_nil))) (pe_one (pe_cmpR op_eq (pv 0) (pv 1) (nomark _)))))), ?_⟩
    refine ⟨_, rfl, _, .ty "bool", .type "bool", .type "bool", true, rfl, .ty _, .base (.bl _), kit_ty (by decide +kernel), true, rfl, ite2 (fun _ => ?_) (fun h => absurd rfl h)⟩
    refine ⟨_, rfl, _, rfl, rfl, ?_⟩
    rw [eqv_bl]
    exact q
end
end Mt
namespace Mt
open PySem PySem.Spec PyProof.Rows L2
theorem less_trans {h g f : F2} (hf : 0 < f.2) (hg : 0 < g.2) (hh : 0 < h.2) (a : lessB h g = true) (b : lessB g f = true) : lessB h f = true := by
  have a : h.1 * g.2 < g.1 * h.2 := of_decide_eq_true a
  have b : g.1 * f.2 < f.1 * g.2 := of_decide_eq_true b
  refine decide_eq_true ?_
  have e1 : h.1 * g.2 * f.2 < g.1 * h.2 * f.2 := Int.mul_lt_mul_of_pos_right a hf
  have e2 : g.1 * f.2 * h.2 < f.1 * g.2 * h.2 := Int.mul_lt_mul_of_pos_right b hh
  have e3 : (h.1 * f.2) * g.2 < (f.1 * h.2) * g.2 := by grind
  exact Int.lt_of_mul_lt_mul_right e3 (Int.le_of_lt hg)
/-- one of them that none is ahead of -/
def spExt (K : PySem.W.Frag) (lt : F2 → F2 → Bool) : Sp := fun vs H Q _ => ∃ (L : Addr) (us : List V) (fs : List F2), vs = [.ref L] ∧ SqL K H L us ∧ DpAll K H us (fs.map dF) ∧ 0 < fs.length ∧ (∀ f ∈ fs, Low f ∧ Sz 400 f) ∧
  ∀ (x : V) (f : F2), f ∈ fs → Dp K H x (dF f) → (∀ g ∈ fs, lt g f = false) → Q x H
section
variable {P : Program} {w : World} {K : PySem.W.Frag} {mg : Str → Option Value} {base : Heap}
theorem ok_least_of (T : Txt K mg) (D_is_less : Kept P w K mg base 1 "is_less" ["a", "b"] (spLess K)) {f : Addr} {fd : FuncData} (F : FnP K "least_of" s_least_of f fd) : FnOk P w K mg base CX0 2 f fd ["fractions"] (spExt K fun g f => lessB g f) := by
  refine F.ok sc_least_of (fun vs H Q E h => ?_) (fun cdv A outer s H vs Q E hr h => ?_)
  · obtain ⟨L, us, fs, rfl, _⟩ := h
    rfl
  · obtain ⟨L, us, fs, rfl, hL, hd, hl, ok, q⟩ := h
    refine ⟨_, PSs.nox (pss_cons (ps_set (i := 1) sc_least_of.nd rfl (Or.inl rfl) (pe_ix ix_list (pv 0) pe_int (fun _ _ => rfl)))
      (pss_cons (ps_for PassesOwn.never rfl (pi_list (pv 0)) (pg_name (i := 2) sc_least_of.nd rfl (Or.inl rfl)) (pss_one (ps_if (pt_val (pe_d D_is_less (hr.mono (by decide)) (by rfl) (pa_cons (pv 2) (pa_cons (pv 1) pa_nil)))) (pss_one (ps_set (i := 1) sc_least_of.nd rfl (Or.inl rfl) (pv 2))) pss_nil)))
      (pss_one (ps_ret (pv 1))))), ?_⟩
    have ul := dpA_len hd
    rw [List.length_map] at ul
    obtain ⟨f0, h0⟩ : ∃ f, fs[0]? = some f := ⟨_, List.getElem?_eq_getElem hl⟩
    obtain ⟨x0, hx0, d0⟩ := dpA_get hd h0
    obtain ⟨p0, rfl, hp0⟩ := f2_at d0
    refine ⟨_, rfl, L, _, _, _, rfl, rfl, hL, atI_nat (j := 0) hx0, ?_⟩
    refine ⟨_, rfl, L, rfl, ⟨_, hL⟩, for_list (K := K) (a := L) (xs := us) (fun i σ H' => ∃ (p : Addr) (f : F2) (y2 : Option V), σ = [some (.ref L), some (.ref p), y2] ∧ H' = H ∧ f ∈ fs ∧ SqT K H p (tupV f) ∧ ∀ g ∈ fs.take i, lessB g f = false) ⟨p0, f0, _, rfl, rfl, List.mem_of_getElem? h0, hp0, fun _ h => absurd h List.not_mem_nil⟩ (fun i σ H' _ ⟨_, _, _, _, e, _⟩ => e ▸ hL) ?_ ?_⟩
    · rintro i x σ H' hi ⟨p, f, y2, rfl, rfl, hf, hp, lo⟩
      obtain ⟨g, hg, dx⟩ := dpA_mem hd hi
      obtain ⟨pg, rfl, hpg⟩ := f2_at dx
      have gm := List.mem_of_getElem? hg
      obtain ⟨lg, zg⟩ := ok g gm
      obtain ⟨lf, zf⟩ := ok f hf
      have pg' := lg.pos
      have pf' := lf.pos
      refine ⟨_, rfl, _, rfl, pg, p, g, f, rfl, hpg, hp, sz_up zg (by decide), sz_up zf (by decide), ?_⟩
      cases hc : lessB g f with
      | true =>
        refine ⟨_, rfl, ite2 (fun _ => ?_) (fun h => absurd rfl h)⟩
        refine ⟨_, rfl, pg, g, _, rfl, rfl, gm, hpg, fun x hx => ?_⟩
        rw [take_snoc hg] at hx
        cases hh : lessB x g with
        | false => rfl
        | true =>
          rcases List.mem_append.mp hx with m | m
          · have xm := List.mem_of_mem_take m
            have px := (ok x xm).1.pos
            have := less_trans (f := f) (by omega) (by omega) (by omega) hh hc
            rw [lo x m] at this
            cases this
          · rw [List.mem_singleton.mp m] at hh
            have := of_decide_eq_true hh
            omega
      | false =>
        refine ⟨_, rfl, ite2 (fun h => (nomatch (show false = true from h))) (fun _ => ?_)⟩
        refine ⟨p, f, _, rfl, rfl, hf, hp, fun x hx => ?_⟩
        rw [take_snoc hg] at hx
        rcases List.mem_append.mp hx with m | m
        · exact lo x m
        · rw [List.mem_singleton.mp m]
          exact hc
    · rintro σ H' ⟨p, f, y2, rfl, rfl, hf, hp, lo⟩
      rw [ul, List.take_length] at lo
      exact ⟨_, rfl, q _ f hf (dp_F hp) lo⟩
theorem ok_greatest_of (T : Txt K mg) (D_is_less : Kept P w K mg base 1 "is_less" ["a", "b"] (spLess K)) {f : Addr} {fd : FuncData} (F : FnP K "greatest_of" s_greatest_of f fd) : FnOk P w K mg base CX0 2 f fd ["fractions"] (spExt K fun g f => lessB f g) := by
  refine F.ok sc_greatest_of (fun vs H Q E h => ?_) (fun cdv A outer s H vs Q E hr h => ?_)
  · obtain ⟨L, us, fs, rfl, _⟩ := h
    rfl
  · obtain ⟨L, us, fs, rfl, hL, hd, hl, ok, q⟩ := h
    refine ⟨_, PSs.nox (pss_cons (ps_set (i := 1) sc_greatest_of.nd rfl (Or.inl rfl) (pe_ix ix_list (pv 0) pe_int (fun _ _ => rfl)))
      (pss_cons (ps_for PassesOwn.never rfl (pi_list (pv 0)) (pg_name (i := 2) sc_greatest_of.nd rfl (Or.inl rfl)) (pss_one (ps_if (pt_val (pe_d D_is_less (hr.mono (by decide)) (by rfl) (pa_cons (pv 1) (pa_cons (pv 2) pa_nil)))) (pss_one (ps_set (i := 1) sc_greatest_of.nd rfl (Or.inl rfl) (pv 2))) pss_nil)))
      (pss_one (ps_ret (pv 1))))), ?_⟩
    have ul := dpA_len hd
    rw [List.length_map] at ul
    obtain ⟨f0, h0⟩ : ∃ f, fs[0]? = some f := ⟨_, List.getElem?_eq_getElem hl⟩
    obtain ⟨x0, hx0, d0⟩ := dpA_get hd h0
    obtain ⟨p0, rfl, hp0⟩ := f2_at d0
    refine ⟨_, rfl, L, _, _, _, rfl, rfl, hL, atI_nat (j := 0) hx0, ?_⟩
    refine ⟨_, rfl, L, rfl, ⟨_, hL⟩, for_list (K := K) (a := L) (xs := us) (fun i σ H' => ∃ (p : Addr) (f : F2) (y2 : Option V), σ = [some (.ref L), some (.ref p), y2] ∧ H' = H ∧ f ∈ fs ∧ SqT K H p (tupV f) ∧ ∀ g ∈ fs.take i, lessB f g = false) ⟨p0, f0, _, rfl, rfl, List.mem_of_getElem? h0, hp0, fun _ h => absurd h List.not_mem_nil⟩ (fun i σ H' _ ⟨_, _, _, _, e, _⟩ => e ▸ hL) ?_ ?_⟩
    · rintro i x σ H' hi ⟨p, f, y2, rfl, rfl, hf, hp, lo⟩
      obtain ⟨g, hg, dx⟩ := dpA_mem hd hi
      obtain ⟨pg, rfl, hpg⟩ := f2_at dx
      have gm := List.mem_of_getElem? hg
      obtain ⟨lg, zg⟩ := ok g gm
      obtain ⟨lf, zf⟩ := ok f hf
      have pg' := lg.pos
      have pf' := lf.pos
      refine ⟨_, rfl, _, rfl, p, pg, f, g, rfl, hp, hpg, sz_up zf (by decide), sz_up zg (by decide), ?_⟩
      cases hc : lessB f g with
      | true =>
        refine ⟨_, rfl, ite2 (fun _ => ?_) (fun h => absurd rfl h)⟩
        refine ⟨_, rfl, pg, g, _, rfl, rfl, gm, hpg, fun x hx => ?_⟩
        rw [take_snoc hg] at hx
        cases hh : lessB g x with
        | false => rfl
        | true =>
          rcases List.mem_append.mp hx with m | m
          · have xm := List.mem_of_mem_take m
            have px := (ok x xm).1.pos
            have := less_trans (h := f) (g := g) (f := x) (by omega) (by omega) (by omega) hc hh
            rw [lo x m] at this
            cases this
          · rw [List.mem_singleton.mp m] at hh
            have := of_decide_eq_true hh
            omega
      | false =>
        refine ⟨_, rfl, ite2 (fun h => (nomatch (show false = true from h))) (fun _ => ?_)⟩
        refine ⟨p, f, _, rfl, rfl, hf, hp, fun x hx => ?_⟩
        rw [take_snoc hg] at hx
        rcases List.mem_append.mp hx with m | m
        · exact lo x m
        · rw [List.mem_singleton.mp m]
          exact hc
    · rintro σ H' ⟨p, f, y2, rfl, rfl, hf, hp, lo⟩
      rw [ul, List.take_length] at lo
      exact ⟨_, rfl, q _ f hf (dp_F hp) lo⟩
end
end Mt
namespace Mt
open PySem PySem.Spec PyProof.Rows L2
def spIsFr (K : PySem.W.Frag) : Sp := fun vs H Q _ => ∃ (p : Addr) (x : F2), vs = [.ref p] ∧ SqT K H p (tupV x) ∧ Low x ∧ Sz 4000 x ∧ ∀ H', Same H H' → Q (.bl true) H'
def spIsFrs (K : PySem.W.Frag) : Sp := fun vs H Q _ => ∃ (p : Addr) (us : List V) (fs : List F2), vs = [.ref p] ∧ SqT K H p us ∧ DpAll K H us (fs.map dF) ∧ fs.length ≤ 1000 ∧ (∀ f ∈ fs, Low f ∧ Sz 4000 f) ∧ ∀ H', Same H H' → Q (.bl true) H'
theorem iteN1 {x y : V} {A B : Prop} (e : x = y) (h : B) : if (!decide (x = y)) = true then A else B := by
  rw [decide_eq_true e]
  exact h
section
variable {P : Program} {w : World} {K : PySem.W.Frag} {mg : Str → Option Value} {base : Heap}
theorem ok__law_is_frac (T : Txt K mg) (D__law_is_ints : Kept P w K mg base 2 "_law_is_ints" ["row"] (spIsInts K)) (D__law_frac : Kept P w K mg base 1 "_law_frac" ["n", "d"] spFrac) {f : Addr} {fd : FuncData} (F : FnP K "_law_is_frac" s__law_is_frac f fd) : FnOk P w K mg base CX0 3 f fd ["thing"] (spIsFr K) := by
  refine F.ok sc__law_is_frac (fun vs H Q E h => ?_) (fun cdv A outer s H vs Q E hr h => ?_)
  · obtain ⟨p, x, rfl, _⟩ := h
    rfl
  · obtain ⟨p, x, rfl, hp, hx, hz, q⟩ := h
    refine ⟨_, PSs.nox (pss_cons (ps_if (PW.pt (pw_or (pt_not (pt_val (pe_callB call_isi (by rfl) T.b_isinstance (by decide +kernel) (pa_cons (pv 0) (pa_cons (pe_bltn (v := .ty "tuple") (u := .type "tuple") (by rfl) T.b_tuple (by decide +kernel) rfl) pa_nil))))) (pw_or (pt_cmpR op_ne (pe_callB call_len (by rfl) T.b_len (by decide +kernel) (pa_cons (pv 0) pa_nil)) pe_int (nomark _)) (pw_or1 (pt_not (pt_val (pe_d D__law_is_ints (hr.mono (by decide)) (by rfl) (pa_cons (pv 0) pa_nil)))))))) (pss_one (ps_ret pe_bl)) pss_nil)
      (pss_one (ps_ret (pe_and (pe_cmpR op_ge (pe_ix ix_tup (pv 0) pe_int (fun _ _ => rfl)) pe_int (nomark _)) (pe_one (pe_cmpR (op_eqD (hr.units)) (pe_d D__law_frac (hr.mono (by decide)) (by rfl) (pa_cons (pe_ix ix_tup (pv 0) pe_int (fun _ _ => rfl)) (pa_cons (pe_ix ix_tup (pv 0) pe_int (fun _ _ => rfl)) pa_nil))) (pv 0) (nomark _))))))), ?_⟩
    refine ⟨_, rfl, _, .ty "tuple", .type "tuple", .type "tuple", true, rfl, .ty _, sqt_ty hp, kit_ty (by decide +kernel), true, rfl, ?_⟩
    refine ⟨_, rfl, _, _, rfl, .inr ⟨_, hp, rfl⟩, rfl, _, rfl, ?_⟩
    refine iteN1 rfl ?_
    refine ⟨_, rfl, p, [x.1, x.2], rfl, hp, (by show 2 ≤ 100; decide), fun H1 s1 => ⟨true, rfl, ?_⟩⟩
    have hp1 := same_t s1 hp
    have xp := hx.pos
    refine ⟨_, rfl, p, _, _, _, rfl, rfl, hp1, atI_nat (j := 1) rfl, _, _, rfl, rfl, _, rfl, ?_⟩
    refine ite2 (fun _ => ?_) (fun n => absurd (decide_eq_true hx.pos) n)
    refine ⟨_, rfl, p, _, _, _, rfl, rfl, hp1, atI_nat (j := 0) rfl, _, rfl, p, _, _, _, rfl, rfl, hp1, atI_nat (j := 1) rfl, x.1, x.2, rfl, by omega, sz_up hz (by decide), fun r hr => ?_⟩
    rw [low_fr hx]
    refine ⟨_, rfl, dF x, dF x, dp_F (SqT.of upd_same), dp_F (same_t (same_new hr) hp1), dF_sh x, dF_sh x, ?_⟩
    rw [dF_eqv]
    exact q _ (s1.trans (same_new hr))
theorem ok__law_is_fracs (T : Txt K mg) (D__law_is_frac : Kept P w K mg base 3 "_law_is_frac" ["thing"] (spIsFr K)) {f : Addr} {fd : FuncData} (F : FnP K "_law_is_fracs" s__law_is_fracs f fd) : FnOk P w K mg base CX0 4 f fd ["row"] (spIsFrs K) := by
  refine F.ok sc__law_is_fracs (fun vs H Q E h => ?_) (fun cdv A outer s H vs Q E hr h => ?_)
  · obtain ⟨p, us, fs, rfl, _⟩ := h
    rfl
  · obtain ⟨p, us, fs, rfl, hp, hd, hl, ok, q⟩ := h
    refine ⟨_, PSs.nox (pss_one (ps_ret (pe_and (pe_callB call_isi (by rfl) T.b_isinstance (by decide +kernel) (pa_cons (pv 0) (pa_cons (pe_bltn (v := .ty "tuple") (u := .type "tuple") (by rfl) T.b_tuple (by decide +kernel) rfl) pa_nil))) (pe_one (pe_callB (cr_all rfl) (by rfl) T.b_all (by decide +kernel) (pa_cons (pe_lc (own := [("part", 1)]) (g := (gName 1)) (tt := tYes) rfl sc__law_is_fracs.nd (pi_tup (pv 0)) (blkOk_by (N := N__law_is_fracs) (sc := defScope s__law_is_fracs) (by decide +kernel)) (fun _ _ _ _ _ => (pg_name (i := 1) sc__law_is_fracs.nd rfl (Or.inl rfl))) (fun _ _ _ _ _ => pts_nil) (fun _ _ _ _ _ => (pe_d D__law_is_frac (hr.mono (by decide)) (by rfl) (pa_cons (pv 1) pa_nil)))) pa_nil)))))), ?_⟩
    have ul := dpA_len hd
    rw [List.length_map] at ul
    refine ⟨_, rfl, _, .ty "tuple", .type "tuple", .type "tuple", true, rfl, .ty _, sqt_ty hp, kit_ty (by decide +kernel), true, rfl, ite2 (fun _ => ?_) (fun h => absurd rfl h)⟩
    refine ⟨_, rfl, p, rfl, ⟨_, hp⟩, fun M hM => lc_tup (K := K) (a := p) (xs := us) (fun j H' => Same H H' ∧ H' M = some (.lst ((fs.take j).map fun _ => .bl true))) ⟨same_new hM, upd_same⟩ (fun j H' _ e => same_t e.1 hp) ?_ ?_⟩
    · rintro j y H2 hj ⟨s2, hM2⟩
      obtain ⟨f, hf, hy⟩ := dpA_mem (dpA_same s2 _ _ hd) hj
      obtain ⟨p1, rfl, hp1⟩ := f2_at hy
      have jl := (List.getElem?_eq_some_iff.mp hf).1
      obtain ⟨lf, zf⟩ := ok f (List.mem_of_getElem? hf)
      refine ⟨rfl, _, rfl, p1, f, rfl, hp1, lf, zf, fun H3 s3 => ⟨_, s3 _ _ hM2, by rw [List.length_map, List.length_take]; exact line6 (by omega), same_mut (s2.trans s3) hM, ?_⟩⟩
      rw [upd_same, take_map_succ (f := fun _ : F2 => V.bl true) hf]
    · rintro H2 ⟨s2, hM2⟩
      rw [ul, List.take_length] at hM2
      refine ⟨M, fs.map fun _ => true, rfl, SqL.of (by rw [List.map_map]; exact hM2), ?_⟩
      rw [all_true]
      exact q _ s2
end
end Mt
namespace Mt
open PySem PySem.Spec PyProof.Rows L2
/-- potentials that stand -/
def stand (pots : List (Option F2)) : List F2 := pots.filterMap id
theorem stand_snoc (l : List (Option F2)) (o : Option F2) : stand (l ++ [o]) = stand l ++ (match o with | some f => [f] | none => []) := by
  unfold stand
  rw [List.filterMap_append]
  cases o <;> rfl
theorem stand_mem {pots : List (Option F2)} {f : F2} (h : f ∈ stand pots) : some f ∈ pots := by
  unfold stand at h
  obtain ⟨o, ho, e⟩ := List.mem_filterMap.mp h
  have e : o = some f := e
  exact e ▸ ho
def spIsPap (K : PySem.W.Frag) : Sp := fun vs H Q _ => ∃ (vp : V) (pace : F2) (pots : List (Option F2)) (way ring : List (List Int)), vs = [vp] ∧ Dp K H vp (dPap pace pots way ring) ∧ PapOk pace pots way ring ∧ (∀ w ∈ way, w.length ≤ 100) ∧ (∀ w ∈ ring, w.length ≤ 100) ∧ ∀ H', Same H H' → Q (.bl true) H'
section
variable {P : Program} {w : World} {K : PySem.W.Frag} {mg : Str → Option Value} {base : Heap}
theorem ok__law_is_paper (T : Txt K mg) (D__law_is_ints : Kept P w K mg base 2 "_law_is_ints" ["row"] (spIsInts K)) (D__law_is_frac : Kept P w K mg base 3 "_law_is_frac" ["thing"] (spIsFr K)) (D__law_is_fracs : Kept P w K mg base 4 "_law_is_fracs" ["row"] (spIsFrs K)) {f : Addr} {fd : FuncData} (F : FnP K "_law_is_paper" s__law_is_paper f fd) : FnOk P w K mg base CX0 5 f fd ["paper"] (spIsPap K) := by
  refine F.ok sc__law_is_paper (fun vs H Q E h => ?_) (fun cdv A outer s H vs Q E hr h => ?_)
  · obtain ⟨vp, pace, pots, way, ring, rfl, _⟩ := h
    rfl
  · obtain ⟨vp, pace, pots, way, ring, rfl, hP, ok, hw1, hw2, q⟩ := h
    refine ⟨_, PSs.nox (pss_cons (ps_if (PW.pt (pw_or (pt_not (pt_val (pe_callB call_isi (by rfl) T.b_isinstance (by decide +kernel) (pa_cons (pv 0) (pa_cons (pe_bltn (v := .ty "tuple") (u := .type "tuple") (by rfl) T.b_tuple (by decide +kernel) rfl) pa_nil))))) (pw_or (pt_cmpR op_ne (pe_callB call_len (by rfl) T.b_len (by decide +kernel) (pa_cons (pv 0) pa_nil)) pe_int (nomark _)) (pw_or1 (pt_not (pt_val (pe_d D__law_is_frac (hr.mono (by decide)) (by rfl) (pa_cons (pe_ix ix_tup (pv 0) pe_int (fun _ _ => rfl)) pa_nil)))))))) (pss_one (ps_ret pe_bl)) pss_nil)
      (pss_cons (ps_if (PW.pt (pw_or (pt_not (pt_val (pe_callB call_isi (by rfl) T.b_isinstance (by decide +kernel) (pa_cons (pe_ix ix_tup (pv 0) pe_int (fun _ _ => rfl)) (pa_cons (pe_bltn (v := .ty "tuple") (u := .type "tuple") (by rfl) T.b_tuple (by decide +kernel) rfl) pa_nil))))) (pw_or1 (pt_not (pt_val (pe_d D__law_is_fracs (hr.mono (by decide)) (by rfl) (pa_cons (pe_callTy (tupOfT (K := K) rfl) (by rfl) T.b_tuple (by decide +kernel) (pa_cons (pe_lc (own := [("part", 1)]) (g := (gName 1)) rfl sc__law_is_paper.nd (pi_tup (pe_ix ix_tup (pv 0) pe_int (fun _ _ => rfl))) (blkOk_by (N := N__law_is_paper) (sc := defScope s__law_is_paper) (by decide +kernel)) (fun _ _ _ _ _ => (pg_name (i := 1) sc__law_is_paper.nd rfl (Or.inl rfl))) (fun _ _ _ _ _ => (pts_one (pt_cmpR op_notN (pv 1) pe_non (nomark _)))) (fun _ _ _ _ _ => (pv 1))) pa_nil)) pa_nil))))))) (pss_one (ps_ret pe_bl)) pss_nil)
      (pss_cons (ps_for PassesOwn.never rfl (pi_tup (pe_slice sl_tupA (pv 0) (po_some pe_int) po_none)) (pg_name (i := 2) sc__law_is_paper.nd rfl (Or.inl rfl)) (pss_one (ps_if (PW.pt (pw_or (pt_not (pt_val (pe_callB call_isi (by rfl) T.b_isinstance (by decide +kernel) (pa_cons (pv 2) (pa_cons (pe_bltn (v := .ty "tuple") (u := .type "tuple") (by rfl) T.b_tuple (by decide +kernel) rfl) pa_nil))))) (pw_or1 (pt_not (pt_val (pe_callB (cr_all rfl) (by rfl) T.b_all (by decide +kernel) (pa_cons (pe_lc (own := [("block", 3)]) (g := (gName 3)) (tt := tYes) rfl sc__law_is_paper.nd (pi_tup (pv 2)) (blkOk_by (N := N__law_is_paper) (sc := defScope s__law_is_paper) (by decide +kernel)) (fun _ _ _ _ _ => (pg_name (i := 3) sc__law_is_paper.nd rfl (Or.inl rfl))) (fun _ _ _ _ _ => pts_nil) (fun _ _ _ _ _ => (pe_d D__law_is_ints (hr.mono (by decide)) (by rfl) (pa_cons (pv 3) pa_nil)))) pa_nil))))))) (pss_one (ps_ret pe_bl)) pss_nil)))
      (pss_one (ps_ret pe_bl))))), ?_⟩
    obtain ⟨pp, us, rfl, hpp, hus⟩ := dp_tup hP
    obtain ⟨x0, _, rfl, hx0, hus⟩ := dpA_cons hus
    obtain ⟨x1, _, rfl, hx1, hus⟩ := dpA_cons hus
    obtain ⟨x2, _, rfl, hx2, hus⟩ := dpA_cons hus
    obtain ⟨x3, _, rfl, hx3, hus⟩ := dpA_cons hus
    cases dpA_nil hus
    obtain ⟨p0, rfl, hp0⟩ := f2_at hx0
    obtain ⟨p1, xs, rfl, hp1, hxs⟩ := dp_tup hx1
    have xl := dpA_len hxs
    rw [List.length_map] at xl
    have l0 := ok.l0
    refine ⟨_, rfl, _, .ty "tuple", .type "tuple", .type "tuple", true, rfl, .ty _, sqt_ty hpp, kit_ty (by decide +kernel), true, rfl, ?_⟩
    refine ⟨_, rfl, _, _, rfl, .inr ⟨_, hpp, rfl⟩, rfl, _, rfl, ?_⟩
    refine iteN1 rfl ?_
    refine ⟨_, rfl, pp, _, _, _, rfl, rfl, hpp, atI_nat (j := 0) rfl, p0, pace, rfl, hp0, ok.low, sz_up ok.sz (by decide), fun H1 s1 => ⟨true, rfl, ?_⟩⟩
    refine ⟨_, rfl, pp, _, _, _, rfl, rfl, same_t s1 hpp, atI_nat (j := 1) rfl, _, .ty "tuple", .type "tuple", .type "tuple", true, rfl, .ty _, sqt_ty (same_t s1 hp1), kit_ty (by decide +kernel), true, rfl, ?_⟩
    refine ⟨_, rfl, pp, _, _, _, rfl, rfl, same_t s1 hpp, atI_nat (j := 1) rfl, p1, rfl, ⟨_, same_t s1 hp1⟩, fun M hM => lc_tup (K := K) (a := p1) (xs := xs) (fun j H' => Same H1 H' ∧ ∃ us : List V, H' M = some (.lst us) ∧ DpAll K H' us ((stand (pots.take j)).map dF) ∧ us.length ≤ j) ⟨same_new hM, [], upd_same, .nil, Nat.le_refl _⟩ (fun j H' _ e => same_t (s1.trans e.1) hp1) ?_ ?_⟩
    · rintro j y H2 hj ⟨s2, us, hM2, hus, ul⟩
      obtain ⟨o, ho, dx⟩ := dpA_mem (dpA_same (s1.trans s2) _ _ hxs) hj
      have jl := (List.getElem?_eq_some_iff.mp hj).1
      have e1 : pots.take (j + 1) = pots.take j ++ [o] := take_snoc ho
      cases o with
      | none =>
        obtain rfl := dp_non dx
        refine ⟨rfl, _, rfl, rfl, _, rfl, ?_⟩
        refine ⟨s2, us, hM2, ?_, by omega⟩
        rw [e1, stand_snoc, List.append_nil]
        exact hus
      | some f =>
        obtain ⟨px, rfl, hpx⟩ := f2_at dx
        refine ⟨rfl, _, rfl, rfl, _, rfl, ?_⟩
        refine ⟨_, rfl, us, hM2, line6 (by omega), same_mut s2 hM, us ++ [.ref px], upd_same, ?_, by rw [List.length_append, List.length_singleton]; omega⟩
        rw [e1, stand_snoc, List.map_append]
        have k := keepT_nt (o := .lst (us ++ [.ref px])) (nt_lst _) hM2
        exact dpA_snoc (dpA_keep k _ _ (noLs_map dF _ fun _ _ => rfl) hus) (dp_keep k _ _ rfl dx)
    · rintro H2 ⟨s2, us, hM2, hus, ul⟩
      rw [xl, List.take_length] at hus
      refine ⟨M, us, rfl, .inl ⟨SqL.of hM2, fun pt hpt => ?_⟩⟩
      have s3 := s1.trans (s2.trans (same_new (o := .tup us) hpt))
      have h3 := upd_same (H := H2) (a := pt) (o := .tup us)
      have hus3 := dpA_same (same_new (o := .tup us) hpt) _ _ hus
      generalize upd H2 pt (.tup us) = H3 at s3 h3 hus3
      have fl := dpA_len hus
      rw [List.length_map] at fl
      refine ⟨pt, us, stand pots, rfl, SqT.of h3, hus3, by omega, fun f hf => let h := ok.pot f (stand_mem hf); ⟨h.1, sz_up h.2 (by decide)⟩, fun H4 s4 => ⟨true, rfl, ?_⟩⟩
      have s4 := s3.trans s4
      refine iteNT ?_
      have h2 := same_t s4 hpp
      refine ⟨_, rfl, _, rfl, noP ⟨pp, _, rfl, h2, fun h => absurd h.1 (by show ¬ HT.sIx 4 0 (some 2) = 0; decide), fun _ p2 hp2 => ?_⟩⟩
      have ec : cutV [V.ref p0, V.ref p1, x2, x3] (some 2) none = [x2, x3] := by
        rw [show (some 2 : Option Int) = some ((2 : Nat) : Int) from rfl, cut_from (by show 2 ≤ 4; decide)]
        rfl
      rw [ec]
      have s5 := s4.trans (same_new (o := .tup [x2, x3]) hp2)
      have h5 := upd_same (H := H4) (a := p2) (o := .tup [x2, x3])
      generalize upd H4 p2 (.tup [x2, x3]) = H5 at s5 h5
      refine ⟨p2, rfl, ⟨_, SqT.of h5⟩, for_tup (K := K) (a := p2) (xs := [x2, x3]) (fun i σ H' => ∃ (y2 : Option V), σ = [some (.ref pp), none, y2, none] ∧ Same H5 H') ⟨_, rfl, Same.refl _⟩ (fun i σ H' _ ⟨_, _, s⟩ => SqT.of (s _ _ h5)) ?_ ?_⟩
      · rintro i x σ H6 hi ⟨y2, rfl, s6⟩
        obtain ⟨ws, hx, hw, hl⟩ : ∃ ws : List (List Int), Dp K H x (dWs ws) ∧ (∀ w ∈ ws, w.length ≤ 100) ∧ ws.length ≤ 1000 := by
          match i, hi with
          | 0, h =>
            obtain rfl := Option.some.inj h
            exact ⟨way, hx2, hw1, ok.l1⟩
          | 1, h =>
            obtain rfl := Option.some.inj h
            exact ⟨ring, hx3, hw2, ok.l2⟩
          | i + 2, h => cases h
        have s6 := s5.trans s6
        obtain ⟨pw, vs, rfl, hpw, hvs⟩ := dp_tup (dp_same s6 _ _ hx)
        have vl := dpA_len hvs
        rw [List.length_map] at vl
        refine ⟨_, rfl, _, .ty "tuple", .type "tuple", .type "tuple", true, rfl, .ty _, sqt_ty hpw, kit_ty (by decide +kernel), true, rfl, ?_⟩
        refine iteNT ?_
        refine ⟨_, rfl, pw, rfl, ⟨_, hpw⟩, fun B hB => lc_tup (K := K) (a := pw) (xs := vs) (fun j H' => Same H6 H' ∧ H' B = some (.lst ((ws.take j).map fun _ => .bl true))) ⟨same_new hB, upd_same⟩ (fun j H' _ e => same_t e.1 hpw) ?_ ?_⟩
        · rintro j y H7 hj ⟨s7, hB7⟩
          obtain ⟨wd, hwd, hy⟩ := dpA_mem (dpA_same s7 _ _ hvs) hj
          obtain ⟨p3, rfl, hp3⟩ := i_at hy
          have jl := (List.getElem?_eq_some_iff.mp hwd).1
          refine ⟨rfl, _, rfl, p3, wd, rfl, hp3, hw wd (List.mem_of_getElem? hwd), fun H8 s8 => ⟨_, s8 _ _ hB7, by rw [List.length_map, List.length_take]; exact line6 (by omega), same_mut (s7.trans s8) hB, ?_⟩⟩
          rw [upd_same, take_map_succ (f := fun _ : List Int => V.bl true) hwd]
        · rintro H7 ⟨s7, hB7⟩
          rw [vl, List.take_length] at hB7
          refine ⟨B, ws.map fun _ => true, rfl, SqL.of (by rw [List.map_map]; exact hB7), ?_⟩
          rw [all_true]
          exact ⟨true, rfl, iteNT ⟨_, rfl, (Same.trans ‹Same H5 H6› s7)⟩⟩
      · rintro σ H6 ⟨y2, rfl, s6⟩
        exact q _ (s5.trans s6)
end
end Mt
namespace Mt
open PySem PySem.Spec PyProof.Rows L2
/-! ### heights: the most that a walk of so many branches can bring -/
def upH (h : Nat → Int) (m : Int) (l : List (Int × Nat)) : Int := l.foldl (fun m e => max m (e.1 + h e.2)) m
def hts (G : Gr) : Nat → Nat → Int
  | 0, _ => 0
  | i + 1, s => upH (hts G i) (hts G i s) (G s)
theorem upH_ge (h : Nat → Int) : ∀ (l : List (Int × Nat)) (m : Int), m ≤ upH h m l ∧ ∀ e ∈ l, e.1 + h e.2 ≤ upH h m l
  | [], m => ⟨Int.le_refl _, fun _ h => absurd h List.not_mem_nil⟩
  | e :: r, m => by
    obtain ⟨h1, h2⟩ := upH_ge h r (max m (e.1 + h e.2))
    have e0 : upH h m (e :: r) = upH h (max m (e.1 + h e.2)) r := rfl
    rw [e0]
    refine ⟨by omega, fun x hx => ?_⟩
    rcases List.mem_cons.mp hx with rfl | hx
    · omega
    · exact h2 x hx
theorem upH_at (h : Nat → Int) : ∀ (l : List (Int × Nat)) (m : Int), upH h m l = m ∨ ∃ e ∈ l, upH h m l = e.1 + h e.2
  | [], _ => .inl rfl
  | e :: r, m => by
    have e0 : upH h m (e :: r) = upH h (max m (e.1 + h e.2)) r := rfl
    rw [e0]
    rcases upH_at h r (max m (e.1 + h e.2)) with k | ⟨x, hx, k⟩
    · by_cases c : m ≤ e.1 + h e.2
      · exact .inr ⟨e, List.mem_cons_self, by rw [k]; omega⟩
      · exact .inl (by rw [k]; omega)
    · exact .inr ⟨x, List.mem_cons_of_mem _ hx, k⟩
theorem hts_mono (G : Gr) (i s : Nat) : hts G i s ≤ hts G (i + 1) s := (upH_ge (hts G i) (G s) (hts G i s)).1
theorem hts_edge (G : Gr) (i s : Nat) {e : Int × Nat} (he : e ∈ G s) : e.1 + hts G i e.2 ≤ hts G (i + 1) s := (upH_ge (hts G i) (G s) (hts G i s)).2 e he
theorem hts_ge (G : Gr) : ∀ (i : Nat) {s : Nat} {p : List (Int × Nat)}, WOk G s p → p.length ≤ i → wSum p ≤ hts G i s
  | 0, s, p, _, hl => by
    have : p = [] := List.length_eq_zero_iff.mp (by omega)
    subst this
    exact Int.le_refl 0
  | i + 1, s, [], ok, _ => Int.le_trans (hts_ge G i (s := s) (p := []) trivial (Nat.zero_le _)) (hts_mono G i s)
  | i + 1, s, e :: r, ok, hl => by
    have h1 := hts_ge G i ok.2 (by rw [List.length_cons] at hl; omega)
    have h2 := hts_edge G i s ok.1
    have h3 : wSum (e :: r) = e.1 + wSum r := rfl
    omega
theorem hts_at (G : Gr) : ∀ (i s : Nat), ∃ p, WOk G s p ∧ p.length ≤ i ∧ wSum p = hts G i s
  | 0, s => ⟨[], trivial, Nat.le_refl _, rfl⟩
  | i + 1, s => by
    rcases upH_at (hts G i) (G s) (hts G i s) with k | ⟨e, he, k⟩
    · obtain ⟨p, h1, h2, h3⟩ := hts_at G i s
      exact ⟨p, h1, by omega, by rw [h3]; exact k.symm⟩
    · obtain ⟨p, h1, h2, h3⟩ := hts_at G i e.2
      exact ⟨e :: p, ⟨he, h1⟩, by rw [List.length_cons]; omega, by show e.1 + wSum p = _; rw [h3]; exact k.symm⟩
theorem spr01 (p : List (Int × Nat)) : spr 0 1 p = wSum p := by
  unfold spr
  simp
/-- where no way round brings anything the heights stand after as many rounds as there are states -/
theorem hts_stand {G : Gr} {ks : List Nat} (c : Clo G ks) (nm : NoMore G ks 0 1) {s : Nat} (hs : s ∈ ks) {i : Nat} (hi : ks.length ≤ i + 1) : hts G (i + 1) s = hts G i s := by
  obtain ⟨p, h1, h2, h3⟩ := hts_at G (i + 1) s
  obtain ⟨q, g1, g2, g3, g4⟩ := short c nm p.length (Nat.le_refl _) hs h1
  rw [spr01, spr01] at g4
  have := hts_ge G i g1 (by omega)
  have := hts_mono G i s
  omega
/-- heights that no branch is above -/
def Hgt (G : Gr) (ks : List Nat) (h : Nat → Int) : Prop := ∀ s ∈ ks, ∀ e ∈ G s, e.1 + h e.2 ≤ h s
theorem hgt_walk {G : Gr} {ks : List Nat} (c : Clo G ks) {h : Nat → Int} (hh : Hgt G ks h) : ∀ {p : List (Int × Nat)} {s : Nat}, s ∈ ks → WOk G s p → wSum p + h (wEnd s p) ≤ h s
  | [], s, _, _ => by
    show 0 + h s ≤ h s
    omega
  | e :: r, s, hs, o => by
    have h1 := hgt_walk c hh (p := r) (s := e.2) (c.on s hs e o.1) o.2
    have h2 := hh s hs e o.1
    have h3 : wSum (e :: r) = e.1 + wSum r := rfl
    have h4 : wEnd s (e :: r) = wEnd e.2 r := rfl
    rw [h3, h4]
    omega
/-- branches that lose nothing -/
def tightG (G : Gr) (h : Nat → Int) : Gr := fun s => (G s).filter fun e => decide (e.1 + h e.2 = h s)
/-- a walk that loses nothing from its begin to its end has such branches only -/
theorem tight_walk {G : Gr} {ks : List Nat} (c : Clo G ks) {h : Nat → Int} (hh : Hgt G ks h) : ∀ {p : List (Int × Nat)} {s : Nat}, s ∈ ks → WOk G s p → wSum p + h (wEnd s p) = h s → WOk (tightG G h) s p
  | [], _, _, _, _ => trivial
  | e :: r, s, hs, o, eq => by
    have h0 := c.on s hs e o.1
    have h1 := hgt_walk c hh (p := r) (s := e.2) h0 o.2
    have h2 := hh s hs e o.1
    have h3 : wSum (e :: r) = e.1 + wSum r := rfl
    have h4 : wEnd s (e :: r) = wEnd e.2 r := rfl
    rw [h3, h4] at eq
    refine ⟨List.mem_filter.mpr ⟨o.1, decide_eq_true (by omega)⟩, tight_walk c hh h0 o.2 (by omega)⟩
/-- a way round of branches that lose nothing brings nothing -/
theorem tight_sum {G : Gr} {h : Nat → Int} : ∀ {p : List (Int × Nat)} {s : Nat}, WOk (tightG G h) s p → WOk G s p ∧ wSum p + h (wEnd s p) = h s
  | [], s, _ => ⟨trivial, by show 0 + h s = h s; omega⟩
  | e :: r, s, o => by
    obtain ⟨h1, h2⟩ := List.mem_filter.mp o.1
    obtain ⟨h3, h4⟩ := tight_sum o.2
    have h5 := of_decide_eq_true h2
    refine ⟨⟨h1, h3⟩, ?_⟩
    show e.1 + wSum r + h (wEnd e.2 r) = h s
    omega
end Mt
namespace Mt
open PySem PySem.Spec PyProof.Rows L2
/-! ### Karp: the greatest of the least means is the pace -/
/-- the most over walks of just k branches from 0 to v -/
structure Lvl (G : Gr) (k v : Nat) (x : Int) : Prop where
  at_ : ∃ p, WOk G 0 p ∧ p.length = k ∧ wEnd 0 p = v ∧ wSum p = x
  top : ∀ p, WOk G 0 p → p.length = k → wEnd 0 p = v → wSum p ≤ x
theorem fr_le {n d a b : Int} (hd : 0 < d) (h : b * n ≤ a * d) : (fr n d).1 * b ≤ a * (fr n d).2 := by
  have e := frv (n := n) (d := d) (by omega)
  have l := (fr_low (n := n) (d := d) (by omega)).pos
  have h1 : (fr n d).1 * b * d ≤ a * (fr n d).2 * d := by
    have h2 : b * n * (fr n d).2 ≤ a * d * (fr n d).2 := Int.mul_le_mul_of_nonneg_right h (by omega)
    have e3 : (fr n d).1 * b * d = b * n * (fr n d).2 := by grind
    have e4 : a * (fr n d).2 * d = a * d * (fr n d).2 := by grind
    rw [e3, e4]
    exact h2
  exact Int.le_of_mul_le_mul_right h1 hd
theorem fr_ge {n d a b : Int} (hd : 0 < d) (h : a * d ≤ b * n) : a * (fr n d).2 ≤ (fr n d).1 * b := by
  have e := frv (n := n) (d := d) (by omega)
  have l := (fr_low (n := n) (d := d) (by omega)).pos
  have h1 : a * (fr n d).2 * d ≤ (fr n d).1 * b * d := by
    have h2 : a * d * (fr n d).2 ≤ b * n * (fr n d).2 := Int.mul_le_mul_of_nonneg_right h (by omega)
    have e3 : (fr n d).1 * b * d = b * n * (fr n d).2 := by grind
    have e4 : a * (fr n d).2 * d = a * d * (fr n d).2 := by grind
    rw [e3, e4]
    exact h2
  exact Int.le_of_mul_le_mul_right h1 hd
theorem less_f {g f : F2} {a b : Int} (hg : 0 < g.2) (hf : 0 < f.2) (hb : 0 < b) (no : lessB g f = false) (h : g.1 * b ≤ a * g.2) : f.1 * b ≤ a * f.2 := by
  have h1 : ¬ g.1 * f.2 < f.1 * g.2 := of_decide_eq_false no
  have h2 : f.1 * g.2 * b ≤ g.1 * f.2 * b := Int.mul_le_mul_of_nonneg_right (by omega) (by omega)
  have h3 : g.1 * b * f.2 ≤ a * g.2 * f.2 := Int.mul_le_mul_of_nonneg_right h (by omega)
  have h4 : f.1 * b * g.2 ≤ a * f.2 * g.2 := by grind
  exact Int.le_of_mul_le_mul_right h4 hg
theorem less_g {g f : F2} {a b : Int} (hg : 0 < g.2) (hf : 0 < f.2) (hb : 0 < b) (no : lessB g f = false) (h : a * f.2 ≤ f.1 * b) : a * g.2 ≤ g.1 * b := by
  have h1 : ¬ g.1 * f.2 < f.1 * g.2 := of_decide_eq_false no
  have h2 : f.1 * g.2 * b ≤ g.1 * f.2 * b := Int.mul_le_mul_of_nonneg_right (by omega) (by omega)
  have h3 : a * f.2 * g.2 ≤ f.1 * b * g.2 := Int.mul_le_mul_of_nonneg_right h (by omega)
  have h4 : a * g.2 * f.2 ≤ g.1 * b * f.2 := by grind
  exact Int.le_of_mul_le_mul_right h4 hf
/-- the means of one state: one for each lesser number of branches by which it can be come to -/
structure MeanOf (G : Gr) (n v : Nat) (x : Int) (fs : List F2) : Prop where
  is : ∀ f ∈ fs, ∃ (k : Nat) (y : Int), k < n ∧ Lvl G k v y ∧ f = fr (x - y) ((n : Int) - (k : Int))
  all : ∀ p, WOk G 0 p → p.length < n → wEnd 0 p = v → ∃ y, Lvl G p.length v y ∧ fr (x - y) ((n : Int) - (p.length : Int)) ∈ fs
/-- the least one -/
def LeastOf (G : Gr) (n v : Nat) (m : F2) : Prop := ∃ (x : Int) (fs : List F2), Lvl G n v x ∧ MeanOf G n v x fs ∧ m ∈ fs ∧ ∀ g ∈ fs, lessB g m = false
theorem MeanOf.low {G : Gr} {n v : Nat} {x : Int} {fs : List F2} (h : MeanOf G n v x fs) {f : F2} (hf : f ∈ fs) : Low f := by
  obtain ⟨k, y, hk, _, rfl⟩ := h.is f hf
  exact fr_low (by omega)
theorem karp {G : Gr} {ks : List Nat} (c : Clo G ks) {a b Wm : Int} (hb : 0 < b) (nm : NoMore G ks a b) (hW : ∀ s ∈ ks, ∀ e ∈ G s, spr a b [e] ≤ Wm) (w0 : 0 ≤ Wm) (z : 0 ∈ ks) {u : Nat} {p r : List (Int × Nat)} (okp : WOk G 0 p) (ep : wEnd 0 p = u) (okr : WOk G u r) (er : wEnd u r = u) (rl : 1 ≤ r.length) (rz : spr a b r = 0)
    {ms : List F2} (h1 : ∀ m ∈ ms, ∃ v, LeastOf G ks.length v m) (h2 : ∀ q, WOk G 0 q → q.length = ks.length → ∃ m ∈ ms, LeastOf G ks.length (wEnd 0 q) m) {top : F2} (ht : top ∈ ms) (hx : ∀ g ∈ ms, lessB top g = false) :
    top.1 * b = a * top.2 ∧ Low top := by
  have lows : ∀ m ∈ ms, Low m := fun m hm => by
    obtain ⟨v, x, fs, _, mo, hm', _⟩ := h1 m hm
    exact mo.low hm'
  have lt := lows top ht
  have ltp := lt.pos
  refine ⟨Int.le_antisymm ?_ ?_, lt⟩
  · obtain ⟨v, x, fs, lv, mo, hm, lo⟩ := h1 top ht
    obtain ⟨q, q1, q2, q3, q4⟩ := lv.at_
    obtain ⟨q', g1, g2, g3, g4⟩ := karp_le c nm z q1 q2
    obtain ⟨y, ly, hy⟩ := mo.all q' g1 g3 (g2.trans q3)
    have yy := ly.top q' g1 rfl (g2.trans q3)
    have lg := (mo.low hy).pos
    refine less_f (by omega) (by omega) hb (lo _ hy) (fr_le (by omega) ?_)
    unfold spr at g4
    rw [q2, q4] at g4
    have h3 : b * wSum q' ≤ b * y := Int.mul_le_mul_of_nonneg_left yy (by omega)
    grind
  · obtain ⟨q, g1, g2, g3⟩ := karp_ge c nm hW w0 z okp ep okr er rl rz
    obtain ⟨m, hm, x, fs, lv, mo, hm', lo⟩ := h2 q g1 g2
    have lm := (lows m hm).pos
    refine less_g (f := m) (by omega) (by omega) hb (hx m hm) ?_
    obtain ⟨k, y, hk, ly, rfl⟩ := mo.is m hm'
    refine fr_ge (by omega) ?_
    obtain ⟨q', o1, o2, o3, o4⟩ := ly.at_
    have h3 := g3 q' o1 o3
    have h4 := lv.top q g1 g2 rfl
    unfold spr at h3
    rw [g2, o2, o4] at h3
    have h5 : b * wSum q ≤ b * x := Int.mul_le_mul_of_nonneg_left h4 (by omega)
    grind
end Mt
namespace Mt
open PySem PySem.Spec PyProof.Rows L2
/-! ### the search by levels from a state on -/
/-- the graph of a chain with worths -/
def gG (C : Chn) (W : List (Str × Int)) : Gr := fun s => wRow W (rowOf C s)
/-- level j: where walks of just so many branches lead, and the most that they bring -/
structure LvS (G : Gr) (st j : Nat) (qs : List Nat) (F : Nat → Int) : Prop where
  at_ : ∀ t ∈ qs, ∃ r, WOk G st r ∧ r.length = j ∧ wEnd st r = t ∧ wSum r = F t
  top : ∀ r, WOk G st r → r.length = j → wEnd st r ∈ qs ∧ wSum r ≤ F (wEnd st r)
theorem LvS.zero {G : Gr} {st : Nat} {F : Nat → Int} (h : F st = 0) : LvS G st 0 [st] F := by
  refine ⟨fun t ht => ⟨[], trivial, rfl, (List.mem_singleton.mp ht).symm, ?_⟩, fun r _ hl => ?_⟩
  · rw [List.mem_singleton.mp ht, h]
    rfl
  · have : r = [] := List.length_eq_zero_iff.mp hl
    subst this
    exact ⟨List.mem_cons_self, by show 0 ≤ F st; omega⟩
/-- the next level while it is filled: E tells which branches have been gone through -/
structure PtS (G : Gr) (st j : Nat) (F : Nat → Int) (E : Nat → Int × Nat → Prop) (qs : List Nat) (F' : Nat → Int) : Prop where
  at_ : ∀ t ∈ qs, ∃ r, WOk G st r ∧ r.length = j + 1 ∧ wEnd st r = t ∧ wSum r = F' t
  top : ∀ x e, E x e → e.2 ∈ qs ∧ F x + e.1 ≤ F' e.2
theorem PtS.nil {G : Gr} {st j : Nat} {F F' : Nat → Int} : PtS G st j F (fun _ _ => False) [] F' := ⟨fun _ h => absurd h List.not_mem_nil, fun _ _ h => h.elim⟩
theorem PtS.mono {G : Gr} {st j : Nat} {F F' : Nat → Int} {E E' : Nat → Int × Nat → Prop} {qs : List Nat} (h : PtS G st j F E qs F') (m : ∀ x e, E' x e → E x e) : PtS G st j F E' qs F' := ⟨h.at_, fun x e he => h.top x e (m x e he)⟩
/-- a branch that brings no more than what stands -/
theorem PtS.old {G : Gr} {st j : Nat} {F F' : Nat → Int} {E : Nat → Int × Nat → Prop} {qs : List Nat} (h : PtS G st j F E qs F') {x : Nat} {e : Int × Nat} (ht : e.2 ∈ qs) (hl : F x + e.1 ≤ F' e.2) : PtS G st j F (fun y f => E y f ∨ (y = x ∧ f = e)) qs F' :=
  ⟨h.at_, fun y f hf => hf.elim (h.top y f) fun ⟨a, b⟩ => by
    subst a
    subst b
    exact ⟨ht, hl⟩⟩
/-- one that brings more, or leads to a state that is new -/
theorem PtS.put {G : Gr} {st j : Nat} {F F' : Nat → Int} {E : Nat → Int × Nat → Prop} {qs qs0 : List Nat} (lv : LvS G st j qs0 F) (h : PtS G st j F E qs F') {x : Nat} {e : Int × Nat} (hx : x ∈ qs0) (he : e ∈ G x) (new : e.2 ∈ qs → F' e.2 ≤ F x + e.1) :
    PtS G st j F (fun y f => E y f ∨ (y = x ∧ f = e)) (addK qs e.2) (fun t => if t = e.2 then F x + e.1 else F' t) := by
  refine ⟨fun t ht => ?_, fun y f hf => ?_⟩
  · by_cases c : t = e.2
    · subst c
      obtain ⟨r, r1, r2, r3, r4⟩ := lv.at_ x hx
      refine ⟨r ++ [e], (WOk_app _ _ _).mpr ⟨r1, by rw [r3]; exact ⟨he, trivial⟩⟩, by rw [List.length_append, r2]; rfl, by rw [wEnd_app, r3]; rfl, ?_⟩
      rw [wSum_app, r4, if_pos rfl]
      show F x + (e.1 + 0) = F x + e.1
      omega
    · rw [if_neg c]
      exact h.at_ t ((mem_addK.mp ht).resolve_right c)
  · rcases hf with hf | ⟨rfl, rfl⟩
    · obtain ⟨h1, h2⟩ := h.top y f hf
      refine ⟨mem_addK.mpr (.inl h1), ?_⟩
      by_cases c : f.2 = e.2
      · have := new (c ▸ h1)
        show F y + f.1 ≤ if f.2 = e.2 then F x + e.1 else F' f.2
        rw [if_pos c]
        rw [c] at h2
        omega
      · show F y + f.1 ≤ if f.2 = e.2 then F x + e.1 else F' f.2
        rw [if_neg c]
        exact h2
    · refine ⟨mem_addK.mpr (.inr rfl), ?_⟩
      show F y + f.1 ≤ if f.2 = f.2 then F y + f.1 else F' f.2
      rw [if_pos rfl]
      exact Int.le_refl _
/-- all gone through: the next level -/
theorem PtS.fin {G : Gr} {st j : Nat} {F F' : Nat → Int} {E : Nat → Int × Nat → Prop} {qs qs0 : List Nat} (lv : LvS G st j qs0 F) (h : PtS G st j F E qs F') (all : ∀ x ∈ qs0, ∀ e ∈ G x, E x e) : LvS G st (j + 1) qs F' := by
  refine ⟨h.at_, fun r ok hl => ?_⟩
  have ne : r ≠ [] := fun z => by
    subst z
    exact absurd hl (by show ¬ 0 = j + 1; omega)
  have e1 : r.dropLast ++ [r.getLast ne] = r := List.dropLast_concat_getLast ne
  obtain ⟨o1, o2⟩ := (WOk_app r.dropLast [r.getLast ne] st).mp (by rw [e1]; exact ok)
  obtain ⟨h1, h2⟩ := lv.top r.dropLast o1 (by rw [List.length_dropLast, hl]; rfl)
  obtain ⟨h3, h4⟩ := h.top _ _ (all _ h1 _ o2.1)
  have ee : wEnd st r = (r.getLast ne).2 := by
    conv => lhs; rw [← e1]
    rw [wEnd_app]
    rfl
  have es : wSum r = wSum r.dropLast + (r.getLast ne).1 := by
    conv => lhs; rw [← e1]
    rw [wSum_app]
    show wSum r.dropLast + ((r.getLast ne).1 + 0) = _
    omega
  rw [ee, es]
  exact ⟨h3, by omega⟩
/-- the first branches make a walk -/
theorem itr_walk {C : Chn} {b : Int} (ok : ChnOk b C) {W : List (Str × Int)} {s : Nat} (hs : s < C.length) : ∀ i, (∃ r, WOk (gG C W) s r ∧ r.length = i ∧ wEnd s r = itr C s i) ∧ itr C s i < C.length
  | 0 => ⟨⟨[], trivial, rfl, rfl⟩, hs⟩
  | i + 1 => by
    obtain ⟨⟨r, r1, r2, r3⟩, lt⟩ := itr_walk ok (W := W) hs i
    obtain ⟨br, hb, e⟩ := fst_in ok lt
    have e2 : itr C s (i + 1) = br.2.2 := e
    refine ⟨⟨r ++ [wBr W br], (WOk_app _ _ _).mpr ⟨r1, by rw [r3]; exact ⟨List.mem_map.mpr ⟨br, hb, rfl⟩, trivial⟩⟩, by rw [List.length_append, r2]; rfl, by rw [wEnd_app, e2]; rfl⟩, ?_⟩
    rw [e2]
    exact ((ok.row _ (List.mem_of_getElem? (rowOf_at lt))).to br hb).1
/-- what the law's own best way round tells: its pace, had by a way round, that no way round of so many branches has more than -/
structure BestP (G : Gr) (ks : List Nat) (pace : F2) (done : Nat → Nat → Prop) : Prop where
  at_ : ∃ s ∈ ks, ∃ r, WOk G s r ∧ wEnd s r = s ∧ 1 ≤ r.length ∧ r.length ≤ ks.length ∧ wSum r * pace.2 = pace.1 * (r.length : Int)
  top : ∀ s m, done s m → ∀ r, WOk G s r → wEnd s r = s → r.length = m → wSum r * pace.2 ≤ pace.1 * (m : Int)
theorem BestP.no_more {G : Gr} {ks : List Nat} (c : Clo G ks) {pace : F2} (h : BestP G ks pace fun s m => s ∈ ks ∧ 1 ≤ m ∧ m ≤ ks.length) : NoMore G ks pace.1 pace.2 := by
  refine Mt.no_more c fun v hv r ok e l1 l2 => ?_
  have := h.top v r.length ⟨hv, l1, l2⟩ r ok e rfl
  unfold spr
  rw [Int.mul_comm pace.2]
  omega
theorem BestP.round {G : Gr} {ks : List Nat} {pace : F2} {done : Nat → Nat → Prop} (h : BestP G ks pace done) : ∃ s ∈ ks, ∃ r, WOk G s r ∧ wEnd s r = s ∧ 1 ≤ r.length ∧ spr pace.1 pace.2 r = 0 := by
  obtain ⟨s, hs, r, r1, r2, r3, _, r5⟩ := h.at_
  refine ⟨s, hs, r, r1, r2, r3, ?_⟩
  unfold spr
  rw [Int.mul_comm pace.2]
  omega
/-- a greater one takes its place -/
theorem BestP.more {G : Gr} {ks : List Nat} {pace p2 : F2} {done : Nat → Nat → Prop} (h : BestP G ks pace done) (l1 : 0 < pace.2) (l2 : 0 < p2.2) (lt : lessB pace p2 = true) : ∀ s m, done s m → ∀ r, WOk G s r → wEnd s r = s → r.length = m → wSum r * p2.2 ≤ p2.1 * (m : Int) := fun s m hd r o e hl => by
  have h1 := h.top s m hd r o e hl
  have h2 : pace.1 * p2.2 < p2.1 * pace.2 := of_decide_eq_true lt
  have h3 : wSum r * pace.2 * p2.2 ≤ pace.1 * (m : Int) * p2.2 := Int.mul_le_mul_of_nonneg_right h1 (by omega)
  have h4 : pace.1 * p2.2 * (m : Int) ≤ p2.1 * pace.2 * (m : Int) := Int.mul_le_mul_of_nonneg_right (by omega) (by omega)
  have h5 : wSum r * p2.2 * pace.2 ≤ p2.1 * (m : Int) * pace.2 := by
    have e1 : wSum r * p2.2 * pace.2 = wSum r * pace.2 * p2.2 := by grind
    have e2 : pace.1 * (m : Int) * p2.2 = pace.1 * p2.2 * (m : Int) := by grind
    have e3 : p2.1 * (m : Int) * pace.2 = p2.1 * pace.2 * (m : Int) := by grind
    omega
  exact Int.le_of_mul_le_mul_right h5 l1
end Mt
namespace Mt
open PySem PySem.Spec PyProof.Rows L2
theorem KD.set {n : Nat} {kvs : List (L2.Key × V)} {ks : List Nat} {R R' : Nat → V → Prop} (h : KD n kvs ks R) {s : Nat} {v : V} (hs : s < n) (hv : R' s v) (m : ∀ x u, x ≠ s → R x u → R' x u) : KD n (putK kvs (kS s) v) (addK ks s) R' := by
  have h0 := (h.mono (R' := fun _ _ => True) fun _ _ _ _ => trivial).put (v := v) hs trivial
  refine ⟨h0.keys, h0.nd, h0.lt, fun x hx => ?_⟩
  rw [valV_put]
  by_cases c : x = s
  · subst c
    exact ⟨v, if_pos rfl, hv⟩
  · rw [if_neg fun z => c (kS_inj z)]
    obtain ⟨u, h1, h2⟩ := h.val x ((mem_addK.mp hx).resolve_right c)
    exact ⟨u, h1, m x u c h2⟩
def ValR (K : PySem.W.Frag) (H : Hp) (x : Int) (n : Nat) (v : V) : Prop := ∃ (p : Addr) (pw : V), v = .ref p ∧ SqT K H p [.int x, pw] ∧ x.natAbs ≤ 594 * n ∧ Wd K H pw n
theorem ValR.keep {K : PySem.W.Frag} {H H' : Hp} {v : V} {x : Int} {n : Nat} (k : KeepT H H') (h : ValR K H x n v) : ValR K H' x n v := let ⟨p, pw, a, b, c, d⟩ := h; ⟨p, pw, a, sqt_keep k b, c, d.keep k⟩
/-- the best way round so far -/
def BestX (K : PySem.W.Frag) (H : Hp) (G : Gr) (ks : List Nat) (v : V) (done : Nat → Nat → Prop) : Prop := ∃ (p pp : Addr) (s : Nat) (pw : V) (pace : F2), v = .ref p ∧ SqT K H p [.ref pp, vN s, pw] ∧ SqT K H pp (tupV pace) ∧ Low pace ∧ Sz 16 pace ∧ s ∈ ks ∧ Wd K H pw 60 ∧ BestP G ks pace done
theorem BestX.keep {K : PySem.W.Frag} {H H' : Hp} {G : Gr} {v : V} {ks : List Nat} {done : Nat → Nat → Prop} (k : KeepT H H') (h : BestX K H G ks v done) : BestX K H' G ks v done := let ⟨p, pp, s, pw, pace, a, b, c, d, e, f, g, x⟩ := h; ⟨p, pp, s, pw, pace, a, sqt_keep k b, sqt_keep k c, d, e, f, g.keep k, x⟩
def NoR (G : Gr) (done : Nat → Nat → Prop) : Prop := ∀ s m, done s m → ∀ r, WOk G s r → wEnd s r = s → r.length = m → False
def BX (K : PySem.W.Frag) (H : Hp) (G : Gr) (ks : List Nat) (v : V) (done : Nat → Nat → Prop) : Prop := (v = .non ∧ NoR G done) ∨ BestX K H G ks v done
theorem BX.keep {K : PySem.W.Frag} {H H' : Hp} {G : Gr} {v : V} {ks : List Nat} {done : Nat → Nat → Prop} (k : KeepT H H') (h : BX K H G ks v done) : BX K H' G ks v done := h.imp id (·.keep k)
theorem BX.mono {K : PySem.W.Frag} {H : Hp} {G : Gr} {v : V} {ks : List Nat} {d d' : Nat → Nat → Prop} (h : BX K H G ks v d) (m : ∀ s k, d' s k → d s k ∨ ∀ r, WOk G s r → wEnd s r = s → r.length = k → False) : BX K H G ks v d' := by
  rcases h with ⟨e, no⟩ | ⟨p, pp, s, pw, pace, a, b, c, d, e, f, g, x⟩
  · exact .inl ⟨e, fun s k hd => (m s k hd).elim (no s k) id⟩
  · exact .inr ⟨p, pp, s, pw, pace, a, b, c, d, e, f, g, x.at_, fun s k hd r o er hl => (m s k hd).elim (fun h => x.top s k h r o er hl) fun h => (h r o er hl).elim⟩
def spBestX (K : PySem.W.Frag) : Sp := fun vs H Q _ => ∃ (vc vw : V) (Ls : Addr) (b : Int) (C : Chn) (W : List (Str × Int)) (ks : List Nat), vs = [vc, vw, .ref Ls] ∧ Dp K H vc (dChn b C) ∧ ChnOk b C ∧ WAtS K H vw W ∧ (W.map (·.1)).Nodup ∧ W.length ≤ 1000 ∧ (∀ e ∈ W, e.2.natAbs ≤ 99) ∧ H Ls = some (.lst (ks.map vN)) ∧ Rch C ks ∧
  ∀ H' v, Same H H' → BestX K H' (gG C W) ks v (fun s m => s ∈ ks ∧ 1 ≤ m ∧ m ≤ ks.length) → Q v H'
section
variable {P : Program} {w : World} {K : PySem.W.Frag} {mg : Str → Option Value} {base : Heap}
set_option maxHeartbeats 2000000 in
theorem ok__law_best_ring (T : Txt K mg) (D__law_frac : Kept P w K mg base 1 "_law_frac" ["n", "d"] spFrac) (D__law_less : Kept P w K mg base 1 "_law_less" ["a", "b"] (spLess K)) (D__law_worth : Kept P w K mg base 1 "_law_worth" ["worths", "shown"] (spLWorth K)) {f : Addr} {fd : FuncData} (F : FnP K "_law_best_ring" s__law_best_ring f fd) : FnOk P w K mg base CX0 2 f fd ["chain", "worths", "states"] (spBestX K) := by
  refine F.ok sc__law_best_ring (fun vs H Q E h => ?_) (fun cdv A outer s H vs Q E hr h => ?_)
  · obtain ⟨vc, vw, Ls, b, C, W, ks, rfl, _⟩ := h
    rfl
  · obtain ⟨vc, vw, Ls, b, C, W, ks, rfl, hC, okC, hw, nd, wl, hW, hLs, rc, q⟩ := h
    refine ⟨_, PSs.nox (pss_cons (ps_set (i := 3) sc__law_best_ring.nd rfl (Or.inl rfl) pe_non)
      (pss_cons (ps_for PassesOwn.never rfl (pi_list (pv 2)) (pg_name (i := 4) sc__law_best_ring.nd rfl (Or.inl rfl)) (pss_cons (ps_set (i := 5) sc__law_best_ring.nd rfl (Or.inl rfl) (pe_disp (pps_cons (pv 4) (pe_tup (pa_cons pe_int (pa_cons (pe_tup pa_nil) pa_nil))) pps_nil) (by rfl) (by rfl) (fun z => by cases z) (by decide)))
      (pss_one (ps_for PassesOwn.never rfl (pi_range2 (by rfl) T.b_range (pa_cons pe_int (pa_cons (pe_op op_add (pe_callB call_len (by rfl) T.b_len (by decide +kernel) (pa_cons (pv 2) pa_nil)) pe_int) pa_nil))) (pg_name (i := 6) sc__law_best_ring.nd rfl (Or.inl rfl)) (pss_cons (ps_set (i := 7) sc__law_best_ring.nd rfl (Or.inl rfl) pe_dnewK)
      (pss_cons (ps_lock (ps_for PassesOwn.never rfl (pi_keys (pv 5)) (pg_name (i := 8) sc__law_best_ring.nd rfl (Or.inl rfl)) (pss_one (ps_for PassesOwn.never rfl (pi_tup (pe_ix ix_tup (pe_ix ix_tup (pv 0) pe_int (fun _ _ => rfl)) (pv 8) (fun _ _ => rfl))) (pg_tup rfl (pgs_cons (pg_name (i := 9) sc__law_best_ring.nd rfl (Or.inl rfl)) (pgs_cons (pg_name (i := 10) sc__law_best_ring.nd rfl (Or.inl rfl)) (pgs_cons (pg_name (i := 11) sc__law_best_ring.nd rfl (Or.inl rfl)) pgs_nil)))) (pss_cons (ps_set (i := 12) sc__law_best_ring.nd rfl (Or.inl rfl) (pe_op op_add (pe_ix ix_tup (pe_dget (hu_of hr) (pv 5) (pv 8) (fun _ _ => rfl)) pe_int (fun _ _ => rfl)) (pe_d D__law_worth (hr.mono (by decide)) (by rfl) (pa_cons (pv 1) (pa_cons (pv 10) pa_nil)))))
      (pss_one (ps_if (PW.pt (pw_or (pt_cmp (pc_dnotin (hu_of hr) (pv 11) (pv 7))) (pw_or1 (pt_cmpR op_lt (pe_ix ix_tup (pe_dget (hu_of hr) (pv 7) (pv 11) (fun _ _ => rfl)) pe_int (fun _ _ => rfl)) (pv 12) (nomark _))))) (pss_one (ps_asg (pe_tup (pa_cons (pv 12) (pa_cons (pe_op op_catA (pe_ix ix_tup (pe_dget (hu_of hr) (pv 5) (pv 8) (fun _ _ => rfl)) pe_int (fun _ _ => rfl)) (pe_tup (pa_cons (pv 9) pa_nil))) pa_nil))) (pg_sub (pv 7) (pv 11) (set_dict (hu_of hr))))) pss_nil)))))))
      (pss_cons (ps_set (i := 5) sc__law_best_ring.nd rfl (Or.inl rfl) (pv 7))
      (pss_one (ps_if (pt_cmp (pc_din (hu_of hr) (pv 4) (pv 5))) (pss_cons (ps_set (i := 13) sc__law_best_ring.nd rfl (Or.inl rfl) (pe_d D__law_frac (hr.mono (by decide)) (by rfl) (pa_cons (pe_ix ix_tup (pe_dget (hu_of hr) (pv 5) (pv 4) (fun _ _ => rfl)) pe_int (fun _ _ => rfl)) (pa_cons (pv 6) pa_nil))))
      (pss_one (ps_if (PW.pt (pw_or (pt_cmpR op_isN (pv 3) pe_non (nomark _)) (pw_or1 (pt_val (pe_d D__law_less (hr.mono (by decide)) (by rfl) (pa_cons (pe_ix ix_tup (pv 3) pe_int (fun _ _ => rfl)) (pa_cons (pv 13) pa_nil))))))) (pss_one (ps_set (i := 3) sc__law_best_ring.nd rfl (Or.inl rfl) (pe_tup (pa_cons (pv 13) (pa_cons (pv 4) (pa_cons (pe_ix ix_tup (pe_dget (hu_of hr) (pv 5) (pv 4) (fun _ _ => rfl)) pe_int (fun _ _ => rfl)) pa_nil)))))) pss_nil))) pss_nil)))))))))
      (pss_one (ps_ret (pv 3))))), ?_⟩
    obtain ⟨pc, pq, xs, rfl, hpc, hpq, hA⟩ := chn_at hC
    have few := okC.few
    have kf : ks.length ≤ C.length := nodup_lt _ rc.nd rc.lt
    refine ⟨_, rfl, Ls, rfl, ⟨_, SqL.of hLs⟩, for_list (K := K) (a := Ls) (xs := ks.map vN) (fun i σ H' => ∃ (bv : V) (y4 y5 y6 y7 y8 y9 y10 y11 y12 y13 : Option V), σ = [some (.ref pc), some vw, some (.ref Ls), some bv, y4, y5, y6, y7, y8, y9, y10, y11, y12, y13] ∧ Same H H' ∧ BX K H' (gG C W) ks bv (fun s m => s ∈ ks.take i ∧ 1 ≤ m ∧ m ≤ ks.length)) ⟨_, _, _, _, _, _, _, _, _, _, _, rfl, Same.refl _, .inl ⟨rfl, fun _ _ h => absurd h.1 List.not_mem_nil⟩⟩ (fun i σ H' _ ⟨_, _, _, _, _, _, _, _, _, _, _, _, s, _⟩ => SqL.of (s _ _ hLs)) ?_ ?_⟩
    · rintro i x σ H1 hi ⟨bv, y4, y5, y6, y7, y8, y9, y10, y11, y12, y13, rfl, s1, bb⟩
      rw [List.getElem?_map] at hi
      obtain ⟨st, hst, rfl⟩ := Option.map_eq_some_iff.mp hi
      have stm := List.mem_of_getElem? hst
      have stn := rc.lt st stm
      refine fun d hd => ⟨_, rfl, Nat.zero_le _, fun e he => ⟨z2, fun t ht => ?_⟩⟩
      have hdH : H d = none := s1.free hd
      have s2 := s1.trans (same_new (o := .dK []) hd)
      have s3 := s2.trans (same_new (o := .tup []) he)
      have hd3 := same_new (o := .tup []) he _ _ (upd_same (H := H1) (a := d) (o := .dK []))
      have we : Wd K (upd (upd H1 d (.dK [])) e (.tup [])) (.ref e) 0 := Wd.nil
      have bb3 := bb.keep (KeepT.of_same ((same_new (o := .dK []) hd).trans (same_new (o := .tup []) he)))
      generalize upd (upd H1 d (.dK [])) e (.tup []) = H3 at s3 hd3 we ht bb3
      have s4 := s3.trans (same_new (o := .tup [.int 0, .ref e]) ht)
      have hd4 := same_new (o := .tup [.int 0, .ref e]) ht _ _ hd3
      have bb4 := bb3.keep (KeepT.of_same (same_new (o := .tup [.int 0, .ref e]) ht))
      have r4 : ValR K (upd H3 t (.tup [.int 0, .ref e])) 0 0 (.ref t) := ⟨t, .ref e, rfl, SqT.of upd_same, Nat.le_refl _, we.same (same_new ht)⟩
      generalize upd H3 t (.tup [.int 0, .ref e]) = H4 at s4 hd4 r4 bb4
      refine ⟨hd4, [(kS st, .ref t)], rfl, by show 1 ≤ 15; decide, ?_⟩
      have em : mergeK ([] : List (L2.Key × V)) [(kS st, .ref t)] = [(kS st, .ref t)] := rfl
      rw [em]
      have k5 := keepT_nt (o := .dK [(kS st, .ref t)]) (nt_dk _) hd4
      have s5 := same_mut (o := .dK [(kS st, .ref t)]) s4 hdH
      have bb5 := bb4.keep k5
      have kd : KD C.length [(kS st, V.ref t)] [st] (fun s v => ValR K (upd H4 d (.dK [(kS st, .ref t)])) ((fun _ => (0 : Int)) s) 0 v) := by
        refine ⟨rfl, List.nodup_cons.mpr ⟨List.not_mem_nil, List.nodup_nil⟩, fun s hs => ?_, fun s hs => ⟨.ref t, ?_, r4.keep k5⟩⟩
        · rw [List.mem_singleton.mp hs]
          exact stn
        · rw [List.mem_singleton.mp hs]
          show valV [(kS st, V.ref t)] (kS st) = some (.ref t)
          exact valV_pos rfl
      have hd5 := upd_same (H := H4) (a := d) (o := .dK [(kS st, .ref t)])
      generalize upd H4 d (.dK [(kS st, .ref t)]) = H5 at s5 kd hd5 bb5
      refine ⟨_, rfl, _, _, rfl, .inl ⟨_, SqL.of (s5 _ _ hLs), rfl⟩, _, _, rfl, rfl, 1, _, rfl, by rw [List.length_map]; omega, for_range (lo := 1) (n := ((((ks.map vN).length : Nat) : Int) + 1 - 1).toNat) (fun j σ H' => ∃ (bv : V) (d : Addr) (y6 y7 y8 y9 y10 y11 y12 y13 : Option V) (kvs : List (L2.Key × V)) (qs : List Nat) (F : Nat → Int), σ = [some (.ref pc), some vw, some (.ref Ls), some bv, some (vN st), some (.ref d), y6, y7, y8, y9, y10, y11, y12, y13] ∧ Same H H' ∧ H d = none ∧ H' d = some (.dK kvs) ∧ KD C.length kvs qs (fun s v => ValR K H' (F s) j v) ∧ LvS (gG C W) st j qs F ∧ (∀ x ∈ qs, x ∈ ks) ∧ BX K H' (gG C W) ks bv (fun s m => (s ∈ ks.take i ∧ 1 ≤ m ∧ m ≤ ks.length) ∨ (s = st ∧ 1 ≤ m ∧ m ≤ j))) ⟨_, d, _, _, _, _, _, _, _, _, _, [st], (fun _ => 0), rfl, s5, hdH, hd5, kd, LvS.zero rfl, fun x hx => by rw [List.mem_singleton.mp hx]; exact stm, bb5.mono fun s m p => p.elim .inl fun p => by omega⟩ ?_ ?_⟩
      · rintro j σ H6 hj ⟨bv, d, y6, y7, y8, y9, y10, y11, y12, y13, kvs, qs, F, rfl, s6, hdH, hd6, kd, lv, sub, bb⟩
        rw [List.length_map] at hj
        have jl : j < ks.length := by omega
        refine fun dN hdN => ⟨d, .dK kvs, same_new hdN _ _ hd6, True.intro, fun od => ?_⟩
        have dNd : dN ≠ d := (ne_of_none hd6 hdN).symm
        have hdNH : H dN = none := s6.free hdN
        have LsD : Ls ≠ d := fun e => by rw [← e, hLs] at hdH; cases hdH
        have uF : ∀ {H' : Hp}, Same (upd H6 d (.frz od (.dK kvs))) H' → Same H6 (upd H' d (.dK kvs)) := fun s => unfrz hd6 s
        have kL := keepT_nt (o := .frz od (.dK kvs)) (nt_dk _) hd6
        have sL := same_upd2 (d := d) (u := .dK []) (f := .frz od (.dK kvs)) hdN
        have hNL : upd (upd H6 dN (.dK [])) d (.frz od (.dK kvs)) dN = some (.dK []) := by rw [upd_ne dNd, upd_same]
        have hdNL : upd H6 d (.frz od (.dK kvs)) dN = none := by rw [upd_ne dNd]; exact hdN
        have hdL := upd_same (H := H6) (a := d) (o := .frz od (.dK kvs))
        have kdL := kd.mono (R' := fun s v => ValR K (upd H6 d (.frz od (.dK kvs))) (F s) j v) fun _ v _ h => h.keep kL
        have bbL := bb.keep kL
        have kHL : KeepT H (upd H6 d (.frz od (.dK kvs))) := (KeepT.of_same s6).trans kL
        have hd0 : upd (upd H6 dN (.dK [])) d (.frz od (.dK kvs)) d = some (.frz od (.dK kvs)) := upd_same
        generalize upd (upd H6 dN (.dK [])) d (.frz od (.dK kvs)) = H8 at sL hNL hd0
        generalize upd H6 d (.frz od (.dK kvs)) = HL at sL uF hdNL hdL kdL bbL kHL
        have kvl := kd.len
        refine ⟨_, rfl, d, od, rfl, .inl ⟨kvs, hd0, for_it walk_keys (fun i2 σ H' => ∃ (y8 y9 y10 y11 y12 y13 : Option V) (kvs' : List (L2.Key × V)) (qs' : List Nat) (F' : Nat → Int), σ = [some (.ref pc), some vw, some (.ref Ls), some bv, some (vN st), some (.ref d), some (.int (1 + (j : Int))), some (.ref dN), y8, y9, y10, y11, y12, y13] ∧ Same HL H' ∧ H' dN = some (.dK kvs') ∧ KD C.length kvs' qs' (fun s v => ValR K H' (F' s) (j + 1) v) ∧ (∀ x ∈ qs', x ∈ ks) ∧ PtS (gG C W) st j F (fun x e => x ∈ qs.take i2 ∧ e ∈ gG C W x) qs' F') ⟨_, _, _, _, _, _, [], [], (fun _ => 0), rfl, sL, hNL, KD.nil, fun _ h => absurd h List.not_mem_nil, PtS.nil.mono fun _ _ h => absurd h.1 List.not_mem_nil⟩ (fun i2 σ H' _ ⟨_, _, _, _, _, _, _, _, _, _, s, _⟩ => s _ _ hdL) ?_ ?_⟩⟩
        · rintro i2 x σ H9 H9' hi2 ⟨y8, y9, y10, y11, y12, y13, kvs', qs', F', rfl, s9, hN9, kd9, sub9, pt9⟩ ⟨rfl, key, v0, hkv, rfl⟩
          obtain ⟨here, hhere, rfl⟩ := kd.at_ hkv
          have hm := List.mem_of_getElem? hhere
          have hn := kd.lt here hm
          obtain ⟨vh, ev, pS, pw, rfl, hpS, szb, hpw⟩ := kdL.val here hm
          have k9 := kHL.trans (KeepT.of_same s9)
          obtain ⟨xr, hxr, dr⟩ := dpA_get hA (rowOf_at hn)
          obtain ⟨pr, rs, rfl, hpr, hrs⟩ := dp_tup dr
          have rl := dpA_len hrs
          rw [List.length_map] at rl
          have okr := okC.row _ (List.mem_of_getElem? (rowOf_at hn))
          refine ⟨_, rfl, pc, _, _, _, rfl, rfl, sqt_keep k9 hpc, atI_nat (j := 2) rfl, _, rfl, pq, _, _, _, rfl, rfl, sqt_keep k9 hpq, atI_nat hxr, pr, rfl, ⟨_, sqt_keep k9 hpr⟩, for_tup (K := K) (a := pr) (xs := rs) (fun k σ H' => ∃ (y9 y10 y11 y12 y13 : Option V) (kvs' : List (L2.Key × V)) (qs'' : List Nat) (F' : Nat → Int), σ = [some (.ref pc), some vw, some (.ref Ls), some bv, some (vN st), some (.ref d), some (.int (1 + (j : Int))), some (.ref dN), some (vN here), y9, y10, y11, y12, y13] ∧ Same HL H' ∧ H' dN = some (.dK kvs') ∧ KD C.length kvs' qs'' (fun s v => ValR K H' (F' s) (j + 1) v) ∧ (∀ x ∈ qs'', x ∈ ks) ∧ PtS (gG C W) st j F (fun x e => (x ∈ qs.take i2 ∧ e ∈ gG C W x) ∨ (x = here ∧ e ∈ (gG C W here).take k)) qs'' F') ⟨_, _, _, _, _, kvs', qs', F', rfl, s9, hN9, kd9, sub9, pt9.mono fun _ _ h => h.elim id fun h => absurd h.2 List.not_mem_nil⟩ (fun k σ H' _ ⟨_, _, _, _, _, _, _, _, _, s, _⟩ => sqt_keep (kHL.trans (KeepT.of_same s)) hpr) ?_ ?_⟩
          · rintro k y σ H10 hk ⟨y9, y10, y11, y12, y13, kvs', qs'', F', rfl, s10, hN10, kd10, sub10, pt10⟩
            have k10 := kHL.trans (KeepT.of_same s10)
            obtain ⟨br, hbr, hy⟩ := dpA_mem (dpA_keep k10 _ _ (noLs_br _) hrs) hk
            obtain ⟨pb, x0, x1, rfl, hpb, hd0', hd1'⟩ := br_at hy
            have bm := List.mem_of_getElem? hbr
            have okb := okr.to br bm
            have tn := okb.1
            have tk := rc.on here (sub here hm) br bm
            have few10 := kd10.few
            have kvl10 := kd10.len
            have dg : ∀ {H' : Hp}, Same HL H' → DGet H' d (kV (kS here)) (some (.ref pS)) := fun s => by
              rw [← ev]
              exact .inl ⟨kvs, kS here, .inr ⟨od, s _ _ hdL⟩, rfl, rfl⟩
            refine ⟨_, _, rfl, hpb, rfl, _, _, rfl, _, _, rfl, _, _, rfl, rfl, ?_⟩
            refine ⟨_, rfl, _, rfl, d, _, rfl, dg s10, pS, _, _, _, rfl, rfl, same_t s10 hpS, atI_nat (j := 0) rfl, ?_⟩
            refine ⟨_, rfl, _, rfl, vw, x1, W, br.2.1, rfl, hw.keep k10, nd, wl, hd1', by omega, fun H11 s11 => ⟨_, _, rfl, rfl, ?_⟩⟩
            have heG : wBr W br ∈ gG C W here := List.mem_map.mpr ⟨br, bm, rfl⟩
            have hk' : (gG C W here)[k]? = some (wBr W br) := by
              show ((rowOf C here).map (wBr W))[k]? = _
              rw [List.getElem?_map, hbr]
              rfl
            have stepE : ∀ x e, ((x ∈ qs.take i2 ∧ e ∈ gG C W x) ∨ (x = here ∧ e ∈ (gG C W here).take (k + 1))) → ((x ∈ qs.take i2 ∧ e ∈ gG C W x) ∨ (x = here ∧ e ∈ (gG C W here).take k)) ∨ (x = here ∧ e = wBr W br) := fun x e h => by
              rw [take_snoc hk'] at h
              rcases h with h | ⟨h1, h2⟩
              · exact .inl (.inl h)
              · rcases List.mem_append.mp h2 with m | m
                · exact .inl (.inr ⟨h1, m⟩)
                · exact .inr ⟨h1, List.mem_singleton.mp m⟩
            have s11' := s10.trans s11
            have hN11 := s11 _ _ hN10
            have szn : (F here + wv W br.2.1).natAbs ≤ 594 * (j + 1) := by
              have h1 := wv_le hW br.2.1
              have h2 := okb.2
              have h3 := Int.natAbs_add_le (F here) (wv W br.2.1)
              omega
            refine ⟨_, rfl, _, rfl, dN, _, rfl, DGet.k (k := kS br.2.2) hN11, _, rfl, ?_⟩
            rw [kd10.is]
            by_cases c : br.2.2 ∈ qs''
            · rw [decide_eq_true c]
              refine ite2 (fun h => (nomatch (show false = true from h))) (fun _ => ?_)
              obtain ⟨v2, ev2, pS2, pw2, rfl, hpS2, _, _⟩ := kd10.val br.2.2 c
              refine ⟨_, rfl, _, rfl, dN, _, rfl, by rw [← ev2]; exact DGet.k (k := kS br.2.2) hN11, pS2, _, _, _, rfl, rfl, same_t s11 hpS2, atI_nat (j := 0) rfl, _, rfl, _, _, rfl, rfl, _, rfl, ite2 (fun hlt => ?_) (fun hge => ?_)⟩
              · refine ⟨_, rfl, _, rfl, _, rfl, d, _, rfl, dg s11', pS, _, _, _, rfl, rfl, same_t s11' hpS, atI_nat (j := 1) rfl, _, rfl, z1, fun e he => ?_⟩
                have t1 := same_new (o := .tup [x0]) he
                have w1' := Wd.one (K := K) (dp_same s11 _ _ hd0') he
                generalize upd H11 e (.tup [x0]) = H12 at t1 w1'
                refine catW ((hpw.same s11').same t1) w1' (by omega) fun nv H13 t2 w2 => ⟨z2, fun tt htt => ?_⟩
                have t3 := t1.trans (t2.trans (same_new (o := .tup [.int (F here + wv W br.2.1), nv]) htt))
                have r3 : ValR K (upd H13 tt (.tup [.int (F here + wv W br.2.1), nv])) (F here + wv W br.2.1) (j + 1) (.ref tt) := ⟨tt, nv, rfl, SqT.of upd_same, szn, w2.same (same_new htt)⟩
                generalize upd H13 tt (.tup [.int (F here + wv W br.2.1), nv]) = H14 at t3 r3
                have hN14 := t3 _ _ hN11
                refine ⟨_, rfl, _, rfl, dN, _, rfl, DPut.k (k := kS br.2.2) hN14 (line6 (by omega)), ?_⟩
                have kp := keepT_nt (o := .dK (putK kvs' (kS br.2.2) (.ref tt))) (nt_dk _) hN14
                refine ⟨_, _, _, _, _, _, addK qs'' br.2.2, (fun t => if t = br.2.2 then F here + wv W br.2.1 else F' t), rfl, same_mut (s11'.trans t3) hdNL, upd_same, kd10.set tn ?_ (fun x u hx h => ?_), fun x hx => (mem_addK.mp hx).elim (sub10 x) (fun h => h ▸ tk), (pt10.put (e := wBr W br) lv hm heG (fun _ => by have h1 : F' br.2.2 < F here + wv W br.2.1 := of_decide_eq_true hlt; exact Int.le_of_lt h1)).mono stepE⟩
                · show ValR K _ (if br.2.2 = br.2.2 then F here + wv W br.2.1 else F' br.2.2) _ _
                  rw [if_pos rfl]
                  exact r3.keep kp
                · show ValR K _ (if x = br.2.2 then F here + wv W br.2.1 else F' x) _ _
                  rw [if_neg hx]
                  exact (h.keep (KeepT.of_same (s11.trans t3))).keep kp
              · refine ⟨_, _, _, _, _, kvs', qs'', F', rfl, s11', hN11, kd10.mono fun _ v _ h => h.keep (KeepT.of_same s11), sub10, (pt10.old (x := here) (e := wBr W br) c ?_).mono stepE⟩
                have : ¬ F' br.2.2 < F here + wv W br.2.1 := fun h => hge (decide_eq_true h)
                show F here + wv W br.2.1 ≤ F' br.2.2
                omega
            · rw [decide_eq_false c]
              refine ite2 (fun _ => ite2 (fun _ => ?_) (fun h => absurd rfl h)) (fun h => absurd rfl h)
              refine ⟨_, rfl, _, rfl, _, rfl, d, _, rfl, dg s11', pS, _, _, _, rfl, rfl, same_t s11' hpS, atI_nat (j := 1) rfl, _, rfl, z1, fun e he => ?_⟩
              have t1 := same_new (o := .tup [x0]) he
              have w1' := Wd.one (K := K) (dp_same s11 _ _ hd0') he
              generalize upd H11 e (.tup [x0]) = H12 at t1 w1'
              refine catW ((hpw.same s11').same t1) w1' (by omega) fun nv H13 t2 w2 => ⟨z2, fun tt htt => ?_⟩
              have t3 := t1.trans (t2.trans (same_new (o := .tup [.int (F here + wv W br.2.1), nv]) htt))
              have r3 : ValR K (upd H13 tt (.tup [.int (F here + wv W br.2.1), nv])) (F here + wv W br.2.1) (j + 1) (.ref tt) := ⟨tt, nv, rfl, SqT.of upd_same, szn, w2.same (same_new htt)⟩
              generalize upd H13 tt (.tup [.int (F here + wv W br.2.1), nv]) = H14 at t3 r3
              have hN14 := t3 _ _ hN11
              refine ⟨_, rfl, _, rfl, dN, _, rfl, DPut.k (k := kS br.2.2) hN14 (line6 (by omega)), ?_⟩
              have kp := keepT_nt (o := .dK (putK kvs' (kS br.2.2) (.ref tt))) (nt_dk _) hN14
              refine ⟨_, _, _, _, _, _, addK qs'' br.2.2, (fun t => if t = br.2.2 then F here + wv W br.2.1 else F' t), rfl, same_mut (s11'.trans t3) hdNL, upd_same, kd10.set tn ?_ (fun x u hx h => ?_), fun x hx => (mem_addK.mp hx).elim (sub10 x) (fun h => h ▸ tk), (pt10.put (e := wBr W br) lv hm heG (fun h => absurd h c)).mono stepE⟩
              · show ValR K _ (if br.2.2 = br.2.2 then F here + wv W br.2.1 else F' br.2.2) _ _
                rw [if_pos rfl]
                exact r3.keep kp
              · show ValR K _ (if x = br.2.2 then F here + wv W br.2.1 else F' x) _ _
                rw [if_neg hx]
                exact (h.keep (KeepT.of_same (s11.trans t3))).keep kp
          · rintro σ H10 ⟨y9, y10, y11, y12, y13, kvs', qs'', F', rfl, s10, hN10, kd10, sub10, pt10⟩
            refine ⟨_, _, _, _, _, _, kvs', qs'', F', rfl, s10, hN10, kd10, sub10, pt10.mono fun x e h => ?_⟩
            have h1 := h.1
            rw [take_snoc hhere] at h1
            rcases List.mem_append.mp h1 with m | m
            · exact .inl ⟨m, h.2⟩
            · refine .inr ⟨List.mem_singleton.mp m, ?_⟩
              have gl : (gG C W here).length = rs.length := by
                show ((rowOf C here).map (wBr W)).length = _
                rw [List.length_map, rl]
              rw [List.take_of_length_le (by omega), ← List.mem_singleton.mp m]
              exact h.2
        · rintro σ H9 ⟨y8, y9, y10, y11, y12, y13, kvs', qs', F', rfl, s9, hN9, kd9, sub9, pt9⟩
          have lv' : LvS (gG C W) st (j + 1) qs' F' := pt9.fin lv fun x hx e he => ⟨by rw [kvl, List.take_length]; exact hx, he⟩
          refine ⟨s9 _ _ hdL, ?_⟩
          have s10 := s6.trans (uF s9)
          have hN10 : upd H9 d (.dK kvs) dN = some (.dK kvs') := by rw [upd_ne dNd]; exact hN9
          have k10 := keepT_frz (o := .dK kvs) (s9 _ _ hdL)
          have kd10 := kd9.mono (R' := fun s v => ValR K (upd H9 d (.dK kvs)) (F' s) (j + 1) v) fun _ v _ h => h.keep k10
          have bb10 := (bbL.keep (KeepT.of_same s9)).keep k10
          generalize upd H9 d (.dK kvs) = H10 at s10 hN10 kd10 bb10
          refine ⟨_, rfl, ?_⟩
          refine ⟨_, rfl, _, rfl, dN, _, rfl, DGet.k (k := kS st) hN10, _, rfl, ?_⟩
          rw [kd10.is]
          by_cases c : st ∈ qs'
          · rw [decide_eq_true c]
            refine ite2 (fun _ => ?_) (fun h => absurd rfl h)
            obtain ⟨v2, ev2, pS2, pw2, rfl, hpS2, sb2, wd2⟩ := kd10.val st c
            have nz : (1 : Int) + (j : Int) ≠ 0 := by omega
            have szz : Sz 16 (F' st, 1 + (j : Int)) := ⟨by show (F' st).natAbs < 2 ^ 16; omega, by show (1 + (j : Int)).natAbs < 2 ^ 16; omega⟩
            have lp := fr_low (n := (F' st)) nz
            have zp : Sz 16 (fr (F' st) (1 + (j : Int))) := fr_sz szz
            refine ⟨_, rfl, _, rfl, dN, _, rfl, by rw [← ev2]; exact DGet.k (k := kS st) hN10, pS2, _, _, _, rfl, rfl, hpS2, atI_nat (j := 0) rfl, _, rfl, (F' st), 1 + (j : Int), rfl, nz, sz_up szz (by decide), fun pp hpp => ?_⟩
            have t1 := same_new (o := tupF (fr (F' st) (1 + (j : Int)))) hpp
            have hpp1 := sq_new (K := K) (H := H10) (p := pp) (f := fr (F' st) (1 + (j : Int)))
            have fe := frv (n := F' st) nz
            generalize fr (F' st) (1 + (j : Int)) = pace at t1 hpp1 lp zp fe
            generalize upd H10 pp (tupF pace) = H11 at t1 hpp1
            have kd11 := kd10.mono (R' := fun s v => ValR K H11 (F' s) (j + 1) v) fun _ v _ h => h.keep (KeepT.of_same t1)
            have hN11 := t1 _ _ hN10
            have inv : ∀ (bv' : V) (y13 : Option V) (H12 : Hp), Same H11 H12 → BX K H12 (gG C W) ks bv' (fun s m => (s ∈ ks.take i ∧ 1 ≤ m ∧ m ≤ ks.length) ∨ (s = st ∧ 1 ≤ m ∧ m ≤ j + 1)) → ∃ (bv : V) (d : Addr) (a6 a7 a8 a9 a10 a11 a12 a13 : Option V) (kvs : List (L2.Key × V)) (qs : List Nat) (F : Nat → Int), [some (.ref pc), some vw, some (.ref Ls), some bv', some (vN st), some (.ref dN), some (.int (1 + (j : Int))), some (.ref dN), y8, y9, y10, y11, y12, y13] = [some (.ref pc), some vw, some (.ref Ls), some bv, some (vN st), some (.ref d), a6, a7, a8, a9, a10, a11, a12, a13] ∧ Same H H12 ∧ H d = none ∧ H12 d = some (.dK kvs) ∧ KD C.length kvs qs (fun s v => ValR K H12 (F s) (j + 1) v) ∧ LvS (gG C W) st (j + 1) qs F ∧ (∀ x ∈ qs, x ∈ ks) ∧ BX K H12 (gG C W) ks bv (fun s m => (s ∈ ks.take i ∧ 1 ≤ m ∧ m ≤ ks.length) ∨ (s = st ∧ 1 ≤ m ∧ m ≤ j + 1)) := fun bv' y13 H12 t2 hb =>
              ⟨bv', dN, _, _, _, _, _, _, _, _, kvs', qs', F', rfl, s10.trans (t1.trans t2), hdNH, t2 _ _ hN11, kd11.mono fun _ v _ h => h.keep (KeepT.of_same t2), lv', sub9, hb⟩
            have pp0 := lp.pos
            have newm : ∀ (m : Nat) r, m = j + 1 → WOk (gG C W) st r → wEnd st r = st → r.length = m → wSum r * pace.2 ≤ pace.1 * (m : Int) := fun m r hm o er hl => by
              have h1 := (lv'.top r o (by omega)).2
              rw [er] at h1
              have h2 : wSum r * pace.2 ≤ F' st * pace.2 := Int.mul_le_mul_of_nonneg_right h1 (by omega)
              have h3 : ((m : Nat) : Int) = 1 + (j : Int) := by omega
              rw [h3]
              omega
            have newat : ∃ s ∈ ks, ∃ r, WOk (gG C W) s r ∧ wEnd s r = s ∧ 1 ≤ r.length ∧ r.length ≤ ks.length ∧ wSum r * pace.2 = pace.1 * (r.length : Int) := by
              obtain ⟨r, r1, r2, r3, r4⟩ := lv'.at_ st c
              refine ⟨st, stm, r, r1, r3, by omega, by omega, ?_⟩
              rw [r4, r2, ← fe]
              congr 1
              omega
            have fin : (∀ s m, (s ∈ ks.take i ∧ 1 ≤ m ∧ m ≤ ks.length) ∨ (s = st ∧ 1 ≤ m ∧ m ≤ j) → ∀ r, WOk (gG C W) s r → wEnd s r = s → r.length = m → wSum r * pace.2 ≤ pace.1 * (m : Int)) → ∀ t, H11 t = none → BestX K (upd H11 t (.tup [.ref pp, vN st, pw2])) (gG C W) ks (.ref t) (fun s m => (s ∈ ks.take i ∧ 1 ≤ m ∧ m ≤ ks.length) ∨ (s = st ∧ 1 ≤ m ∧ m ≤ j + 1)) := fun old t ht => by
              have t2 := same_new (o := .tup [.ref pp, vN st, pw2]) ht
              refine ⟨t, pp, st, pw2, pace, rfl, SqT.of upd_same, same_t t2 hpp1, lp, zp, stm, ((wd2.same t1).same t2).up (by omega), newat, fun s m hd r o er hl => ?_⟩
              rcases hd with hd | ⟨rfl, h1, h2⟩
              · exact old s m (.inl hd) r o er hl
              · by_cases hm : m ≤ j
                · exact old s m (.inr ⟨rfl, h1, hm⟩) r o er hl
                · exact newm m r (by omega) o er hl
            rcases bb10 with ⟨rfl, no⟩ | bo
            · refine ⟨_, rfl, rfl, _, rfl, ite2 (fun _ => ite2 (fun _ => ?_) (fun h => absurd rfl h)) (fun h => absurd rfl h)⟩
              exact ⟨_, rfl, _, rfl, _, rfl, _, rfl, dN, _, rfl, by rw [← ev2]; exact DGet.k (k := kS st) hN11, pS2, _, _, _, rfl, rfl, same_t t1 hpS2, atI_nat (j := 1) rfl, z3, fun t ht => inv _ _ _ (same_new ht) (.inr (fin (fun s m hd r o er hl => (no s m hd r o er hl).elim) t ht))⟩
            · obtain ⟨pB, pBp, sB, pwB, paceB, rfl, hpB, hpBp, lB, zB, sBk, wB, xB⟩ := id bo
              have B0 := lB.pos
              refine ⟨_, rfl, rfl, _, rfl, ite2 (fun h => (nomatch (show false = true from h))) (fun _ => ?_)⟩
              refine ⟨_, rfl, pB, _, _, _, rfl, rfl, same_t t1 hpB, atI_nat (j := 0) rfl, _, rfl, pBp, pp, paceB, pace, rfl, same_t t1 hpBp, hpp1, sz_up zB (by decide), sz_up zp (by decide), ?_⟩
              refine ⟨_, rfl, ite2 (fun hl => ?_) (fun hl => ?_)⟩
              · exact ⟨_, rfl, _, rfl, _, rfl, _, rfl, dN, _, rfl, by rw [← ev2]; exact DGet.k (k := kS st) hN11, pS2, _, _, _, rfl, rfl, same_t t1 hpS2, atI_nat (j := 1) rfl, z3, fun t ht => inv _ _ _ (same_new ht) (.inr (fin (xB.more (by omega) (by omega) hl) t ht))⟩
              · refine inv _ _ _ (Same.refl _) (.inr ⟨pB, pBp, sB, pwB, paceB, rfl, same_t t1 hpB, same_t t1 hpBp, lB, zB, sBk, wB.same t1, xB.at_, fun s m hd r o er hl' => ?_⟩)
                rcases hd with hd | ⟨rfl, h1, h2⟩
                · exact xB.top s m (.inl hd) r o er hl'
                · by_cases hm : m ≤ j
                  · exact xB.top s m (.inr ⟨rfl, h1, hm⟩) r o er hl'
                  · have g1 := newm m r (by omega) o er hl'
                    have g2 : ¬ paceB.1 * pace.2 < pace.1 * paceB.2 := fun z => hl (decide_eq_true z)
                    have g3 : wSum r * pace.2 * paceB.2 ≤ pace.1 * (m : Int) * paceB.2 := Int.mul_le_mul_of_nonneg_right g1 (by omega)
                    have g4 : pace.1 * paceB.2 * (m : Int) ≤ paceB.1 * pace.2 * (m : Int) := Int.mul_le_mul_of_nonneg_right (by omega) (by omega)
                    have g5 : wSum r * paceB.2 * pace.2 ≤ paceB.1 * (m : Int) * pace.2 := by
                      have e1 : wSum r * paceB.2 * pace.2 = wSum r * pace.2 * paceB.2 := by grind
                      have e2 : pace.1 * (m : Int) * paceB.2 = pace.1 * paceB.2 * (m : Int) := by grind
                      have e3 : paceB.1 * (m : Int) * pace.2 = paceB.1 * pace.2 * (m : Int) := by grind
                      omega
                    exact Int.le_of_mul_le_mul_right g5 (by omega)
          · rw [decide_eq_false c]
            refine ite2 (fun h => (nomatch (show false = true from h))) (fun _ => ?_)
            refine ⟨bv, dN, _, _, _, _, _, _, _, _, kvs', qs', F', rfl, s10, hdNH, hN10, kd10, lv', sub9, bb10.mono fun s m p => ?_⟩
            rcases p with p | ⟨rfl, h1, h2⟩
            · exact .inl (.inl p)
            · by_cases hm : m ≤ j
              · exact .inl (.inr ⟨rfl, h1, hm⟩)
              · refine .inr fun r o er hl => c ?_
                have := (lv'.top r o (by omega)).1
                rw [er] at this
                exact this
      · rintro σ H6 ⟨bv, d, y6, y7, y8, y9, y10, y11, y12, y13, kvs, qs, F, rfl, s6, hdH, hd6, kd, lv, sub, bb⟩
        rw [List.length_map] at bb
        refine ⟨_, _, _, _, _, _, _, _, _, _, _, rfl, s6, bb.mono fun s m p => .inl ?_⟩
        have hs := p.1
        rw [take_snoc hst] at hs
        rcases List.mem_append.mp hs with h | h
        · exact .inl ⟨h, p.2⟩
        · exact .inr ⟨List.mem_singleton.mp h, p.2.1, by omega⟩
    · rintro σ H1 ⟨bv, y4, y5, y6, y7, y8, y9, y10, y11, y12, y13, rfl, s1, bb⟩
      rw [List.length_map, List.take_length] at bb
      rcases bb with ⟨_, no⟩ | bb
      · obtain ⟨s, hs, i, i1, i2, e⟩ := comes_back okC rc
        obtain ⟨⟨r, r1, r2, r3⟩, _⟩ := itr_walk okC (W := W) (rc.lt s hs) i
        exact (no s i ⟨hs, i1, i2⟩ r r1 (r3.trans e) r2).elim
      · exact ⟨_, rfl, q _ _ s1 bb⟩
end
end Mt
namespace Mt
open PySem PySem.Spec PyProof.Rows L2
/-! ### zip of a tuple and a list -/
def ItzN (K : PySem.W.Frag) (a b : Addr) : It where
  go i H := ∃ us ws : List V, (SqT K H a us ∧ SqL K H b ws) ∧ ∃ p q, us[i]? = some p ∧ ws[i]? = some q
  yld i H v H' := ∃ (N : Addr) (p q : V), H N = none ∧ v = .ref N ∧ H' = upd H N (.tup [p, q]) ∧ (∀ us, SqT K H a us → us[i]? = some p) ∧ ∀ ws, SqL K H b ws → ws[i]? = some q
  stop i H := ∃ us ws : List V, (SqT K H a us ∧ SqL K H b ws) ∧ i ≤ us.length ∧ i ≤ ws.length ∧ (i = us.length ∨ i = ws.length)
def stN (z TI TO i1 i2 a b : Addr) (i : Nat) (h : Heap) : Prop := IsZip h z TI TO .none ∧ IsTupOf2 h TI (.ref i1) (.ref i2) ∧ (∃ x y, IsTupOf2 h TO x y) ∧ h.IsTupleIter i1 a i ∧ h.IsListIter i2 b i
theorem turn_zipN {P : Program} {w : World} {K : PySem.W.Frag} {elts : List Expr} {kk : Nat} {tpos : Pos} {a b z TI TO i1 i2 : Addr} (S : ZipSep2 z TI TO i1 i2 [i1, a] [i2, b]) :
    Turn P w K (.Tuple elts kk tpos) (ItzN K a b) [z, TI, TO, i1, i2] z (stN z TI TO i1 i2 a b) where
  mem := List.mem_cons_self
  obj i h st := by
    obtain ⟨r1, r2, ⟨_, _, r3⟩, ⟨_, r4, _, d4⟩, _, r5, _, d5⟩ := st
    exact five (q := fun c => ∃ o, h.get? c = some o ∧ ∀ v, o.data ≠ .cell v) ⟨_, r1, fun v => Data.noConfusion⟩ ⟨_, r2, fun v => Data.noConfusion⟩ ⟨_, r3, fun v => Data.noConfusion⟩
      ⟨_, r4, fun v e => by rw [d4] at e; cases e⟩ ⟨_, r5, fun v e => by rw [d5] at e; cases e⟩
  keep i h h' st k := by
    obtain ⟨r1, r2, ⟨_, _, r3⟩, r4, r5⟩ := st
    exact ⟨k _ (by simp) _ r1, k _ (by simp) _ r2, ⟨_, _, k _ (by simp) _ r3⟩, r4.at fun _ => k _ (by simp) _, r5.at fun _ => k _ (by simp) _⟩
  self _ _ _ _ _ st q := wpAny_pyIter_zip st.1 q
  item X hP hw hK hc i pins s σ H E I hf st hg := by
    subst hP hw hK
    obtain ⟨us, ws, ⟨lu, tw⟩, p, q, hp, hq⟩ := hg
    obtain ⟨r1, r2, ⟨_, _, r3⟩, r4, r5⟩ := st
    obtain ⟨ua, rvu, isl, _⟩ := I.tuple lu
    obtain ⟨wa, rvw, ist, _⟩ := I.list tw
    obtain ⟨pu, gu, ru⟩ := rvu.get hp
    obtain ⟨pw, gw, rw'⟩ := rvw.get hq
    have na : a ≠ i1 := fun e => by
      obtain ⟨_, e1, c1, _⟩ := r4
      obtain ⟨_, e2, c2, _⟩ := (id isl)
      rw [e, e1] at e2
      cases e2
      rw [c1] at c2
      simp at c2
    have nb : b ≠ i2 := fun e => by
      obtain ⟨_, e1, c1, _⟩ := r5
      obtain ⟨_, e2, c2, _⟩ := ist.isList
      rw [e, e1] at e2
      cases e2
      rw [c1] at c2
      simp at c2
    have bu : i < ua.toArray.size := (List.getElem?_eq_some_iff.mp gu).1
    have bw : i < wa.toArray.size := (List.getElem?_eq_some_iff.mp gw).1
    have calm : X.A.in1.handled = none := I.ok.hd hc
    refine wpAny_pyNext_zipD2_item S (Draws.tuple calm i1 a na ua.toArray) (Draws.list calm i2 b nb wa.toArray) r1 r2 r3 ⟨r4, isl⟩ ⟨r5, ist.isList⟩ bu bw fun x1 x2 g tk e1 e2 n1 n2 n3 n4 n5 _ ke => ?_
    have zl : z < s.heap.objs.size := Heap.lt_size r1
    refine ⟨_, rfl, wpAny_letOwnedTupleGo_zip (s := { s with heap := g, toks := tk }) n1 fun g' n1' sb => ?_⟩
    have stay : ∀ c o, c ∉ [z, TI, TO, i1, i2] → s.heap.get? c = some o → g'.get? c = some o := fun c o hn e => by
      simp only [List.mem_cons, List.not_mem_nil, or_false, not_or] at hn
      exact (sb.2 c hn.1).trans (ke c o hn.1 hn.2.2.1 hn.2.2.2.1 hn.2.2.2.2 e)
    rw [show ua.toArray[i]? = some pu by simpa using gu] at e1
    rw [show wa.toArray[i]? = some pw by simpa using gw] at e2
    cases e1
    cases e2
    have made : IsTupOf2 g' s.heap.objs.size pu pw := (sb.2 _ (Nat.ne_of_gt zl)).trans n5
    have I' := I.turnedNew (t' := tk) stay hf (Nat.le_refl _) (ob := .tup [p, q]) ⟨(by decide : 2 ≤ sizeLine), [pu, pw], .cons ru (.cons rw' .nil), _, made, rfl, _, rfl⟩
    have below : ∀ c ∈ [z, TI, TO, i1, i2], c < s.heap.objs.size := by
      obtain ⟨_, l4, _⟩ := r4
      obtain ⟨_, l5, _⟩ := r5
      exact five (q := (· < s.heap.objs.size)) zl (Heap.lt_size r2) (Heap.lt_size r3) (Heap.lt_size l4) (Heap.lt_size l5)
    refine ⟨.ref s.heap.objs.size, _, I', rfl, ⟨_, p, q, I.hok.fresh (Nat.le_refl _), rfl, rfl, fun us' h => I.tuple_inj lu h ▸ hp, fun ws' h => I.list_inj tw h ▸ hq⟩, ⟨n1', ?_, ⟨_, _, (sb.2 _ S.TOz).trans n2⟩, ?_, ?_⟩, fun c hcm => ?_⟩
    · exact (sb.2 _ S.TIz).trans (ke _ _ S.TIz S.TITO S.TIi1 S.TIi2 r2)
    · exact n3.1.at fun o e => (sb.2 _ (Ne.symm S.zi1)).trans e
    · exact n4.1.at fun o e => (sb.2 _ (Ne.symm S.zi2)).trans e
    · rw [upd_ne (Nat.ne_of_lt (below c hcm))]
      exact (hf c hcm).1
  done X hP hw hK hc i pins s σ H E I hf st hg := by
    subst hP hw hK
    obtain ⟨us, ws, ⟨lu, tw⟩, m1, m2, m3⟩ := hg
    obtain ⟨r1, r2, ⟨_, _, r3⟩, r4, r5⟩ := st
    obtain ⟨ua, rvu, isl, _⟩ := I.tuple lu
    obtain ⟨wa, rvw, ist, _⟩ := I.list tw
    have calm : X.A.in1.handled = none := I.ok.hd hc
    have na : a ≠ i1 := fun e => by
      obtain ⟨_, e1, c1, _⟩ := r4
      obtain ⟨_, e2, c2, _⟩ := (id isl)
      rw [e, e1] at e2
      cases e2
      rw [c1] at c2
      simp at c2
    have nb : b ≠ i2 := fun e => by
      obtain ⟨_, e1, c1, _⟩ := r5
      obtain ⟨_, e2, c2, _⟩ := ist.isList
      rw [e, e1] at e2
      cases e2
      rw [c1] at c2
      simp at c2
    have z1 : ua.toArray.size = us.length := by simpa using rvu.length.symm
    have z2 : wa.toArray.size = ws.length := by simpa using rvw.length.symm
    have fin : i = ua.toArray.size ∨ i = wa.toArray.size := by rw [z1, z2]; exact m3
    refine wpAny_pyNext_zipD2_end S (Draws.tuple calm i1 a na ua.toArray) (Draws.list calm i2 b nb wa.toArray) r1 r2 r3 ⟨r4, isl⟩ ⟨r5, ist.isList⟩ (by rw [z1]; exact m1) (by rw [z2]; exact m2) fin fun g tk ke => ⟨rfl, ?_⟩
    refine I.turnedL (t' := tk) (fun c o hn e => ?_) hf
    simp only [List.mem_cons, List.not_mem_nil, or_false, not_or] at hn
    exact ke c o hn.1 hn.2.2.1 hn.2.2.2.1 hn.2.2.2.2 e
/-- iter(zip(a tuple, a list)) -/
def iZipN (K : PySem.W.Frag) (ta : TA) : TI := fun σ H R => ta σ H fun vs H1 => ∃ (a b : Addr) (us ws : List V), vs = [.ref a, .ref b] ∧ (SqT K H1 a us ∧ SqL K H1 b ws) ∧ R (ItzN K a b) H1
theorem pi_zipN {X : Cx} {x y : Expr} {ta : TA} {p pos tpos : Pos} {elts : List Expr} {kk : Nat} (hg : Gl X "zip") (hm : X.mg "zip" = none) (ha : L2.PA X [x, y] ta)
    (h1 : starEach [x, y] X.env = (false, eval x X.env) :: starEach [y] X.env := by rfl) (h2 : (backTo pos (starEach [y] X.env)).any (·.1) = false := by rfl) :
    PI X (.Tuple elts kk tpos) (.Call (.Name "zip" p) [x, y] [] pos) (iZipN X.K ta) where
  run pins s σ H R I h := by
    refine Call_ (ld_blt I hg hm PyProof.Rows.boot_zip (PyProof.Rows.callWith_type1 (thn (ha.run pos pins s σ H _ I h) ?_) h1 h2))
    rintro us s1 ⟨vs, H1, I1, rel, a, b, xs, ys, rfl, ⟨lu, tw⟩, go⟩
    obtain ⟨ua, _, isl, _⟩ := I1.tuple lu
    obtain ⟨wa, _, ist, _⟩ := I1.list tw
    obtain _ | ⟨ra, _ | ⟨rb, _ | _⟩⟩ := rel
    cases ra
    cases rb
    have la : a < s1.heap.objs.size := let ⟨_, e, _⟩ := isl; Heap.lt_size e
    refine zip_begins2 (begins_tuple a ua.toArray) (begins_list b wa.toArray) isl ist.isList fun g g1 g2 g3 g4 g5 g6 ke => wpAny_pyIter_zip g1 ?_
    refine ⟨s1.heap.objs.size + 4, [s1.heap.objs.size + 4, s1.heap.objs.size + 2, s1.heap.objs.size + 3, s1.heap.objs.size, s1.heap.objs.size + 1], _, _, H1, rfl, I1.kept (t' := s1.toks) ke, turn_zipN (sepM la ist.lt), ⟨g1, g2, ⟨_, _, g3⟩, ⟨_, g4, rfl, rfl⟩, ⟨_, g5, rfl, rfl⟩⟩, ?_, go⟩
    · have new : ∀ k : Nat, FpOk X pins H1 (s1.heap.objs.size + k) := fun k => I1.fpOk (Nat.le_add_right _ _) (I1.hok.fresh (Nat.le_add_right _ _))
      exact five (new 4) (new 2) (new 3) (new 0) (new 1)
theorem walk_zipN {K : PySem.W.Frag} {a b : Addr} {us ws : List V} {n : Nat} (h1 : us.length = n) (h2 : ws.length = n) : Walk (ItzN K a b) n (fun H => SqT K H a us ∧ SqL K H b ws) (YPair (fun i => us[i]?) (fun i => ws[i]?)) := by
  refine ⟨fun i H hi q => ?_, fun H q => ⟨us, ws, q, by omega, by omega, .inl h1.symm⟩, fun i H v H' _ q y => ?_⟩
  · exact ⟨us, ws, q, us[i], ws[i], List.getElem?_eq_getElem (by omega), List.getElem?_eq_getElem (by omega)⟩
  · obtain ⟨N, p, r, h1, h2, h3, h4, h5⟩ := y
    exact ⟨N, p, r, h2, h1, h3, h4 us q.1, h5 ws q.2⟩
end Mt
namespace Mt
open PySem PySem.Spec PyProof.Rows L2
/-- no more than the pace for each branch, and what the potentials lie apart -/
theorem hi_le {R : WR} (ok : ROk R) {ks : List Nat} {a b l : Int} {h : Nat → Int} (lt : ∀ s ∈ ks, s < R.length) (on : ∀ s ∈ ks, ∀ r, R[s]? = some r → ∀ e ∈ r, e.2 ∈ ks) (hg : ∀ s ∈ ks, ∀ r, R[s]? = some r → ∀ e ∈ r, b * e.1 - a + h e.2 ≤ h s) (hl : ∀ s ∈ ks, l ≤ h s) :
    ∀ (n s : Nat), s ∈ ks → b * at0 (hi R n) s ≤ a * (n : Int) + h s - l
  | 0, s, hs => by
    have e : at0 (hi R 0) s = 0 := by
      show ((R.map fun _ => (0 : Int))[s]?).getD 0 = 0
      rw [List.getElem?_map]
      cases R[s]? <;> rfl
    have := hl s hs
    rw [e]
    simp
    omega
  | n + 1, s, hs => by
    have hr : R[s]? = some (R[s]'(lt s hs)) := List.getElem?_eq_getElem (lt s hs)
    have ne := (ok.row _ (List.getElem_mem (lt s hs))).1
    have e : at0 (hi R (n + 1)) s = mx ((R[s]'(lt s hs)).map (nxt (hi R n))) := by
      show ((R.map fun r => mx (r.map (nxt (hi R n))))[s]?).getD 0 = _
      rw [List.getElem?_map, hr]
      rfl
    have nn : (R[s]'(lt s hs)).map (nxt (hi R n)) ≠ [] := fun z => by
      have := List.map_eq_nil_iff.mp z
      rw [this] at ne
      exact absurd ne (Nat.lt_irrefl 0)
    obtain ⟨x, hx, ex⟩ := List.mem_map.mp (mx_mem nn)
    have h1 := hi_le ok lt on hg hl n x.2 (on s hs _ hr x hx)
    have h2 := hg s hs _ hr x hx
    rw [e, ← ex]
    show b * (x.1 + at0 (hi R n) x.2) ≤ a * ((n + 1 : Nat) : Int) + h s - l
    rw [Int.mul_add, Int.natCast_add, Int.mul_add]
    have : a * ((1 : Nat) : Int) = a := by simp
    omega
end Mt
namespace Mt
open PySem PySem.Spec PyProof.Rows L2
/-- a dict of heights, by state -/
def HgtD (n : Nat) (kvs : List (L2.Key × V)) (ks : List Nat) (h : Nat → Int) : Prop := KD n kvs ks fun s v => v = .int (h s)
theorem HgtD.at_ {n : Nat} {kvs : List (L2.Key × V)} {ks : List Nat} {h : Nat → Int} (k : HgtD n kvs ks h) {s : Nat} (hs : s ∈ ks) : valV kvs (kS s) = some (.int (h s)) := by
  obtain ⟨v, e, rfl⟩ := k.val s hs
  exact e
def tightB (f : Br → Int × Nat) (h : Nat → Int) (s : Nat) (r : List Br) : List Br := r.filter fun b => decide ((f b).1 + h (f b).2 = h s)
def spTight (K : PySem.W.Frag) : Sp := fun vs H Q _ => ∃ (vb vr : V) (d : Addr) (s n : Nat) (r : List Br) (f : Br → Int × Nat) (kvs : List (L2.Key × V)) (ks : List Nat) (h : Nat → Int), vs = [vb, vr, .ref d, .int (s : Int)] ∧ Dp K H vb (dRw r) ∧ Dp K H vr (dWRow (r.map f)) ∧ r.length ≤ 20 ∧ H d = some (.dK kvs) ∧ HgtD n kvs ks h ∧ s ∈ ks ∧ (∀ b ∈ r, (f b).2 ∈ ks) ∧
  ∀ H' p us, Same H H' → H p = none → H' p = some (.lst us) → DpAll K H' us ((tightB f h s r).map dBr) → Q (.ref p) H'
section
variable {P : Program} {w : World} {K : PySem.W.Frag} {mg : Str → Option Value} {base : Heap}
theorem ok_tight_branches (T : Txt K mg) {f : Addr} {fd : FuncData} (F : FnP K "tight_branches" s_tight_branches f fd) : FnOk P w K mg base CX0 1 f fd ["branches", "row", "heights", "state"] (spTight K) := by
  refine F.ok sc_tight_branches (fun vs H Q E h => ?_) (fun cdv A outer s H vs Q E hr h => ?_)
  · obtain ⟨vb, vr, d, s, n, r, f, kvs, ks, h, rfl, _⟩ := h
    rfl
  · obtain ⟨vb, vr, d, st, n, r, f, kvs, ks, h, rfl, hB, hR, few, hd, kd, hs, on, q⟩ := h
    refine ⟨_, PSs.nox (pss_one (ps_ret (pe_lc (own := [("branch", 4), ("worth", 5), ("target", 6)]) (g := (gTup K 2 (gCons (gName 4) (gCons (gTup K 2 (gCons (gName 5) (gCons (gName 6) gNil))) gNil)))) rfl sc_tight_branches.nd (pi_zipN (by rfl) T.b_zip (pa_cons (pv 0) (pa_cons (pv 1) pa_nil))) (blkOk_by (N := N_tight_branches) (sc := defScope s_tight_branches) (by decide +kernel)) (fun _ _ _ _ _ => (pg_tup rfl (pgs_cons (pg_name (i := 4) sc_tight_branches.nd rfl (Or.inl rfl)) (pgs_cons (pg_tup rfl (pgs_cons (pg_name (i := 5) sc_tight_branches.nd rfl (Or.inl rfl)) (pgs_cons (pg_name (i := 6) sc_tight_branches.nd rfl (Or.inl rfl)) pgs_nil))) pgs_nil)))) (fun _ _ _ _ _ => (pts_one (pt_cmpR op_eq (pe_op op_add (pv 5) (pe_dget (hu_of hr) (pv 2) (pv 6) (fun _ _ => rfl))) (pe_dget (hu_of hr) (pv 2) (pv 3) (fun _ _ => rfl)) (nomark _)))) (fun _ _ _ _ _ => (pv 4))))), ?_⟩
    obtain ⟨pb, bs, rfl, hpb, hbs⟩ := dp_tup hB
    obtain ⟨pr, es, rfl, hpr, hes⟩ := dp_lst hR
    have bl := dpA_len hbs
    have el := dpA_len hes
    rw [List.length_map] at bl
    rw [List.length_map, List.length_map] at el
    refine ⟨_, rfl, _, rfl, pb, pr, bs, es, rfl, ⟨hpb, hpr⟩, fun M hM => lc_it (walk_zipN (n := r.length) bl el) (fun i H' => Same H H' ∧ ∃ us : List V, H' M = some (.lst us) ∧ DpAll K H' us ((tightB f h st (r.take i)).map dBr) ∧ us.length ≤ i) ⟨same_new hM, [], upd_same, .nil, Nat.le_refl _⟩ (fun i H' _ e => ⟨same_t e.1 hpb, same_l e.1 hpr⟩) ?_ ?_⟩
    · rintro i x H2 H2' hi ⟨s2, us, hM2, hus, ul⟩ ⟨T', u, v', rfl, hT, rfl, hu, hv⟩
      have hu : bs[i]? = some u := hu
      have hv : es[i]? = some v' := hv
      have s3 := same_new (o := .tup [u, v']) hT
      have hT3 := upd_same (H := H2) (a := T') (o := .tup [u, v'])
      generalize upd H2 T' (.tup [u, v']) = H3 at s3 hT3
      have s23 := s2.trans s3
      obtain ⟨br, hbr, hy⟩ := dpA_mem (dpA_same s23 _ _ hbs) hu
      obtain ⟨e, he, hz⟩ := dpA_mem (dpA_same s23 _ _ hes) hv
      rw [List.getElem?_map, hbr] at he
      obtain rfl : f br = e := Option.some.inj he
      obtain ⟨pe, rfl, hpe⟩ := e_at hz
      have hM3 := s3 _ _ hM2
      have hd3 := s23 _ _ hd
      have hus3 := dpA_same s3 _ _ hus
      have g1 := kd.at_ (on br (List.mem_of_getElem? hbr))
      have g2 := kd.at_ hs
      have ft : tightB f h st (r.take (i + 1)) = tightB f h st (r.take i) ++ [br].filter (fun b => decide ((f b).1 + h (f b).2 = h st)) := by
        unfold tightB
        rw [take_snoc hbr, List.filter_append]
      refine ⟨T', _, rfl, SqT.of hT3, rfl, _, _, rfl, _, _, rfl, ?_⟩
      refine ⟨pe, _, rfl, hpe, rfl, _, _, rfl, _, _, rfl, rfl, ?_⟩
      refine ⟨rfl, rfl, _, rfl, _, rfl, _, rfl, d, _, rfl, by rw [← g1]; exact DGet.k (k := kS (f br).2) hd3, _, _, rfl, rfl, _, rfl, _, rfl, d, _, rfl, by rw [← g2]; exact DGet.k (k := kS st) hd3, rfl, _, rfl, ?_⟩
      by_cases c : (f br).1 + h (f br).2 = h st
      · have dc : decide (V.int ((f br).1 + h (f br).2) = V.int (h st)) = true := decide_eq_true (by rw [c])
        refine ite2 (fun _ => ?_) (fun n => absurd dc n)
        refine ⟨_, rfl, us, hM3, line6 (by omega), same_mut s23 hM, us ++ [u], upd_same, ?_, by rw [List.length_append, List.length_singleton]; omega⟩
        have kM := keepT_nt (o := .lst (us ++ [u])) (nt_lst _) hM3
        rw [ft, List.filter_cons_of_pos (by simpa using c), List.filter_nil, List.map_append]
        exact dpA_snoc (dpA_keep kM _ _ (noLs_br _) hus3) (dp_keep kM _ _ (dBr_noL _) hy)
      · have dc : ¬ decide (V.int ((f br).1 + h (f br).2) = V.int (h st)) = true := fun z => c (V.int.inj (of_decide_eq_true z))
        refine ite2 (fun n => absurd n dc) (fun _ => ?_)
        refine ⟨s23, us, hM3, ?_, by omega⟩
        rw [ft, List.filter_cons_of_neg (by simpa using c), List.filter_nil, List.append_nil]
        exact hus3
    · rintro H2 ⟨s2, us, hM2, hus, ul⟩
      rw [List.take_length] at hus
      exact q _ _ _ s2 hM hM2 hus
end
end Mt
namespace DNE
open PySem PySem.Spec PyProof.Rows L2
/-! ### d != e, dicts of numbers -/
theorem hits_int {A : Around} {s : Shared} {ls : List (L2.Key × V)} {vb : List (L2.Key × Value)} (rb : KV ls vb) (hl : ∀ k v, valV ls k = some v → ∃ i, v = V.int i) {ks : List (L2.Key × V)} {va : List (L2.Key × Value)} (ra : KV ks va) :
    (∀ p ∈ ks, ∃ i, p.2 = V.int i) → PySem.W.KeqHits A s vb va (ks.all fun p => decide (valV ls p.1 = some p.2)) := by
  unfold KV at ra
  induction ra with
  | nil => intro _; exact .nil
  | @cons p q ps qs h t k =>
    intro hp
    obtain ⟨h1, h2⟩ := h
    obtain ⟨key, v⟩ := q
    obtain ⟨pk, pv⟩ := p
    have h1' : pk = key := h1
    subst h1'
    obtain ⟨i, ei⟩ := hp _ List.mem_cons_self
    have ei : pv = .int i := ei
    subst ei
    obtain ⟨t1, rfl⟩ : ∃ t, v = .int i t := h2
    have rr : RelO (valV ls pk) (valueAt vb pk) := rb.val pk
    have k' := k fun p hm => hp p (List.mem_cons_of_mem _ hm)
    rw [List.all_cons]
    show PySem.W.KeqHits A s vb ((pk, Value.int i t1) :: qs) (decide (valV ls pk = some (V.int i)) && _)
    cases e : valV ls pk with
    | none =>
      rw [e] at rr
      have d : decide ((none : Option V) = some (V.int i)) = false := decide_eq_false (by simp)
      rw [d, Bool.false_and]
      exact .miss (RelO.none_of rr)
    | some y =>
      obtain ⟨j, rfl⟩ := hl _ _ e
      rw [e] at rr
      obtain ⟨u, hu, ru⟩ := rr.some_of
      obtain ⟨t2, rfl⟩ : ∃ t, u = .int j t := ru
      have d : decide (some (V.int j) = some (V.int i)) = (i == j) := by
        by_cases c : i = j
        · subst c
          simp
        · rw [decide_eq_false fun z => c (V.int.inj (Option.some.inj z)).symm]
          exact (beq_eq_false_iff_ne.mpr c).symm
      rw [d]
      exact .hit hu (SeqAt.EqAt.int_int i t1 j t2) k'
theorem valV_in {ls : List (L2.Key × V)} {k : L2.Key} {v : V} (h : valV ls k = some v) : ∃ p ∈ ls, p.1 = k ∧ p.2 = v := by
  unfold valV at h
  obtain ⟨p, hp, e⟩ := Option.map_eq_some_iff.mp h
  have z := List.find?_some hp
  exact ⟨p, List.mem_of_find?_eq_some hp, of_decide_eq_true z, e⟩
def rNeDI : R2 := fun x y H Q => ∃ a b ks ls, x = .ref a ∧ y = .ref b ∧ H a = some (.dK ks) ∧ H b = some (.dK ls) ∧ (∀ p ∈ ks, ∃ i, p.2 = V.int i) ∧ (∀ p ∈ ls, ∃ i, p.2 = V.int i) ∧ ks.length = ls.length ∧ Q (.bl (!(ks.all fun p => decide (valV ls p.1 = some p.2)))) H
theorem op_neDI {X : Cx} (hu : X.A.units + 64 < cLine) : OpR X (compareOp .NotEq) rNeDI := by
  intro pins s σ H x y v u Q I rx ry h
  obtain ⟨a, b, ks, ls, rfl, rfl, ha, hb, hk, hl, hn, q⟩ := h
  cases (show v = Value.ref a from rx)
  cases (show u = Value.ref b from ry)
  obtain ⟨_, ya, va, ra, da⟩ := dk_of I.hok ha
  obtain ⟨_, yb, vb, rb, db⟩ := dk_of I.hok hb
  refine PySem.W.keq_ne (knd := mixKind X.prog X.w) ya yb da db (by omega) (fun _ => hits_int rb (fun k v e => by
    obtain ⟨p, hp, _, rfl⟩ := valV_in e
    exact hl p hp) ra hk) ?_
  have e : va.length = vb.length := by rw [← ra.length, ← rb.length]; exact hn
  rw [show (va.length == vb.length && (ks.all fun p => decide (valV ls p.1 = some p.2))) = (ks.all fun p => decide (valV ls p.1 = some p.2)) by rw [e]; simp]
  exact ⟨.bl _, H, I, rfl, q⟩
end DNE
namespace Mt
open PySem PySem.Spec PyProof.Rows L2
theorem pa_starK {X : Cx} {K : PySem.W.Frag} {e : Expr} {es : List Expr} {te : TE} {t : TA} {p : Pos} (h : X.K = K) (he : PE X e te) (hr : L2.PA X es t) (hs : starEach (.Starred e p :: es) X.env = (true, eval e X.env) :: starEach es X.env := by rfl) : L2.PA X (.Starred e p :: es) (StX.tStar K te t) := h ▸ StX.pa_star he hr hs
theorem valV_mem : ∀ {kvs : List (L2.Key × V)} {p : L2.Key × V}, (kvs.map (·.1)).Nodup → p ∈ kvs → valV kvs p.1 = some p.2
  | [], _, _, h => absurd h List.not_mem_nil
  | q :: r, p, nd, h => by
    rw [List.map_cons, List.nodup_cons] at nd
    rcases List.mem_cons.mp h with rfl | h
    · exact valV_pos rfl
    · have ne : ¬ q.1 = p.1 := fun e => nd.1 (by rw [e]; exact List.mem_map.mpr ⟨p, h, rfl⟩)
      rw [show valV (q :: r) p.1 = valV r p.1 from valV_neg ne]
      exact valV_mem nd.2 h
theorem KD.of_mem {n : Nat} {kvs : List (L2.Key × V)} {ks : List Nat} {R : Nat → V → Prop} (h : KD n kvs ks R) {p : L2.Key × V} (hp : p ∈ kvs) : ∃ s ∈ ks, p.1 = kS s ∧ R s p.2 := by
  have h1 : p.1 ∈ ks.map kS := by
    rw [← h.keys]
    exact List.mem_map.mpr ⟨p, hp, rfl⟩
  obtain ⟨s, hs, e⟩ := List.mem_map.mp h1
  obtain ⟨v, e2, r⟩ := h.val s hs
  have nd : (kvs.map (·.1)).Nodup := by
    rw [h.keys]
    exact List.pairwise_map.mpr (h.nd.imp fun ne z => ne (kS_inj z))
  have e3 := valV_mem nd hp
  rw [← e, e2] at e3
  exact ⟨s, hs, e.symm, Option.some.inj e3 ▸ r⟩
theorem HgtD.ints {n : Nat} {kvs : List (L2.Key × V)} {ks : List Nat} {h : Nat → Int} (k : HgtD n kvs ks h) : ∀ p ∈ kvs, ∃ i, p.2 = V.int i := fun p hp => by
  obtain ⟨s, _, _, e⟩ := KD.of_mem k hp
  exact ⟨_, e⟩
theorem HgtD.same {n : Nat} {kvs kvs' : List (L2.Key × V)} {ks : List Nat} {h h' : Nat → Int} (k : HgtD n kvs ks h) (k' : HgtD n kvs' ks h') : (kvs'.all fun p => decide (valV kvs p.1 = some p.2)) = true ↔ ∀ s ∈ ks, h' s = h s := by
  rw [List.all_eq_true]
  constructor
  · intro a s hs
    have h1 := k'.at_ hs
    obtain ⟨p, hp, e1, e2⟩ := DNE.valV_in h1
    have := of_decide_eq_true (a p hp)
    rw [e1, e2, k.at_ hs] at this
    have := V.int.inj (Option.some.inj this)
    exact this.symm
  · intro a p hp
    obtain ⟨s, hs, e1, e2⟩ := KD.of_mem k' hp
    rw [e1, e2, k.at_ hs, a s hs]
    exact decide_eq_true rfl
/-- rows of branches as a graph -/
def rG (R : WR) : Gr := fun s => (R[s]?).getD []
theorem rG_at {R : WR} {s : Nat} (h : s < R.length) : R[s]? = some (rG R s) := by
  unfold rG
  rw [List.getElem?_eq_getElem h]
  rfl
def spHeights (K : PySem.W.Frag) : Sp := fun vs H Q _ => ∃ (vr : V) (Ls : Addr) (R : WR) (ks : List Nat), vs = [vr, .ref Ls] ∧ Dp K H vr (dWR R) ∧ SqL K H Ls (ks.map vN) ∧ ROk R ∧ ks.Nodup ∧ (∀ s ∈ ks, s < R.length) ∧ Clo (rG R) ks ∧ NoMore (rG R) ks 0 1 ∧
  ∀ H' d kvs i, Same H H' → H d = none → H' d = some (.dK kvs) → HgtD R.length kvs ks (hts (rG R) i) → i ≤ ks.length + 1 → Hgt (rG R) ks (hts (rG R) i) → Q (.ref d) H'
theorem take_addK {ks : List Nat} (nd : ks.Nodup) {j s : Nat} (h : ks[j]? = some s) : addK (ks.take j) s = ks.take (j + 1) := by
  have e : ks.take (j + 1) = ks.take j ++ [s] := take_snoc h
  have no : s ∉ ks.take j := fun m => by
    have nd2 : (ks.take (j + 1)).Nodup := nd.sublist (List.take_sublist _ _)
    rw [e] at nd2
    exact (List.nodup_append.mp nd2).2.2 s m s List.mem_cons_self rfl
  rw [e]
  exact if_neg no
section
variable {P : Program} {w : World} {K : PySem.W.Frag} {mg : Str → Option Value} {base : Heap}
theorem ok_heights_of (T : Txt K mg) {f : Addr} {fd : FuncData} (F : FnP K "heights_of" s_heights_of f fd) : FnOk P w K mg base CX0 1 f fd ["rows", "states"] (spHeights K) := by
  refine F.ok sc_heights_of (fun vs H Q E h => ?_) (fun cdv A outer s H vs Q E hr h => ?_)
  · obtain ⟨vr, Ls, R, ks, rfl, _⟩ := h
    rfl
  · obtain ⟨vr, Ls, R, ks, rfl, hR, hLs, okR, nd, lt, clo, nm, q⟩ := h
    refine ⟨_, PSs.nox (pss_cons (ps_set (i := 2) sc_heights_of.nd rfl (Or.inr rfl) (DCK.pe_dcK (own := [("state", 3)]) (g := (gName 3)) rfl sc_heights_of.nd (pi_list (pv 1)) (blkOk_by (N := N_heights_of) (sc := defScope s_heights_of) (by decide +kernel)) (Nat.lt_of_le_of_lt (Nat.le_add_right _ _) hr.units) (fun _ => (pg_name (i := 3) sc_heights_of.nd rfl (Or.inl rfl))) (fun _ => (pv 3)) (fun _ => pe_int)))
      (pss_cons (ps_set (i := 4) sc_heights_of.nd rfl (Or.inl rfl) pe_bl)
      (pss_cons (ps_while PassesOwn.never (pt_val (pv 4)) (pss_cons (ps_set (i := 5) sc_heights_of.nd rfl (Or.inl rfl) pe_dnewK)
      (pss_cons (ps_for PassesOwn.never rfl (pi_list (pv 1)) (pg_name (i := 3) sc_heights_of.nd rfl (Or.inl rfl)) (pss_one (ps_asg (pe_callB (maxK (K := K) rfl rfl) (by rfl) T.b_max (by decide +kernel) (pa_cons (pe_lst (pa_cons (pe_dget (hu_of hr) (pv 2) (pv 3) (fun _ _ => rfl)) (pa_starK (K := K) rfl (pe_lc (own := [("worth", 6), ("target", 7)]) (g := (gTup K 2 (gCons (gName 6) (gCons (gName 7) gNil)))) (tt := tYes) rfl sc_heights_of.nd (pi_list (pe_ix ix_list (pv 0) (pv 3) (fun _ _ => rfl))) (blkOk_by (N := N_heights_of) (sc := defScope s_heights_of) (by decide +kernel)) (fun _ _ _ _ _ => (pg_tup rfl (pgs_cons (pg_name (i := 6) sc_heights_of.nd rfl (Or.inl rfl)) (pgs_cons (pg_name (i := 7) sc_heights_of.nd rfl (Or.inl rfl)) pgs_nil)))) (fun _ _ _ _ _ => pts_nil) (fun _ _ _ _ _ => (pe_op op_add (pv 6) (pe_dget (hu_of hr) (pv 2) (pv 7) (fun _ _ => rfl))))) pa_nil))) pa_nil)) (pg_sub (pv 5) (pv 3) (set_dict (hu_of hr))))))
      (pss_cons (ps_set (i := 4) sc_heights_of.nd rfl (Or.inl rfl) (pe_cmpR (DNE.op_neDI hr.units) (pv 5) (pv 2) (nomark _)))
      (pss_one (ps_set (i := 2) sc_heights_of.nd rfl (Or.inr rfl) (pv 5)))))))
      (pss_one (ps_ret (pv 2)))))), ?_⟩
    have few := okR.few
    have kf : ks.length ≤ R.length := nodup_lt _ nd lt
    obtain ⟨pR, xs, rfl, hpR, hA⟩ := dp_lst hR
    refine ⟨_, rfl, Ls, rfl, ⟨_, hLs⟩, fun d hd => dcK_it (walk_list (K := K) (a := Ls) (xs := ks.map vN)) (fun i H' => ∃ kvs : List (L2.Key × V), Same H H' ∧ H' d = some (.dK kvs) ∧ HgtD R.length kvs (ks.take i) (fun _ => 0)) ⟨[], same_new hd, upd_same, KD.nil⟩ (fun i H' _ ⟨_, s, _⟩ => same_l s hLs) ?_ ?_⟩
    · rintro i x H2 H2' hi' ⟨kvs, s2, hd2, kd⟩ ⟨e2, hi⟩
      subst e2
      rw [List.getElem?_map] at hi
      obtain ⟨b, hb, rfl⟩ := Option.map_eq_some_iff.mp hi
      have few2 := kd.few
      have kl := kd.len
      refine ⟨rfl, _, rfl, _, DPut.k (k := kS b) hd2 (line6 (by omega)), _, same_mut s2 hd, upd_same, ?_⟩
      rw [← take_addK nd hb]
      exact kd.put (lt b (List.mem_of_getElem? hb)) rfl
    · rintro H2 ⟨kvs, s2, hd2, kd⟩
      rw [List.length_map, List.take_length] at kd
      refine ⟨fun m σ H' => ∃ (d : Addr) (kvs : List (L2.Key × V)) (i : Nat) (b : Bool) (y3 y5 y6 y7 : Option V), m = ks.length + 2 - i ∧ σ = [some (.ref pR), some (.ref Ls), some (.ref d), y3, some (.bl b), y5, y6, y7] ∧ Same H H' ∧ H d = none ∧ H' d = some (.dK kvs) ∧ HgtD R.length kvs ks (hts (rG R) i) ∧ i ≤ ks.length + 1 ∧ (b = true → i ≤ ks.length) ∧ (b = false → Hgt (rG R) ks (hts (rG R) i)), ⟨_, d, kvs, 0, true, _, _, _, _, rfl, rfl, s2, hd, hd2, kd, Nat.zero_le _, fun _ => Nat.zero_le _, fun h => (nomatch h)⟩, ?_⟩
      rintro m σ H3 ⟨d, kvs, i, b, y3, y5, y6, y7, rfl, rfl, s3, hd, hd3, kd, il, ib, ih⟩
      refine ⟨_, rfl, b, rfl, ?_⟩
      refine ite2 (fun hb => ?_) (fun hb => ?_)
      · have ib := ib hb
        refine ⟨fun σ' H' => ∃ (d : Addr) (kvs : List (L2.Key × V)) (b : Bool) (y3 y5 y6 y7 : Option V), σ' = [some (.ref pR), some (.ref Ls), some (.ref d), y3, some (.bl b), y5, y6, y7] ∧ Same H H' ∧ H d = none ∧ H' d = some (.dK kvs) ∧ HgtD R.length kvs ks (hts (rG R) (i + 1)) ∧ (b = true → i + 1 ≤ ks.length) ∧ (b = false → Hgt (rG R) ks (hts (rG R) (i + 1))), fun σ' H' ⟨d, kvs, b, y3, y5, y6, y7, e, a1, a2, a3, a4, a5, a6⟩ => ⟨ks.length + 2 - (i + 1), by omega, d, kvs, i + 1, b, y3, y5, y6, y7, rfl, e, a1, a2, a3, a4, by omega, a5, a6⟩, ?_⟩
        refine fun dN hdN => ?_
        have dNd : dN ≠ d := (ne_of_none hd3 hdN).symm
        have hdNH : H dN = none := s3.free hdN
        have s4 := same_new (o := .dK []) hdN
        have hN4 := upd_same (H := H3) (a := dN) (o := .dK [])
        generalize upd H3 dN (.dK []) = H4 at s4 hN4
        have hd4 := s4 _ _ hd3
        have s04 := s3.trans s4
        refine ⟨_, rfl, Ls, rfl, ⟨_, same_l s04 hLs⟩, for_list (K := K) (a := Ls) (xs := ks.map vN) (fun j σ H' => ∃ (y3 y6 y7 : Option V) (kvs' : List (L2.Key × V)), σ = [some (.ref pR), some (.ref Ls), some (.ref d), y3, some (.bl b), some (.ref dN), y6, y7] ∧ Same H H' ∧ H' d = some (.dK kvs) ∧ H' dN = some (.dK kvs') ∧ HgtD R.length kvs' (ks.take j) (hts (rG R) (i + 1))) ⟨_, _, _, [], rfl, s04, hd4, hN4, KD.nil⟩ (fun j σ H' _ ⟨_, _, _, _, _, s, _⟩ => same_l s hLs) ?_ ?_⟩
        · rintro j x σ H5 hj ⟨y3, y6, y7, kvs', rfl, s5, hd5, hN5, kd5⟩
          rw [List.getElem?_map] at hj
          obtain ⟨s, hs, rfl⟩ := Option.map_eq_some_iff.mp hj
          have sm := List.mem_of_getElem? hs
          have sn := lt s sm
          have hrow := rG_at sn
          obtain ⟨ro0, ro1, ro2⟩ := okR.row _ (List.mem_of_getElem? hrow)
          obtain ⟨xr, hxr, dr⟩ := dpA_get hA hrow
          obtain ⟨pr, rs, rfl, hpr, hrs⟩ := dp_lst dr
          have rl := dpA_len hrs
          rw [List.length_map] at rl
          have g1 := kd.at_ sm
          have few5 := kd5.few
          have kl5 := kd5.len
          refine ⟨_, rfl, _, rfl, d, _, rfl, by rw [← g1]; exact DGet.k (k := kS s) hd5, ?_⟩
          refine ⟨_, rfl, _, rfl, pR, _, _, _, rfl, rfl, same_l s5 hpR, atI_nat hxr, pr, rfl, ⟨_, same_l s5 hpr⟩, fun M hM => lc_list (K := K) (a := pr) (xs := rs) (fun k H' => Same H5 H' ∧ H' M = some (.lst (((rG R s).take k).map fun e => V.int (e.1 + hts (rG R) i e.2)))) ⟨same_new hM, upd_same⟩ (fun k H' _ e => same_l (s5.trans e.1) hpr) ?_ ?_⟩
          · rintro k y H6 hk ⟨s6, h7⟩
            obtain ⟨e, he, hy⟩ := dpA_mem hrs hk
            obtain ⟨pe, rfl, hpe⟩ := e_at hy
            have ek := clo.on s sm e (List.mem_of_getElem? he)
            have g2 := kd.at_ ek
            have kl := (List.getElem?_eq_some_iff.mp he).1
            refine ⟨_, _, rfl, same_t (s5.trans s6) hpe, rfl, _, _, rfl, _, _, rfl, rfl, rfl, ?_⟩
            refine ⟨_, rfl, _, rfl, _, rfl, d, _, rfl, by rw [← g2]; exact DGet.k (k := kS e.2) (s6 _ _ hd5), _, _, rfl, rfl, _, h7, ?_, same_mut s6 hM, ?_⟩
            · rw [List.length_map, List.length_take]
              exact line6 (by omega)
            · rw [upd_same, List.take_add_one, he, List.map_append]
              rfl
          · rintro H6 ⟨s6, h7⟩
            rw [rl, List.take_length] at h7
            refine ⟨M, _, rfl, .inr (SqL.of h7), ?_⟩
            have es : V.int (hts (rG R) i s) :: ((rG R s).map (fun e => V.int (e.1 + hts (rG R) i e.2)) ++ []) = (hts (rG R) i s :: (rG R s).map fun e => e.1 + hts (rG R) i e.2).map V.int := by
              rw [List.append_nil, List.map_cons, List.map_map]
              rfl
            refine ⟨?_, fun p hp => ?_⟩
            · rw [es, List.length_map, List.length_cons, List.length_map]
              exact line5 (by omega)
            · have s7 := same_new (o := .lst (V.int (hts (rG R) i s) :: ((rG R s).map (fun e => V.int (e.1 + hts (rG R) i e.2)) ++ []))) hp
              have hp7 := upd_same (H := H6) (a := p) (o := .lst (V.int (hts (rG R) i s) :: ((rG R s).map (fun e => V.int (e.1 + hts (rG R) i e.2)) ++ [])))
              generalize upd H6 p (.lst (V.int (hts (rG R) i s) :: ((rG R s).map (fun e => V.int (e.1 + hts (rG R) i e.2)) ++ []))) = H7 at s7 hp7
              rw [es] at hp7
              refine ⟨p, _, rfl, SqL.of hp7, Nat.succ_pos _, fun m hm hx => ?_⟩
              obtain ⟨u1, u2⟩ := upH_ge (hts (rG R) i) (rG R s) (hts (rG R) i s)
              have u3 := upH_at (hts (rG R) i) (rG R s) (hts (rG R) i s)
              have em : m = hts (rG R) (i + 1) s := by
                show m = upH (hts (rG R) i) (hts (rG R) i s) (rG R s)
                refine Int.le_antisymm ?_ (hx _ ?_)
                · rcases List.mem_cons.mp hm with rfl | hm
                  · exact u1
                  · obtain ⟨e, he, rfl⟩ := List.mem_map.mp hm
                    exact u2 e he
                · rcases u3 with u3 | ⟨e, he, u3⟩
                  · rw [u3]
                    exact List.mem_cons_self
                  · rw [u3]
                    exact List.mem_cons_of_mem _ (List.mem_map.mpr ⟨e, he, rfl⟩)
              have s67 := s6.trans s7
              have hN7 := s67 _ _ hN5
              refine ⟨_, rfl, _, rfl, dN, _, rfl, DPut.k (k := kS s) hN7 (line6 (by omega)), ?_⟩
              refine ⟨_, _, _, _, rfl, same_mut (s5.trans s67) hdNH, by rw [upd_ne dNd.symm]; exact s67 _ _ hd5, upd_same, ?_⟩
              rw [← take_addK nd hs]
              exact kd5.put sn (by rw [em])
        · rintro σ H5 ⟨y3, y6, y7, kvs', rfl, s5, hd5, hN5, kd5⟩
          rw [List.length_map, List.take_length] at kd5
          refine ⟨_, rfl, _, rfl, dN, d, kvs', kvs, rfl, rfl, hN5, hd5, kd5.ints, kd.ints, by rw [kd5.len, kd.len], ?_⟩
          refine ⟨_, rfl, dN, kvs', _, _, _, _, _, rfl, s5, hdNH, hN5, kd5, fun hb' => ?_, fun hb' => ?_⟩
          · refine Classical.byContradiction fun no => ?_
            have : ∀ s ∈ ks, hts (rG R) (i + 1) s = hts (rG R) i s := fun s hs => hts_stand clo nm hs (by omega)
            have := (kd.same kd5).mpr this
            rw [this] at hb'
            exact nomatch (show false = true from hb')
          · have hb2 : (kvs'.all fun p => decide (valV kvs p.1 = some p.2)) = true := by
              cases c : (kvs'.all fun p => decide (valV kvs p.1 = some p.2)) with
              | true => rfl
              | false =>
                rw [c] at hb'
                exact (nomatch (show true = false from hb'))
            have st := (kd.same kd5).mp hb2
            intro s hs e he
            rw [st e.2 (clo.on s hs e he)]
            exact hts_edge (rG R) i s he
      · exact ⟨_, rfl, q _ _ _ i s3 hd hd3 kd il (ih (by simpa using hb))⟩
end
end Mt
namespace Mt
open PySem PySem.Spec PyProof.Rows L2
/-! ### walks of branches -/
def BOk (C : Chn) : Nat → List Br → Prop
  | _, [] => True
  | s, b :: r => b ∈ rowOf C s ∧ BOk C b.2.2 r
theorem stA_cons (s : Nat) (b : Br) (r : List Br) : stA s (b :: r) = stA b.2.2 r := by
  unfold stA
  cases r with
  | nil => rfl
  | cons c r =>
    rw [List.getLast?_cons_cons]
    cases h : (c :: r).getLast? with
    | none => simp at h
    | some x => rfl
theorem BOk_app {C : Chn} : ∀ (p q : List Br) (s : Nat), BOk C s (p ++ q) ↔ BOk C s p ∧ BOk C (stA s p) q
  | [], q, s => ⟨fun h => ⟨trivial, h⟩, fun h => h.2⟩
  | b :: r, q, s => by
    have ih := BOk_app (C := C) r q b.2.2
    rw [stA_cons]
    constructor
    · rintro ⟨h1, h2⟩
      exact ⟨⟨h1, (ih.mp h2).1⟩, (ih.mp h2).2⟩
    · rintro ⟨⟨h1, h2⟩, h3⟩
      exact ⟨h1, ih.mpr ⟨h2, h3⟩⟩
theorem stA_app : ∀ (p q : List Br) (s : Nat), stA s (p ++ q) = stA (stA s p) q
  | [], _, _ => rfl
  | b :: r, q, s => by rw [List.cons_append, stA_cons, stA_app r q, stA_cons]
theorem BOk.lt {base : Int} {C : Chn} (ok : ChnOk base C) : ∀ {l : List Br} {s : Nat}, s < C.length → BOk C s l → stA s l < C.length
  | [], _, hs, _ => hs
  | b :: r, s, hs, h => by
    rw [stA_cons]
    exact BOk.lt ok ((ok.row _ (List.mem_of_getElem? (rowOf_at hs))).to b h.1).1 h.2
theorem find_own : ∀ {r : List Br} {b : Br}, (r.map (·.1)).Pairwise NP → b ∈ r → r.find? (fun x => decide (x.1 = b.1)) = some b
  | [], _, _, h => absurd h List.not_mem_nil
  | x :: r, b, p, h => by
    rw [List.map_cons, List.pairwise_cons] at p
    rcases List.mem_cons.mp h with rfl | h
    · exact List.find?_cons_of_pos (decide_eq_true rfl)
    · have np := p.1 b.1 (List.mem_map.mpr ⟨b, h, rfl⟩)
      have ne : ¬ decide (x.1 = b.1) = true := fun e => by
        have e := of_decide_eq_true e
        exact np.1 (e ▸ List.prefix_refl _)
      have e0 : (x :: r).find? (fun x => decide (x.1 = b.1)) = r.find? (fun x => decide (x.1 = b.1)) := List.find?_cons_of_neg (p := fun x : Br => decide (x.1 = b.1)) ne
      rw [e0]
      exact find_own p.2 h
theorem nxt_of {r : List Br} {b : Br} (p : (r.map (·.1)).Pairwise NP) (h : b ∈ r) : nxtB r b.1 = some b := by
  unfold nxtB
  rw [← List.head?_eq_getElem?, List.head?_filter]
  exact find_own p h
theorem along_of {base : Int} {C : Chn} (ok : ChnOk base C) : ∀ {l : List Br} {s : Nat}, s < C.length → BOk C s l → alongB C s (l.map (·.1)) = some l
  | [], _, _, _ => rfl
  | b :: r, s, hs, h => by
    have row := ok.row _ (List.mem_of_getElem? (rowOf_at hs))
    rw [List.map_cons, along_some (nxt_of row.cm.pf h.1), along_of ok (row.to b h.1).1 h.2]
    rfl
/-- as walks with worths -/
theorem BOk.w {C : Chn} {f : Br → Int × Nat} (hf : ∀ b, (f b).2 = b.2.2) {G : Gr} (hG : ∀ s, G s = (rowOf C s).map f) : ∀ {l : List Br} {s : Nat}, BOk C s l → WOk G s (l.map f) ∧ wEnd s (l.map f) = stA s l
  | [], _, _ => ⟨trivial, rfl⟩
  | b :: r, s, h => by
    obtain ⟨h1, h2⟩ := BOk.w hf hG h.2
    rw [stA_cons]
    refine ⟨⟨by rw [hG]; exact List.mem_map.mpr ⟨b, h.1, rfl⟩, by rw [hf]; exact h1⟩, ?_⟩
    show wEnd (f b).2 (r.map f) = _
    rw [hf]
    exact h2
theorem wSum_le {G : Gr} {ks : List Nat} (c : Clo G ks) {B : Nat} (hB : ∀ s ∈ ks, ∀ e ∈ G s, e.1.natAbs ≤ B) : ∀ {p : List (Int × Nat)} {u : Nat}, u ∈ ks → WOk G u p → (wSum p).natAbs ≤ B * p.length
  | [], u, _, _ => Nat.zero_le _
  | e :: r, u, hu, ok => by
    have h1 := hB u hu e ok.1
    have h2 := wSum_le c hB (p := r) (u := e.2) (c.on u hu e ok.1) ok.2
    have h3 : wSum (e :: r) = e.1 + wSum r := rfl
    have h4 := Int.natAbs_add_le e.1 (wSum r)
    rw [h3, List.length_cons, Nat.mul_succ]
    omega
/-! ### the levels so far -/
structure Lvs (H0 H : Hp) (G : Gr) (n : Nat) (ks : List Nat) (as : List Addr) (kv : Nat → List (L2.Key × V)) (qs : Nat → List Nat) (F : Nat → Nat → Int) : Prop where
  new : ∀ a ∈ as, H0 a = none
  at_ : ∀ (k : Nat) a, as[k]? = some a → H a = some (.dK (kv k))
  hg : ∀ k, k < as.length → HgtD n (kv k) (qs k) (F k)
  lv : ∀ k, k < as.length → LvS G 0 k (qs k) (F k)
  sub : ∀ k, k < as.length → ∀ x ∈ qs k, x ∈ ks
section
variable {H0 H H' : Hp} {G : Gr} {n : Nat} {ks : List Nat} {as : List Addr} {kv : Nat → List (L2.Key × V)} {qs : Nat → List Nat} {F : Nat → Nat → Int}
theorem Lvs.same (h : Lvs H0 H G n ks as kv qs F) (s : Same H H') : Lvs H0 H' G n ks as kv qs F := ⟨h.new, fun k a e => s _ _ (h.at_ k a e), h.hg, h.lv, h.sub⟩
theorem Lvs.lst (h : Lvs H0 H G n ks as kv qs F) {L : Addr} {zs : List V} (hL : H L = some (.lst zs)) (o : HO) : Lvs H0 (upd H L o) G n ks as kv qs F := ⟨h.new, fun k a e => by
  have ha := h.at_ k a e
  rw [upd_ne fun z => by
    rw [z, hL] at ha
    cases ha]
  exact ha, h.hg, h.lv, h.sub⟩
theorem Lvs.add (h : Lvs H0 H G n ks as kv qs F) {a : Addr} {kvs : List (L2.Key × V)} {q : List Nat} {f : Nat → Int} (h0 : H0 a = none) (ha : H a = some (.dK kvs)) (hg : HgtD n kvs q f) (lv : LvS G 0 as.length q f) (sub : ∀ x ∈ q, x ∈ ks) :
    Lvs H0 H G n ks (as ++ [a]) (fun k => if k = as.length then kvs else kv k) (fun k => if k = as.length then q else qs k) (fun k => if k = as.length then f else F k) := by
  have lt : ∀ {k}, k < (as ++ [a]).length → ¬ k = as.length → k < as.length := fun {k} hk hn => by
    rw [List.length_append, List.length_singleton] at hk
    omega
  refine ⟨fun x hx => ?_, fun k x e => ?_, fun k hk => ?_, fun k hk => ?_, fun k hk => ?_⟩
  · rcases List.mem_append.mp hx with m | m
    · exact h.new x m
    · rw [List.mem_singleton.mp m]
      exact h0
  · by_cases c : k = as.length
    · subst c
      rw [List.getElem?_append_right (Nat.le_refl _), Nat.sub_self] at e
      obtain rfl : a = x := Option.some.inj e
      rw [if_pos rfl]
      exact ha
    · have kl := lt (List.getElem?_eq_some_iff.mp e).1 c
      rw [List.getElem?_append_left kl] at e
      rw [if_neg c]
      exact h.at_ k x e
  · by_cases c : k = as.length
    · rw [if_pos c, if_pos c, if_pos c]
      exact hg
    · rw [if_neg c, if_neg c, if_neg c]
      exact h.hg k (lt hk c)
  · by_cases c : k = as.length
    · rw [if_pos c, if_pos c, c]
      exact lv
    · rw [if_neg c, if_neg c]
      exact h.lv k (lt hk c)
  · by_cases c : k = as.length
    · rw [if_pos c]
      exact sub
    · rw [if_neg c]
      exact h.sub k (lt hk c)
end
theorem LvS.lvl {G : Gr} {k v : Nat} {q : List Nat} {f : Nat → Int} (h : LvS G 0 k q f) (hv : v ∈ q) : Lvl G k v (f v) := by
  refine ⟨let ⟨r, a, b, c, d⟩ := h.at_ v hv; ⟨r, a, b, c, d⟩, fun p ok hl e => ?_⟩
  have := (h.top p ok hl).2
  rw [e] at this
  exact this
/-- the numbers of branches by which a state can be come to -/
def knownK (qs : Nat → List Nat) (n v : Nat) : List Nat := (List.range n).filter fun k => decide (v ∈ qs k)
theorem mean_of {H0 H : Hp} {G : Gr} {n m : Nat} {ks : List Nat} {as : List Addr} {kv : Nat → List (L2.Key × V)} {qs : Nat → List Nat} {F : Nat → Nat → Int} (h : Lvs H0 H G m ks as kv qs F) (hl : n + 1 = as.length) {v : Nat} (hv : v ∈ qs n) :
    Lvl G n v (F n v) ∧ MeanOf G n v (F n v) ((knownK qs n v).map fun k => fr (F n v - F k v) ((n : Int) - (k : Int))) := by
  refine ⟨(h.lv n (by omega)).lvl hv, fun f hf => ?_, fun p ok pl e => ?_⟩
  · obtain ⟨k, hk, rfl⟩ := List.mem_map.mp hf
    obtain ⟨h1, h2⟩ := List.mem_filter.mp hk
    have kn := List.mem_range.mp h1
    exact ⟨k, F k v, kn, (h.lv k (by omega)).lvl (of_decide_eq_true h2), rfl⟩
  · have hq := ((h.lv p.length (by omega)).top p ok rfl).1
    rw [e] at hq
    exact ⟨F p.length v, (h.lv p.length (by omega)).lvl hq, List.mem_map.mpr ⟨p.length, List.mem_filter.mpr ⟨List.mem_range.mpr pl, decide_eq_true hq⟩, rfl⟩⟩
end Mt
namespace Mt
open PySem PySem.Spec PyProof.Rows L2
def spMean (K : PySem.W.Frag) : Sp := fun vs H Q _ => ∃ (vr : V) (R : WR) (ks : List Nat), vs = [vr, .int (ks.length : Int)] ∧ Dp K H vr (dWR R) ∧ ROk R ∧ 0 ∈ ks ∧ ks.Nodup ∧ (∀ s ∈ ks, s < R.length) ∧ Clo (rG R) ks ∧ (∀ s ∈ ks, ∀ e ∈ rG R s, e.1.natAbs ≤ 600) ∧
  ∀ H' (p : Addr) (ms : List F2) (top : F2), Same H H' → SqT K H' p (tupV top) → (∀ m ∈ ms, ∃ v, LeastOf (rG R) ks.length v m) → (∀ q, WOk (rG R) 0 q → q.length = ks.length → ∃ m ∈ ms, LeastOf (rG R) ks.length (wEnd 0 q) m) → top ∈ ms → (∀ g ∈ ms, lessB top g = false) → Low top → Sz 400 top → Q (.ref p) H'
theorem walk_any {R : WR} (ok : ROk R) {ks : List Nat} (clo : Clo (rG R) ks) (lt : ∀ s ∈ ks, s < R.length) : ∀ (n : Nat) {u : Nat}, u ∈ ks → ∃ q, WOk (rG R) u q ∧ q.length = n
  | 0, u, _ => ⟨[], trivial, rfl⟩
  | n + 1, u, hu => by
    have hrow := rG_at (lt u hu)
    obtain ⟨r0, _, _⟩ := ok.row _ (List.mem_of_getElem? hrow)
    obtain ⟨e, he⟩ : ∃ e, e ∈ rG R u := ⟨_, List.getElem_mem r0⟩
    obtain ⟨q, h1, h2⟩ := walk_any ok clo lt n (clo.on u hu e he)
    exact ⟨e :: q, ⟨he, h1⟩, by rw [List.length_cons, h2]⟩
theorem known_pos {H0 H : Hp} {G : Gr} {m : Nat} {ks : List Nat} {as : List Addr} {kv : Nat → List (L2.Key × V)} {qs : Nat → List Nat} {F : Nat → Nat → Int} (h : Lvs H0 H G m ks as kv qs F) (hl : ks.length + 1 = as.length) (clo : Clo G ks) (z0 : 0 ∈ ks) {v : Nat} (hv : v ∈ qs ks.length) : 0 < (knownK qs ks.length v).length := by
  obtain ⟨r, r1, r2, r3, _⟩ := (h.lv ks.length (by omega)).at_ v hv
  obtain ⟨q, x, y, q1, q2, x1, hl', _⟩ := goes_round clo z0 r1 (by omega)
  have := ((h.lv q.length (by omega)).top q q1 rfl).1
  rw [q2, r3] at this
  exact List.length_pos_of_mem (List.mem_filter.mpr ⟨List.mem_range.mpr (by omega), decide_eq_true this⟩)
theorem lv_le {G : Gr} {ks : List Nat} (clo : Clo G ks) {B : Nat} (hB : ∀ s ∈ ks, ∀ e ∈ G s, e.1.natAbs ≤ B) (z0 : 0 ∈ ks) {k : Nat} {q : List Nat} {f : Nat → Int} (lv : LvS G 0 k q f) {v : Nat} (hv : v ∈ q) : (f v).natAbs ≤ B * k := by
  obtain ⟨r, r1, r2, r3, r4⟩ := lv.at_ v hv
  have := wSum_le clo hB z0 r1
  rw [r2, r4] at this
  exact this
section
variable {P : Program} {w : World} {K : PySem.W.Frag} {mg : Str → Option Value} {base : Heap}
set_option maxHeartbeats 1000000 in
theorem ok_greatest_mean (T : Txt K mg) (D_make_fraction : Kept P w K mg base 1 "make_fraction" ["n", "d"] spFrac) (D_least_of : Kept P w K mg base 2 "least_of" ["fractions"] (spExt K fun g f => lessB g f)) (D_greatest_of : Kept P w K mg base 2 "greatest_of" ["fractions"] (spExt K fun g f => lessB f g)) {f : Addr} {fd : FuncData} (F : FnP K "greatest_mean" s_greatest_mean f fd) : FnOk P w K mg base CX0 3 f fd ["rows", "many"] (spMean K) := by
  refine F.ok sc_greatest_mean (fun vs H Q E h => ?_) (fun cdv A outer s H vs Q E hr h => ?_)
  · obtain ⟨vr, R, ks, rfl, _⟩ := h
    rfl
  · obtain ⟨vr, R, ks, rfl, hR, okR, z0, nd, lt, clo, wB, q⟩ := h
    refine ⟨_, PSs.nox (pss_cons (ps_set (i := 2) sc_greatest_mean.nd rfl (Or.inr rfl) (pe_lst (pa_cons (pe_disp (pps_cons pe_int pe_int pps_nil) (by rfl) (by rfl) (fun z => by cases z) (by decide)) pa_nil)))
      (pss_cons (ps_for PassesOwn.never rfl (pi_range1 (by rfl) T.b_range (pa_cons (pv 1) pa_nil)) (pg_name (i := 3) sc_greatest_mean.nd rfl (Or.inl rfl)) (pss_cons (ps_set (i := 4) sc_greatest_mean.nd rfl (Or.inl rfl) pe_dnewK)
      (pss_cons (ps_lock (ps_for PassesOwn.never rfl (pi_items (pe_ix ix_list (pv 2) (pe_un un_neg pe_int) (fun _ _ => rfl))) (pg_tup rfl (pgs_cons (pg_name (i := 5) sc_greatest_mean.nd rfl (Or.inr rfl)) (pgs_cons (pg_name (i := 6) sc_greatest_mean.nd rfl (Or.inr rfl)) pgs_nil))) (pss_one (ps_for PassesOwn.never rfl (pi_list (pe_ix ix_list (pv 0) (pv 5) (fun _ _ => rfl))) (pg_tup rfl (pgs_cons (pg_name (i := 7) sc_greatest_mean.nd rfl (Or.inl rfl)) (pgs_cons (pg_name (i := 8) sc_greatest_mean.nd rfl (Or.inl rfl)) pgs_nil))) (pss_one (ps_asg (pe_callB (call_max2 rfl) (by rfl) T.b_max (by decide +kernel) (pa_cons (pe_dget2 (hu_of hr) (pv 4) (pv 8) (pe_op op_add (pv 6) (pv 7)) ⟨rfl, rfl, rfl, rfl⟩) (pa_cons (pe_op op_add (pv 6) (pv 7)) pa_nil))) (pg_sub (pv 4) (pv 8) (set_dict (hu_of hr)))))))))
      (pss_one (ps_expr (pe_bm PySem.F.plainAttrs_list PySem.F.slot_list_append PySem.F.type_list_append mt_append (pv 2) (pa_cons (pv 4) pa_nil)))))))
      (pss_cons (ps_set (i := 9) sc_greatest_mean.nd rfl (Or.inl rfl) (pe_lst pa_nil))
      (pss_cons (ps_lock (ps_for PassesOwn.never rfl (pi_items (pe_ix ix_list (pv 2) (pv 1) (fun _ _ => rfl))) (pg_tup rfl (pgs_cons (pg_name (i := 5) sc_greatest_mean.nd rfl (Or.inr rfl)) (pgs_cons (pg_name (i := 6) sc_greatest_mean.nd rfl (Or.inr rfl)) pgs_nil))) (pss_cons (ps_setLc (i := 10) (own := [("k", 11)]) (g := (gName 11)) rfl sc_greatest_mean.nd rfl rfl (sw_true rfl rfl rfl (by decide +kernel)) (pi_range1 (by rfl) T.b_range (pa_cons (pv 1) pa_nil)) (blkOk_by (N := N_greatest_mean) (sc := defScope s_greatest_mean) (by decide +kernel)) (fun _ _ _ _ _ => (pg_name (i := 11) sc_greatest_mean.nd rfl (Or.inl rfl))) (fun _ _ _ _ _ => (pts_one (pt_cmp (pc_din (hu_of hr) (pv 5) (pe_ix (ixL (K := K) rfl) (pv 2) (pv 11) (fun _ _ => rfl)))))) (fun _ _ _ _ _ => (pv 11)))
      (pss_one (ps_expr (pe_bm PySem.F.plainAttrs_list PySem.F.slot_list_append PySem.F.type_list_append mt_append (pv 9) (pa_cons (pe_d D_least_of (hr.mono (by decide)) (by rfl) (pa_cons (pe_lc (own := [("k", 11)]) (g := (gName 11)) (tt := tYes) rfl sc_greatest_mean.nd (pi_list (pv 10)) (blkOk_by (N := N_greatest_mean) (sc := defScope s_greatest_mean) (by decide +kernel)) (fun _ _ _ _ _ => (pg_name (i := 11) sc_greatest_mean.nd rfl (Or.inl rfl))) (fun _ _ _ _ _ => pts_nil) (fun _ _ _ _ _ => (pe_d D_make_fraction (hr.mono (by decide)) (by rfl) (pa_cons (pe_op op_sub (pv 6) (pe_dget (hu_of hr) (pe_ix (ixL (K := K) rfl) (pv 2) (pv 11) (fun _ _ => rfl)) (pv 5) (fun _ _ => rfl))) (pa_cons (pe_op op_sub (pv 1) (pv 11)) pa_nil))))) pa_nil)) pa_nil)))))))
      (pss_one (ps_ret (pe_d D_greatest_of (hr.mono (by decide)) (by rfl) (pa_cons (pv 9) pa_nil)))))))), ?_⟩
    have few := okR.few
    have kf : ks.length ≤ R.length := nodup_lt _ nd lt
    have kp : 0 < ks.length := List.length_pos_of_mem z0
    obtain ⟨pR, xs, rfl, hpR, hA⟩ := dp_lst hR
    refine fun d hd => ⟨upd_same, [(kS 0, .int 0)], rfl, by show 1 ≤ 15; decide, by show 1 ≤ sizeLine; decide, fun L hL => ?_⟩
    have em : mergeK ([] : List (L2.Key × V)) [(kS 0, .int 0)] = [(kS 0, .int 0)] := rfl
    rw [em] at hL ⊢
    have s1 : Same H (upd (upd H d (.dK [])) d (.dK [(kS 0, .int 0)])) := same_mut (same_new hd) hd
    have hd1 : (upd (upd H d (.dK [])) d (.dK [(kS 0, .int 0)])) d = some (.dK [(kS 0, .int 0)]) := upd_same
    generalize upd (upd H d (.dK [])) d (.dK [(kS 0, .int 0)]) = H1 at s1 hd1 hL
    have hLH : H L = none := s1.free hL
    have s2 := s1.trans (same_new (o := .lst [.ref d]) hL)
    have hL2 := upd_same (H := H1) (a := L) (o := .lst [.ref d])
    have hd2 := same_new (o := .lst [.ref d]) hL _ _ hd1
    generalize upd H1 L (.lst [.ref d]) = H2 at s2 hL2 hd2
    have kd0 : HgtD R.length [(kS 0, V.int 0)] [0] (fun _ => 0) := by
      refine ⟨rfl, List.nodup_cons.mpr ⟨List.not_mem_nil, List.nodup_nil⟩, fun s hs => ?_, fun s hs => ⟨.int 0, ?_, rfl⟩⟩
      · rw [List.mem_singleton.mp hs]
        exact lt 0 z0
      · rw [List.mem_singleton.mp hs]
        exact valV_pos rfl
    have lv0 : Lvs H H2 (rG R) R.length ks [d] (fun _ => [(kS 0, V.int 0)]) (fun _ => [0]) (fun _ _ => 0) := by
      refine ⟨fun a ha => by rw [List.mem_singleton.mp ha]; exact hd, fun k a e => ?_, fun k hk => kd0, fun k hk => ?_, fun k hk x hx => by rw [List.mem_singleton.mp hx]; exact z0⟩
      · have k0 : k = 0 := by
          have := (List.getElem?_eq_some_iff.mp e).1
          rw [List.length_singleton] at this
          omega
        subst k0
        obtain rfl : d = a := Option.some.inj e
        exact hd2
      · have k0 : k = 0 := by
          rw [List.length_singleton] at hk
          omega
        subst k0
        exact LvS.zero rfl
    refine ⟨_, rfl, _, rfl, by omega, by omega, for_range (lo := 0) (n := ks.length) (fun j σ H' => ∃ (y3 y4 y5 y6 y7 y8 : Option V) (as : List Addr) (kv : Nat → List (L2.Key × V)) (qs : Nat → List Nat) (F : Nat → Nat → Int), σ = [some (.ref pR), some (.int (ks.length : Int)), some (.ref L), y3, y4, y5, y6, y7, y8, none, none, none] ∧ Same H H' ∧ H' L = some (.lst (as.map V.ref)) ∧ as.length = j + 1 ∧ Lvs H H' (rG R) R.length ks as kv qs F) ⟨_, _, _, _, _, _, [d], _, _, _, rfl, s2, hL2, rfl, lv0⟩ ?_ ?_⟩
    · rintro j σ H3 hj ⟨y3, y4, y5, y6, y7, y8, as, kv, qs, F, rfl, s3, hL3, al, lvs⟩
      obtain ⟨a, hlast⟩ : ∃ a, as[j]? = some a := ⟨_, List.getElem?_eq_getElem (by omega)⟩
      have ha3 := lvs.at_ j a hlast
      have haH := lvs.new a (List.mem_of_getElem? hlast)
      have kdj := lvs.hg j (by omega)
      have lvj := lvs.lv j (by omega)
      have subj := lvs.sub j (by omega)
      refine fun dN hdN => ⟨a, .dK (kv j), same_new hdN _ _ ha3, True.intro, fun od => ?_⟩
      have dNa : dN ≠ a := (ne_of_none ha3 hdN).symm
      have LdN : L ≠ dN := ne_of_none hL3 hdN
      have La : L ≠ a := fun z => by
        rw [z, ha3] at hL3
        cases hL3
      have hdNH : H dN = none := s3.free hdN
      have uF : ∀ {H' : Hp}, Same (upd H3 a (.frz od (.dK (kv j)))) H' → Same H3 (upd H' a (.dK (kv j))) := fun s => unfrz ha3 s
      have sHL : Same H (upd H3 a (.frz od (.dK (kv j)))) := same_mut s3 haH
      have sL := same_upd2 (d := a) (u := .dK []) (f := .frz od (.dK (kv j))) hdN
      have hNL : upd (upd H3 dN (.dK [])) a (.frz od (.dK (kv j))) dN = some (.dK []) := by rw [upd_ne dNa, upd_same]
      have hdNL : upd H3 a (.frz od (.dK (kv j))) dN = none := by rw [upd_ne dNa]; exact hdN
      have haL := upd_same (H := H3) (a := a) (o := .frz od (.dK (kv j)))
      have hLL : upd H3 a (.frz od (.dK (kv j))) L = some (.lst (as.map V.ref)) := by rw [upd_ne La]; exact hL3
      have ha0 : upd (upd H3 dN (.dK [])) a (.frz od (.dK (kv j))) a = some (.frz od (.dK (kv j))) := upd_same
      generalize upd (upd H3 dN (.dK [])) a (.frz od (.dK (kv j))) = H4 at sL hNL ha0
      generalize upd H3 a (.frz od (.dK (kv j))) = HL at sL uF hdNL haL hLL sHL
      have kvl := kdj.len
      have lastV : (as.map V.ref).getLast? = some (.ref a) := by
        rw [List.getLast?_eq_getElem?, List.length_map, al, List.getElem?_map, show j + 1 - 1 = j by omega, hlast]
        rfl
      refine ⟨_, rfl, _, rfl, L, _, _, _, rfl, rfl, SqL.of (sL _ _ hLL), atI_m1 lastV, a, od, _, rfl, ha0, for_it walk_items (fun i2 σ H' => ∃ (y5 y6 y7 y8 : Option V) (kvs' : List (L2.Key × V)) (qs' : List Nat) (F' : Nat → Int), σ = [some (.ref pR), some (.int (ks.length : Int)), some (.ref L), some (.int (0 + (j : Int))), some (.ref dN), y5, y6, y7, y8, none, none, none] ∧ Same HL H' ∧ H' dN = some (.dK kvs') ∧ HgtD R.length kvs' qs' F' ∧ (∀ x ∈ qs', x ∈ ks) ∧ PtS (rG R) 0 j (F j) (fun x e => x ∈ (qs j).take i2 ∧ e ∈ rG R x) qs' F') ⟨_, _, _, _, [], [], (fun _ => 0), rfl, sL, hNL, KD.nil, fun _ h => absurd h List.not_mem_nil, PtS.nil.mono fun _ _ h => absurd h.1 List.not_mem_nil⟩ (fun i2 σ H' _ ⟨_, _, _, _, _, _, _, _, s, _⟩ => s _ _ haL) ?_ ?_⟩
      · rintro i2 x σ H5 H5' hi2 ⟨y5, y6, y7, y8, kvs', qs', F', rfl, s5, hN5, kd5, sub5, pt5⟩ ⟨T', u, v', rfl, hT, rfl, hu, hv⟩
        obtain ⟨⟨key, v0⟩, hkv, rfl⟩ := Option.map_eq_some_iff.mp hu
        have hv : (kv j)[i2]?.map Prod.snd = some v' := hv
        rw [hkv] at hv
        obtain rfl : v0 = v' := Option.some.inj hv
        obtain ⟨here, hhere, rfl⟩ := KD.at_ kdj hkv
        obtain ⟨here2, _, ek, ev⟩ := KD.of_mem kdj (List.mem_of_getElem? hkv)
        obtain rfl : here = here2 := kS_inj ek
        obtain rfl : v0 = .int (F j here) := ev
        have s6 := s5.trans (same_new (o := .tup [kV (kS here), .int (F j here)]) hT)
        have hT6 := upd_same (H := H5) (a := T') (o := .tup [kV (kS here), .int (F j here)])
        have hN6 := same_new (o := .tup [kV (kS here), .int (F j here)]) hT _ _ hN5
        generalize upd H5 T' (.tup [kV (kS here), .int (F j here)]) = H6 at s6 hT6 hN6
        have hm := List.mem_of_getElem? hhere
        have hks := subj here hm
        have hn := lt here hks
        have hrow := rG_at hn
        obtain ⟨ro0, ro1, ro2⟩ := okR.row _ (List.mem_of_getElem? hrow)
        obtain ⟨xr, hxr, dr⟩ := dpA_get hA hrow
        obtain ⟨pr, rs, rfl, hpr, hrs⟩ := dp_lst dr
        have rl := dpA_len hrs
        rw [List.length_map] at rl
        refine ⟨T', _, rfl, SqT.of hT6, rfl, _, _, rfl, _, _, rfl, rfl, ?_⟩
        refine ⟨_, rfl, _, rfl, pR, _, _, _, rfl, rfl, same_l (sHL.trans s6) hpR, atI_nat hxr, pr, rfl, ⟨_, same_l (sHL.trans s6) hpr⟩, for_list (K := K) (a := pr) (xs := rs) (fun k σ H' => ∃ (y7 y8 : Option V) (kvs' : List (L2.Key × V)) (qs'' : List Nat) (F' : Nat → Int), σ = [some (.ref pR), some (.int (ks.length : Int)), some (.ref L), some (.int (0 + (j : Int))), some (.ref dN), some (vN here), some (.int (F j here)), y7, y8, none, none, none] ∧ Same HL H' ∧ H' dN = some (.dK kvs') ∧ HgtD R.length kvs' qs'' F' ∧ (∀ x ∈ qs'', x ∈ ks) ∧ PtS (rG R) 0 j (F j) (fun x e => (x ∈ (qs j).take i2 ∧ e ∈ rG R x) ∨ (x = here ∧ e ∈ (rG R here).take k)) qs'' F') ⟨_, _, kvs', qs', F', rfl, s6, hN6, kd5, sub5, pt5.mono fun _ _ h => h.elim id fun h => absurd h.2 List.not_mem_nil⟩ (fun k σ H' _ ⟨_, _, _, _, _, _, s, _⟩ => same_l (sHL.trans s) hpr) ?_ ?_⟩
        · rintro k y σ H7 hk ⟨y7, y8, kvs', qs'', F', rfl, s7, hN7, kd7, sub7, pt7⟩
          obtain ⟨e, he, hy⟩ := dpA_mem hrs hk
          obtain ⟨pe, rfl, hpe⟩ := e_at hy
          have eG := List.mem_of_getElem? he
          have ek := clo.on here hks e eG
          have en := lt e.2 ek
          have few7 := kd7.few
          have kl7 := kd7.len
          have stepE : ∀ x f, ((x ∈ (qs j).take i2 ∧ f ∈ rG R x) ∨ (x = here ∧ f ∈ (rG R here).take (k + 1))) → ((x ∈ (qs j).take i2 ∧ f ∈ rG R x) ∨ (x = here ∧ f ∈ (rG R here).take k)) ∨ (x = here ∧ f = e) := fun x f h => by
            rw [take_snoc he] at h
            rcases h with h | ⟨h1, h2⟩
            · exact .inl (.inl h)
            · rcases List.mem_append.mp h2 with m | m
              · exact .inl (.inr ⟨h1, m⟩)
              · exact .inr ⟨h1, List.mem_singleton.mp m⟩
          refine ⟨pe, _, rfl, same_t (sHL.trans s7) hpe, rfl, _, _, rfl, _, _, rfl, rfl, ?_⟩
          have put : ∀ (o : Option V), valV kvs' (kS e.2) = o → DGet H7 dN (kV (kS e.2)) o := fun o h => by
            rw [← h]
            exact DGet.k (k := kS e.2) hN7
          by_cases c : e.2 ∈ qs''
          · have g := kd7.at_ c
            refine ⟨_, rfl, dN, rfl, .inl ⟨_, .inl hN7⟩, _, rfl, _, rfl, _, rfl, _, _, rfl, rfl, some (.int (F' e.2)), put _ g, _, rfl, _, rfl, _, _, rfl, rfl, _, _, rfl, ?_⟩
            refine ⟨_, rfl, _, rfl, dN, _, rfl, DPut.k (k := kS e.2) hN7 (line6 (by omega)), ?_⟩
            by_cases big : F j here + e.1 > F' e.2
            · rw [if_pos big]
              refine ⟨_, _, _, addK qs'' e.2, (fun t => if t = e.2 then F j here + e.1 else F' t), rfl, same_mut s7 hdNL, upd_same, kd7.set en ?_ (fun x u hx h => ?_), fun x hx => (mem_addK.mp hx).elim (sub7 x) (fun h => h ▸ ek), (pt7.put (e := e) lvj hm eG (fun _ => by omega)).mono stepE⟩
              · show V.int _ = V.int (if e.2 = e.2 then F j here + e.1 else F' e.2)
                rw [if_pos rfl]
              · show u = V.int (if x = e.2 then F j here + e.1 else F' x)
                rw [if_neg hx]
                exact h
            · rw [if_neg big]
              have ea : addK qs'' e.2 = qs'' := if_pos c
              have kd8 := kd7.put (v := .int (F' e.2)) en rfl
              rw [ea] at kd8
              exact ⟨_, _, _, qs'', F', rfl, same_mut s7 hdNL, upd_same, kd8, sub7, (pt7.old (x := here) (e := e) c (by omega)).mono stepE⟩
          · have g : valV kvs' (kS e.2) = none := by
              have := kd7.is e.2
              rw [decide_eq_false c] at this
              cases h : valV kvs' (kS e.2) with
              | none => rfl
              | some v =>
                rw [h] at this
                cases this
            refine ⟨_, rfl, dN, rfl, .inl ⟨_, .inl hN7⟩, _, rfl, _, rfl, _, rfl, _, _, rfl, rfl, none, put _ g, _, rfl, _, rfl, _, _, rfl, rfl, _, _, rfl, ?_⟩
            refine ⟨_, rfl, _, rfl, dN, _, rfl, DPut.k (k := kS e.2) hN7 (line6 (by omega)), ?_⟩
            rw [if_neg (Int.lt_irrefl _)]
            refine ⟨_, _, _, addK qs'' e.2, (fun t => if t = e.2 then F j here + e.1 else F' t), rfl, same_mut s7 hdNL, upd_same, kd7.set en ?_ (fun x u hx h => ?_), fun x hx => (mem_addK.mp hx).elim (sub7 x) (fun h => h ▸ ek), (pt7.put (e := e) lvj hm eG (fun h => absurd h c)).mono stepE⟩
            · show V.int _ = V.int (if e.2 = e.2 then F j here + e.1 else F' e.2)
              rw [if_pos rfl]
            · show u = V.int (if x = e.2 then F j here + e.1 else F' x)
              rw [if_neg hx]
              exact h
        · rintro σ H7 ⟨y7, y8, kvs', qs'', F', rfl, s7, hN7, kd7, sub7, pt7⟩
          refine ⟨_, _, _, _, kvs', qs'', F', rfl, s7, hN7, kd7, sub7, pt7.mono fun x f h => ?_⟩
          have h1 := h.1
          rw [take_snoc hhere] at h1
          rcases List.mem_append.mp h1 with m | m
          · exact .inl ⟨m, h.2⟩
          · refine .inr ⟨List.mem_singleton.mp m, ?_⟩
            rw [List.take_of_length_le (by omega), ← List.mem_singleton.mp m]
            exact h.2
      · rintro σ H5 ⟨y5, y6, y7, y8, kvs', qs', F', rfl, s5, hN5, kd5, sub5, pt5⟩
        have lv' : LvS (rG R) 0 (j + 1) qs' F' := pt5.fin lvj fun x hx e he => ⟨by rw [kvl, List.take_length]; exact hx, he⟩
        refine ⟨s5 _ _ haL, ?_⟩
        have s6 := s3.trans (uF s5)
        have hN6 : upd H5 a (.dK (kv j)) dN = some (.dK kvs') := by rw [upd_ne dNa]; exact hN5
        have hL6 : upd H5 a (.dK (kv j)) L = some (.lst (as.map V.ref)) := by rw [upd_ne La]; exact s5 _ _ hLL
        have lvs6 := lvs.same (uF s5)
        generalize upd H5 a (.dK (kv j)) = H6 at s6 hN6 hL6 lvs6
        refine ⟨_, rfl, .inl ⟨rfl, _, SqL.of hL6⟩, _, rfl, L, _, _, rfl, rfl, hL6, by rw [List.length_map]; exact line6 (by omega), ?_⟩
        have lvs7 := (lvs6.add hdNH hN6 kd5 (by rw [al]; exact lv') sub5).lst hL6 (.lst (as.map V.ref ++ [.ref dN]))
        exact ⟨_, _, _, _, _, _, as ++ [dN], _, _, _, rfl, same_mut s6 hLH, by rw [upd_same, List.map_append]; rfl, by rw [List.length_append, al]; rfl, lvs7⟩
    · rintro σ H3 ⟨y3, y4, y5, y6, y7, y8, as, kv, qs, F, rfl, s3, hL3, al, lvs⟩
      refine ⟨Nat.zero_le _, fun M hM => ?_⟩
      obtain ⟨a, hlast⟩ : ∃ a, as[ks.length]? = some a := ⟨_, List.getElem?_eq_getElem (by omega)⟩
      have ha3 := lvs.at_ _ a hlast
      have haH := lvs.new a (List.mem_of_getElem? hlast)
      have kdn := lvs.hg ks.length (by omega)
      have lvn := lvs.lv ks.length (by omega)
      refine ⟨a, .dK (kv ks.length), same_new hM _ _ ha3, True.intro, fun od => ?_⟩
      have Ma : M ≠ a := (ne_of_none ha3 hM).symm
      have La : L ≠ a := fun z => by
        rw [z, ha3] at hL3
        cases hL3
      have hMH : H M = none := s3.free hM
      have uF : ∀ {H' : Hp}, Same (upd H3 a (.frz od (.dK (kv ks.length)))) H' → Same H3 (upd H' a (.dK (kv ks.length))) := fun s => unfrz ha3 s
      have sHL : Same H (upd H3 a (.frz od (.dK (kv ks.length)))) := same_mut s3 haH
      have sL := same_upd2 (d := a) (u := .lst []) (f := .frz od (.dK (kv ks.length))) hM
      have hML : upd (upd H3 M (.lst [])) a (.frz od (.dK (kv ks.length))) M = some (.lst []) := by rw [upd_ne Ma, upd_same]
      have hMHL : upd H3 a (.frz od (.dK (kv ks.length))) M = none := by rw [upd_ne Ma]; exact hM
      have haL := upd_same (H := H3) (a := a) (o := .frz od (.dK (kv ks.length)))
      have hLL : upd H3 a (.frz od (.dK (kv ks.length))) L = some (.lst (as.map V.ref)) := by rw [upd_ne La]; exact hL3
      have ha0 : upd (upd H3 M (.lst [])) a (.frz od (.dK (kv ks.length))) a = some (.frz od (.dK (kv ks.length))) := upd_same
      have rdL : ∀ {H' : Hp}, Same (upd H3 a (.frz od (.dK (kv ks.length)))) H' → ∀ (k : Nat) b, as[k]? = some b → Rd H' b (.dK (kv k)) := fun {H'} sm k b e => by
        have hb := lvs.at_ k b e
        by_cases c : b = a
        · rw [c, ha3] at hb
          have : kv ks.length = kv k := by
            injection (Option.some.inj hb)
          rw [← this, c]
          exact .inr ⟨od, sm _ _ haL⟩
        · exact .inl (sm _ _ (by rw [upd_ne c]; exact hb))
      generalize upd (upd H3 M (.lst [])) a (.frz od (.dK (kv ks.length))) = H4 at sL hML ha0
      generalize upd H3 a (.frz od (.dK (kv ks.length))) = HL at sL uF hMHL haL hLL sHL rdL
      have kvl := kdn.len
      have lastV : atI (as.map V.ref) (ks.length : Int) = some (.ref a) := atI_nat (by
        rw [List.getElem?_map, hlast]
        rfl)
      have qn : (qs ks.length).length ≤ R.length := kdn.few
      refine ⟨_, rfl, _, rfl, L, _, _, _, rfl, rfl, SqL.of (sL _ _ hLL), lastV, a, od, _, rfl, ha0, for_it walk_items (fun i σ H' => ∃ (y5 y6 y10 : Option V) (zs : List V) (fs : List F2), σ = [some (.ref pR), some (.int (ks.length : Int)), some (.ref L), y3, y4, y5, y6, y7, y8, some (.ref M), y10, none] ∧ Same HL H' ∧ H' M = some (.lst zs) ∧ DpAll K H' zs (fs.map dF) ∧ fs.length = i ∧ (∀ f ∈ fs, Low f ∧ Sz 400 f) ∧ (∀ f ∈ fs, ∃ v, LeastOf (rG R) ks.length v f) ∧ ∀ v ∈ (qs ks.length).take i, ∃ f ∈ fs, LeastOf (rG R) ks.length v f) ⟨_, _, _, [], [], rfl, sL, hML, .nil, rfl, fun _ h => absurd h List.not_mem_nil, fun _ h => absurd h List.not_mem_nil, fun _ h => absurd h List.not_mem_nil⟩ (fun i2 σ H' _ ⟨_, _, _, _, _, _, s, _⟩ => s _ _ haL) ?_ ?_⟩
      · rintro i x σ H5 H5' hi2 ⟨y5, y6, y10, zs, fs, rfl, s5, hM5, hzs, fl, ok5, is5, all5⟩ ⟨T', u, v', rfl, hT, rfl, hu, hv⟩
        obtain ⟨⟨key, v0⟩, hkv, rfl⟩ := Option.map_eq_some_iff.mp hu
        have hv : (kv ks.length)[i]?.map Prod.snd = some v' := hv
        rw [hkv] at hv
        obtain rfl : v0 = v' := Option.some.inj hv
        obtain ⟨here, hhere, rfl⟩ := KD.at_ kdn hkv
        obtain ⟨here2, _, ek, ev⟩ := KD.of_mem kdn (List.mem_of_getElem? hkv)
        obtain rfl : here = here2 := kS_inj ek
        obtain rfl : v0 = .int (F ks.length here) := ev
        have hm := List.mem_of_getElem? hhere
        have s6 := s5.trans (same_new (o := .tup [kV (kS here), .int (F ks.length here)]) hT)
        have hT6 := upd_same (H := H5) (a := T') (o := .tup [kV (kS here), .int (F ks.length here)])
        have hM6 := same_new (o := .tup [kV (kS here), .int (F ks.length here)]) hT _ _ hM5
        have hzs6 := dpA_same (same_new (o := .tup [kV (kS here), .int (F ks.length here)]) hT) _ _ hzs
        generalize upd H5 T' (.tup [kV (kS here), .int (F ks.length here)]) = H6 at s6 hT6 hM6 hzs6
        refine ⟨T', _, rfl, SqT.of hT6, rfl, _, _, rfl, _, _, rfl, rfl, ?_⟩
        refine ⟨_, rfl, _, rfl, by omega, by omega, fun Kn hKn => lc_range (lo := 0) (n := ks.length) (fun k H' => Same H6 H' ∧ H' Kn = some (.lst (((List.range k).filter fun k => decide (here ∈ qs k)).map vN))) ⟨same_new hKn, upd_same⟩ ?_ ?_⟩
        · rintro k H7 hk ⟨s7, h7⟩
          have e0 : V.int (0 + (k : Int)) = vN k := by
            show V.int (0 + (k : Int)) = V.int (k : Int)
            rw [Int.zero_add]
          rw [e0]
          obtain ⟨b, hb⟩ : ∃ b, as[k]? = some b := ⟨_, List.getElem?_eq_getElem (by omega)⟩
          have bV : atI (as.map V.ref) (k : Int) = some (.ref b) := atI_nat (by
            rw [List.getElem?_map, hb]
            rfl)
          have s67 := s6.trans s7
          have nf : ((List.range k).filter fun k => decide (here ∈ qs k)).length ≤ k := Nat.le_trans (List.length_filter_le _ _) (by rw [List.length_range]; exact Nat.le_refl _)
          refine ⟨rfl, _, rfl, _, rfl, _, rfl, L, _, _, _, rfl, rfl, SqL.of (s67 _ _ hLL), bV, b, _, rfl, .inl ⟨kv k, kS here, rdL s67 k b hb, rfl, rfl⟩, _, rfl, ?_⟩
          rw [(lvs.hg k (by omega)).is, List.range_succ, List.filter_append]
          by_cases c : here ∈ qs k
          · rw [decide_eq_true c]
            refine ite2 (fun _ => ?_) (fun h => absurd rfl h)
            refine ⟨_, rfl, _, h7, by rw [List.length_map]; exact line6 (by omega), same_mut s7 hKn, ?_⟩
            rw [upd_same, List.filter_cons_of_pos (by simpa using c), List.filter_nil, List.map_append]
            rfl
          · rw [decide_eq_false c]
            refine ite2 (fun h => (nomatch (show false = true from h))) (fun _ => ⟨s7, ?_⟩)
            rw [List.filter_cons_of_neg (by simpa using c), List.filter_nil, List.append_nil]
            exact h7
        · rintro H7 ⟨s7, h7⟩
          have h7 : H7 Kn = some (.lst ((knownK qs ks.length here).map vN)) := h7
          have s67 := s6.trans s7
          have hM7 := s7 _ _ hM6
          have hzs7 := dpA_same s7 _ _ hzs6
          obtain ⟨mo1, mo2⟩ := mean_of lvs (by omega) hm
          have kpos := known_pos lvs (by omega) clo z0 hm
          have kle : (knownK qs ks.length here).length ≤ ks.length := Nat.le_trans (List.length_filter_le _ _) (by rw [List.length_range]; exact Nat.le_refl _)
          have zl := dpA_len hzs7
          rw [List.length_map] at zl
          have z1 := lv_le clo wB z0 lvn hm
          have in1 : ∀ kk ∈ knownK qs ks.length here, kk < ks.length ∧ here ∈ qs kk := fun kk h => ⟨List.mem_range.mp (List.mem_filter.mp h).1, of_decide_eq_true (List.mem_filter.mp h).2⟩
          have ok1 : ∀ kk ∈ knownK qs ks.length here, Sz 16 (F ks.length here - F kk here, (ks.length : Int) - (kk : Int)) ∧ (ks.length : Int) - (kk : Int) ≠ 0 := fun kk h => by
            obtain ⟨kn, hq⟩ := in1 kk h
            have z2 := lv_le clo wB z0 (lvs.lv kk (by omega)) hq
            refine ⟨⟨?_, ?_⟩, by omega⟩
            · show (F ks.length here - F kk here).natAbs < 2 ^ 16
              omega
            · show ((ks.length : Int) - (kk : Int)).natAbs < 2 ^ 16
              omega
          refine ⟨_, rfl, .inl ⟨rfl, _, SqL.of hM7⟩, _, rfl, Kn, rfl, ⟨_, SqL.of h7⟩, fun Z hZ => lc_list (K := K) (a := Kn) (xs := (knownK qs ks.length here).map vN) (fun k H' => Same H7 H' ∧ ∃ us, H' Z = some (.lst us) ∧ DpAll K H' us (((knownK qs ks.length here).take k).map fun k => dF (fr (F ks.length here - F k here) ((ks.length : Int) - (k : Int))))) ⟨same_new hZ, [], upd_same, .nil⟩ (fun k H' _ e => SqL.of (e.1 _ _ h7)) ?_ ?_⟩
          · rintro k y H8 hk ⟨s8, us, hZ8, hus⟩
            rw [List.getElem?_map] at hk
            obtain ⟨kk, hkk, rfl⟩ := Option.map_eq_some_iff.mp hk
            have kkm := List.mem_of_getElem? hkk
            obtain ⟨kn, hq⟩ := in1 kk kkm
            obtain ⟨sz, hne⟩ := ok1 kk kkm
            obtain ⟨b, hb⟩ : ∃ b, as[kk]? = some b := ⟨_, List.getElem?_eq_getElem (by omega)⟩
            have bV : atI (as.map V.ref) (kk : Int) = some (.ref b) := atI_nat (by
              rw [List.getElem?_map, hb]
              rfl)
            have g := (lvs.hg kk (by omega)).at_ hq
            have s68 := s67.trans s8
            have ul := dpA_len hus
            rw [List.length_map, List.length_take] at ul
            refine ⟨rfl, _, rfl, _, rfl, _, rfl, L, _, _, _, rfl, rfl, SqL.of (s68 _ _ hLL), bV, _, rfl, b, _, rfl, .inl ⟨kv kk, kS here, rdL s68 kk b hb, rfl, g.symm⟩, _, _, rfl, rfl, _, rfl, _, rfl, _, _, rfl, rfl, _, _, rfl, hne, sz_up sz (by decide), fun p hp => ?_⟩
            have s9 := same_new (o := tupF (fr (F ks.length here - F kk here) ((ks.length : Int) - (kk : Int)))) hp
            have hp9 := sq_new (K := K) (H := H8) (p := p) (f := fr (F ks.length here - F kk here) ((ks.length : Int) - (kk : Int)))
            generalize upd H8 p (tupF (fr (F ks.length here - F kk here) ((ks.length : Int) - (kk : Int)))) = H9 at s9 hp9
            have hZ9 := s9 _ _ hZ8
            have kZ := keepT_nt (o := .lst (us ++ [.ref p])) (nt_lst _) hZ9
            refine ⟨us, hZ9, line6 (by omega), same_mut (s8.trans s9) hZ, us ++ [.ref p], upd_same, ?_⟩
            rw [take_snoc hkk, List.map_append]
            exact dpA_snoc (dpA_keep kZ _ _ (noLs_map _ _ fun _ _ => rfl) (dpA_same s9 _ _ hus)) (dp_keep kZ _ _ rfl (dp_F hp9))
          · rintro H8 ⟨s8, us, hZ8, hus⟩
            rw [List.length_map, List.take_length] at hus
            have hM8 := s8 _ _ hM7
            have hzs8 := dpA_same s8 _ _ hzs7
            have hus2 : DpAll K H8 us (((knownK qs ks.length here).map fun k => fr (F ks.length here - F k here) ((ks.length : Int) - (k : Int))).map dF) := by
              rw [List.map_map]
              exact hus
            refine ⟨Z, us, _, rfl, SqL.of hZ8, hus2, by rw [List.length_map]; exact kpos, fun f hf => ?_, fun x f hf hx lo => ?_⟩
            · obtain ⟨kk, hkk, rfl⟩ := List.mem_map.mp hf
              obtain ⟨sz, hne⟩ := ok1 kk hkk
              exact ⟨fr_low hne, sz_up (fr_sz sz) (by decide)⟩
            · have okf : Low f ∧ Sz 400 f := by
                obtain ⟨kk, hkk, rfl⟩ := List.mem_map.mp hf
                obtain ⟨sz, hne⟩ := ok1 kk hkk
                exact ⟨fr_low hne, sz_up (fr_sz sz) (by decide)⟩
              have lf : LeastOf (rG R) ks.length here f := ⟨_, _, mo1, mo2, hf, lo⟩
              have kM := keepT_nt (o := .lst (zs ++ [x])) (nt_lst _) hM8
              refine ⟨M, zs, _, rfl, rfl, hM8, line6 (by omega), ?_⟩
              refine ⟨_, _, _, zs ++ [x], fs ++ [f], rfl, same_mut (s67.trans s8) hMHL, upd_same, ?_, by rw [List.length_append, fl]; rfl, fun z hz => ?_, fun z hz => ?_, fun v hv => ?_⟩
              · rw [List.map_append]
                exact dpA_snoc (dpA_keep kM _ _ (noLs_map _ _ fun _ _ => rfl) hzs8) (dp_keep kM _ _ rfl hx)
              · rcases List.mem_append.mp hz with m | m
                · exact ok5 z m
                · rw [List.mem_singleton.mp m]
                  exact okf
              · rcases List.mem_append.mp hz with m | m
                · exact is5 z m
                · rw [List.mem_singleton.mp m]
                  exact ⟨_, lf⟩
              · rw [take_snoc hhere] at hv
                rcases List.mem_append.mp hv with m | m
                · obtain ⟨f', h1, h2⟩ := all5 v m
                  exact ⟨f', List.mem_append_left _ h1, h2⟩
                · rw [List.mem_singleton.mp m]
                  exact ⟨f, List.mem_append_right _ (List.mem_singleton.mpr rfl), lf⟩
      · rintro σ H5 ⟨y5, y6, y10, zs, fs, rfl, s5, hM5, hzs, fl, ok5, is5, all5⟩
        refine ⟨s5 _ _ haL, ?_⟩
        have s6 := s3.trans (uF s5)
        have hM6 : upd H5 a (.dK (kv ks.length)) M = some (.lst zs) := by rw [upd_ne Ma]; exact hM5
        have hzs6 := dpA_keep (keepT_frz (o := .dK (kv ks.length)) (s5 _ _ haL)) _ _ (noLs_map _ _ fun _ _ => rfl) hzs
        generalize upd H5 a (.dK (kv ks.length)) = H6 at s6 hM6 hzs6
        obtain ⟨q0, w0, wl0⟩ := walk_any okR clo lt ks.length z0
        have vq := (lvn.top q0 w0 wl0).1
        rw [kvl, List.take_length] at all5
        obtain ⟨f0, hf0, _⟩ := all5 _ vq
        refine ⟨_, rfl, M, zs, fs, rfl, SqL.of hM6, hzs6, List.length_pos_of_mem hf0, ok5, fun x f hf hx lo => ?_⟩
        obtain ⟨p, rfl, hp⟩ := f2_at hx
        exact q _ p fs f s6 hp is5 (fun q' w' wl' => all5 _ (lvn.top q' w' wl').1) hf lo (ok5 f hf).1 (ok5 f hf).2
end
end Mt
namespace Mt
open PySem PySem.Spec PyProof.Rows L2
abbrev cs_w2 : Scope := { kind := .function, names := [(Str.ofString ".0", .local), (Str.ofString "row", .local)], isGenerator := false, isCoroutine := false }
theorem dist_lt {nx : Nat → List Nat} {B : List Nat} {F : Nat → Option Nat} (d : DistOk nx B F) {n : Nat} (hn : ∀ s k, F s = some k → s < n) {s k : Nat} (e : F s = some k) : k < n := by
  have down : ∀ i, i ≤ k → ∃ t, F t = some (k - i) := fun i => by
    induction i with
    | zero => exact fun _ => ⟨s, e⟩
    | succ i ih =>
      intro h
      obtain ⟨t, ht⟩ := ih (by omega)
      rw [show k - i = (k - (i + 1)) + 1 by omega] at ht
      obtain ⟨t', h1, _⟩ := d.ex t _ ht
      exact ⟨t', h1⟩
  have at_ : ∀ j, ∃ t, j ≤ k → F t = some j := fun j => by
    by_cases c : j ≤ k
    · obtain ⟨t, ht⟩ := down (k - j) (by omega)
      rw [show k - (k - j) = j by omega] at ht
      exact ⟨t, fun _ => ht⟩
    · exact ⟨0, fun h => absurd h c⟩
  have nd : ((List.range (k + 1)).map fun j => Classical.choose (at_ j)).Nodup := by
    refine List.pairwise_map.mpr ((List.pairwise_lt_range).imp_of_mem fun {a b} ha hb h z => ?_)
    have h1 := Classical.choose_spec (at_ a) (by have := List.mem_range.mp ha; omega)
    have h2 := Classical.choose_spec (at_ b) (by have := List.mem_range.mp hb; omega)
    rw [z, h2] at h1
    have := Option.some.inj h1
    omega
  have := nodup_lt n nd fun x hx => by
    obtain ⟨j, hj, rfl⟩ := List.mem_map.mp hx
    exact hn _ _ (Classical.choose_spec (at_ j) (by have := List.mem_range.mp hj; omega))
  rw [List.length_map, List.length_range] at this
  omega
def toG (C : Chn) : List (List Nat) := C.map fun r => r.map (·.2.2)
theorem toG_at (C : Chn) (s : Nat) : nxG (toG C) s = (rowOf C s).map (·.2.2) := by
  unfold nxG toG rowOf
  rw [List.getElem?_map]
  cases C[s]? <;> rfl
/-- the steps that each time take the first branch that leads nearer -/
def GSt (C : Chn) (F : Nat → Option Nat) : Nat → List Br → Prop
  | _, [] => True
  | s, b :: r => (∃ k, F s = some (k + 1) ∧ ((rowOf C s).filter fun b => decide ((F b.2.2).getD (k + 1) < k + 1))[0]? = some b) ∧ GSt C F b.2.2 r
theorem GSt_app {C : Chn} {F : Nat → Option Nat} : ∀ (p q : List Br) (s : Nat), GSt C F s (p ++ q) ↔ GSt C F s p ∧ GSt C F (stA s p) q
  | [], q, s => ⟨fun h => ⟨trivial, h⟩, fun h => h.2⟩
  | b :: r, q, s => by
    have ih := GSt_app (C := C) (F := F) r q b.2.2
    rw [stA_cons]
    constructor
    · rintro ⟨h1, h2⟩
      exact ⟨⟨h1, (ih.mp h2).1⟩, (ih.mp h2).2⟩
    · rintro ⟨⟨h1, h2⟩, h3⟩
      exact ⟨h1, ih.mpr ⟨h2, h3⟩⟩
theorem GSt_uniq {C : Chn} {F : Nat → Option Nat} : ∀ {l l' : List Br} {s : Nat}, GSt C F s l → GSt C F s l' → F (stA s l) = some 0 → F (stA s l') = some 0 → l = l'
  | [], [], _, _, _, _, _ => rfl
  | [], b :: r, s, _, ⟨⟨k, e, _⟩, _⟩, h, _ => by
    have h : F s = some 0 := h
    rw [e] at h
    cases h
  | b :: r, [], s, ⟨⟨k, e, _⟩, _⟩, _, _, h => by
    have h : F s = some 0 := h
    rw [e] at h
    cases h
  | b :: r, b' :: r', s, ⟨⟨k, e, f⟩, g⟩, ⟨⟨k', e', f'⟩, g'⟩, h, h' => by
    rw [e] at e'
    obtain rfl : k = k' := by have := Option.some.inj e'; omega
    rw [f] at f'
    obtain rfl : b = b' := Option.some.inj f'
    rw [stA_cons] at h h'
    rw [GSt_uniq g g' h h']
/-- how far it is from each state to g -/
structure DistBack (C : Chn) (g : Nat) (F : Nat → Option Nat) : Prop where
  zero : ∀ s, F s = some 0 ↔ s = g
  st : ∀ s k, F s = some k → ∀ t, s ∈ (rowOf C t).map (·.2.2) → ∃ j, j ≤ k + 1 ∧ F t = some j
  ex : ∀ t k, F t = some (k + 1) → ∃ s, F s = some k ∧ s ∈ (rowOf C t).map (·.2.2)
theorem DistBack.uniq {C : Chn} {g : Nat} {F F' : Nat → Option Nat} (d : DistBack C g F) (d' : DistBack C g F') : F = F' := by
  have all : ∀ n k, k ≤ n → ∀ s, F s = some k ↔ F' s = some k := fun n => by
    induction n with
    | zero =>
      intro k hk s
      obtain rfl : k = 0 := by omega
      rw [d.zero, d'.zero]
    | succ n ih =>
      intro k hk s
      by_cases c : k ≤ n
      · exact ih k c s
      · obtain rfl : k = n + 1 := by omega
        constructor
        · intro e
          obtain ⟨u, hu, hs⟩ := d.ex s n e
          obtain ⟨j, hj, ej⟩ := d'.st u n ((ih n (Nat.le_refl _) u).mp hu) s hs
          by_cases cj : j ≤ n
          · rw [(ih j cj s).mpr ej] at e
            have := Option.some.inj e
            omega
          · rw [ej]
            congr 1
            omega
        · intro e
          obtain ⟨u, hu, hs⟩ := d'.ex s n e
          obtain ⟨j, hj, ej⟩ := d.st u n ((ih n (Nat.le_refl _) u).mpr hu) s hs
          by_cases cj : j ≤ n
          · rw [(ih j cj s).mp ej] at e
            have := Option.some.inj e
            omega
          · rw [ej]
            congr 1
            omega
  funext s
  cases e : F s with
  | some k => exact ((all k k (Nat.le_refl _) s).mp e).symm
  | none =>
    cases e' : F' s with
    | none => rfl
    | some k =>
      rw [(all k k (Nat.le_refl _) s).mpr e'] at e
      cases e
/-- the way to g that is told -/
def WayIs (C : Chn) (g : Nat) (l : List Br) : Prop := ∃ F, DistBack C g F ∧ GSt C F 0 l ∧ stA 0 l = g
theorem WayIs.uniq {C : Chn} {g : Nat} {l l' : List Br} (h : WayIs C g l) (h' : WayIs C g l') : l = l' := by
  obtain ⟨F, d, s, e⟩ := h
  obtain ⟨F', d', s', e'⟩ := h'
  obtain rfl := d.uniq d'
  exact GSt_uniq s s' ((d.zero _).mpr e) ((d.zero _).mpr e')
def spWayTo (K : PySem.W.Frag) : Sp := fun vs H Q _ => ∃ (vr : V) (g : Nat) (b : Int) (C : Chn), vs = [vr, .int (g : Int)] ∧ Dp K H vr (.tuple (C.map dRw)) ∧ ChnOk b C ∧ g < C.length ∧ (∃ l, BOk C 0 l ∧ stA 0 l = g) ∧
  ∀ H' v (l : List Br), Same H H' → Dp K H' v (dWs (l.map (·.1))) → BOk C 0 l → stA 0 l = g → l.length ≤ C.length → WayIs C g l → Q v H'
/-- what can come to g has a distance -/
theorem back_dist {C : Chn} {M : List (List Nat)} {g : Nat} {F : Nat → Option Nat} (d : DistOk (nxG M) [g] F) {base : Int} (ok : ChnOk base C) (iff : ∀ t s, t < C.length → (s ∈ nxG M t ↔ t ∈ nxG (toG C) s)) : ∀ {l : List Br} {s : Nat}, s < C.length → BOk C s l → stA s l = g → ∃ k, F s = some k
  | [], s, _, _, e => ⟨0, (d.zero s).mpr (List.mem_singleton.mpr e)⟩
  | b :: r, s, hs, h, e => by
    rw [stA_cons] at e
    have bl := ((ok.row _ (List.mem_of_getElem? (rowOf_at hs))).to b h.1).1
    obtain ⟨k, hk⟩ := back_dist d ok iff bl h.2 e
    obtain ⟨j, _, hj⟩ := d.st _ k hk s ((iff b.2.2 s bl).mpr (by rw [toG_at]; exact List.mem_map.mpr ⟨b, h.1, rfl⟩))
    exact ⟨j, hj⟩
section
variable {P : Program} {w : World} {K : PySem.W.Frag} {mg : Str → Option Value} {base : Heap}
set_option maxHeartbeats 1000000 in
theorem ok_way_to (T : Txt K mg) (D_distances : Kept P w K mg base 1 "distances" ["nexts", "begins"] (spDist K)) (D_turned : Kept P w K mg base 1 "turned" ["nexts"] (spTurned K)) {f : Addr} {fd : FuncData} (F : FnP K "way_to" s_way_to f fd) : FnOk P w K mg base CX0 2 f fd ["rows", "goal"] (spWayTo K) := by
  refine F.ok sc_way_to (fun vs H Q E h => ?_) (fun cdv A outer s H vs Q E hr h => ?_)
  · obtain ⟨vr, g, b, C, rfl, _⟩ := h
    rfl
  · obtain ⟨vr, g, b, C, rfl, hR, ok, gl, ⟨l0, w0, w1⟩, q⟩ := h
    refine ⟨_, PSs.nox (pss_cons (ps_set (i := 2) sc_way_to.nd rfl (Or.inr rfl) (pe_d D_distances (hr.mono (by decide)) (by rfl) (pa_cons (pe_d D_turned (hr.mono (by decide)) (by rfl) (pa_cons (pe_lc (own := [("row", 5)]) (g := (gName 5)) (tt := tYes) rfl sc_way_to.nd (pi_tup (pv 0)) (blkOk_by (N := N_way_to) (sc := defScope s_way_to) (by decide +kernel)) (fun _ _ _ _ _ => (pg_name (i := 5) sc_way_to.nd rfl (Or.inl rfl))) (fun _ _ _ _ _ => pts_nil) (fun _ _ _ _ _ => (pe_lc (own := [("_", 3), ("target", 4)]) (g := (gTup K 3 (gCons (gName 3) (gCons (gName 3) (gCons (gName 4) gNil))))) (tt := tYes) rfl sc_way_to.nd (piTK (K := K) rfl (pv 5)) (blkOk_by (N := N_way_to) (sc := cs_w2) (by decide +kernel)) (fun _ _ _ _ _ => (pg_tup rfl (pgs_cons (pg_name (i := 3) sc_way_to.nd rfl (Or.inl rfl)) (pgs_cons (pg_name (i := 3) sc_way_to.nd rfl (Or.inl rfl)) (pgs_cons (pg_name (i := 4) sc_way_to.nd rfl (Or.inl rfl)) pgs_nil))))) (fun _ _ _ _ _ => pts_nil) (fun _ _ _ _ _ => (pv 4))))) pa_nil)) (pa_cons (pe_lst (pa_cons (pv 1) pa_nil)) pa_nil))))
      (pss_cons (ps_set (i := 6) sc_way_to.nd rfl (Or.inl rfl) (pe_lst pa_nil))
      (pss_cons (ps_set (i := 7) sc_way_to.nd rfl (Or.inr rfl) pe_int)
      (pss_cons (ps_while PassesOwn.never (pt_cmpR op_ne (pv 7) (pv 1) (nomark _)) (pss_cons (ps_setLc (i := 8) (own := [("branch", 9)]) (g := (gName 9)) rfl sc_way_to.nd rfl rfl (sw_true rfl rfl rfl (by decide +kernel)) (pi_tup (pe_ix ix_tup (pv 0) (pv 7) (fun _ _ => rfl))) (blkOk_by (N := N_way_to) (sc := defScope s_way_to) (by decide +kernel)) (fun _ _ _ _ _ => (pg_name (i := 9) sc_way_to.nd rfl (Or.inl rfl))) (fun _ _ _ _ _ => (pts_one (pt_cmpR op_lt (pe_dget2 (hu_of hr) (pv 2) (pe_ix (ixT (K := K) rfl) (pv 9) pe_int (fun _ _ => rfl)) (pe_dget (hu_of hr) (pv 2) (pv 7) (fun _ _ => rfl)) ⟨rfl, rfl, rfl, rfl⟩) (pe_dget (hu_of hr) (pv 2) (pv 7) (fun _ _ => rfl)) (nomark _)))) (fun _ _ _ _ _ => (pv 9)))
      (pss_cons (ps_expr (pe_bm PySem.F.plainAttrs_list PySem.F.slot_list_append PySem.F.type_list_append mt_append (pv 6) (pa_cons (pe_ix ix_tup (pe_ix ix_list (pv 8) pe_int (fun _ _ => rfl)) pe_int (fun _ _ => rfl)) pa_nil)))
      (pss_one (ps_set (i := 7) sc_way_to.nd rfl (Or.inr rfl) (pe_ix ix_tup (pe_ix ix_list (pv 8) pe_int (fun _ _ => rfl)) pe_int (fun _ _ => rfl)))))))
      (pss_one (ps_ret (pe_callTy call_tuple_of (by rfl) T.b_tuple (by decide +kernel) (pa_cons (pv 6) pa_nil)))))))), ?_⟩
    have few := ok.few
    have pos := ok.pos
    obtain ⟨pR, xs, rfl, hpR, hA⟩ := dp_tup hR
    have xl := dpA_len hA
    rw [List.length_map] at xl
    refine ⟨_, rfl, pR, rfl, ⟨_, hpR⟩, fun L hL => lc_tup (K := K) (a := pR) (xs := xs) (fun i H' => Same H H' ∧ FL K L H' ((C.take i).map fun r => .list (r.map fun b => .int (b.2.2 : Int)))) ⟨same_new hL, FL.nil hL⟩ (fun i H' _ e => same_t e.1 hpR) ?_ ?_⟩
    · rintro i x H1 hi ⟨s1, fl⟩
      obtain ⟨r, hr1, hx⟩ := dpA_mem hA hi
      have il := (List.getElem?_eq_some_iff.mp hr1).1
      have okr := ok.row r (List.mem_of_getElem? hr1)
      obtain ⟨pr, rs, rfl, hpr, hrs⟩ := dp_tup hx
      have rl := dpA_len hrs
      rw [List.length_map] at rl
      obtain ⟨zs, hL1, zl, _⟩ := id fl.d
      rw [List.length_map, List.length_take] at zl
      refine ⟨rfl, _, rfl, pr, rfl, ⟨_, same_t s1 hpr⟩, fun M hM => lc_tup (K := K) (a := pr) (xs := rs) (fun j H' => Same H1 H' ∧ H' M = some (.lst ((r.take j).map fun b => vN b.2.2))) ⟨same_new hM, upd_same⟩ (fun j H' _ e => same_t (s1.trans e.1) hpr) ?_ ?_⟩
      · rintro j y H2 hj ⟨s2, hM2⟩
        obtain ⟨br, hbr, hy⟩ := dpA_mem hrs hj
        have jl := (List.getElem?_eq_some_iff.mp hbr).1
        have fewr := okr.few
        obtain ⟨pb, x0', x1', rfl, hpb, hd0, hd1⟩ := br_at hy
        refine ⟨pb, _, rfl, same_t (s1.trans s2) hpb, rfl, _, _, rfl, _, _, rfl, _, _, rfl, rfl, rfl, ?_⟩
        refine ⟨_, rfl, _, hM2, ?_, same_mut s2 hM, ?_⟩
        · rw [List.length_map, List.length_take]
          exact line6 (by omega)
        · rw [upd_same, take_snoc hbr, List.map_append]
          rfl
      · rintro H2 ⟨s2, hM2⟩
        rw [rl, List.take_length] at hM2
        have hL2 := s2 _ _ hL1
        refine ⟨zs, hL2, line6 (by omega), same_mut (s1.trans s2) hL, ?_⟩
        rw [take_snoc hr1, List.map_append]
        refine (fl.same s2).add hL2 fun o => ?_
        have nM : M ≠ L := (ne_of_none hL1 hM).symm
        show Dp K (upd H2 L o) (.ref M) (.list (r.map fun b => .int (b.2.2 : Int)))
        refine .lst (SqL.of (by rw [upd_ne nM]; exact hM2)) (dpA_ofI (by rw [List.length_map, List.length_map]) fun k x d h3 h4 => ?_)
        rw [List.getElem?_map] at h3 h4
        obtain ⟨bb, hbb, rfl⟩ := Option.map_eq_some_iff.mp h3
        rw [hbb] at h4
        cases h4
        exact .int _
    · rintro H1 ⟨s1, fl⟩
      rw [xl, List.take_length] at fl
      have dG1 : Dp K H1 (.ref L) (dG (toG C)) := by
        have e : dG (toG C) = .list (C.map fun r => .list (r.map fun b => .int (b.2.2 : Int))) := by
          unfold dG toG
          rw [List.map_map]
          congr 1
          refine List.map_congr_left fun r _ => ?_
          show PyData.list ((r.map (·.2.2)).map fun k : Nat => PyData.int (k : Int)) = _
          rw [List.map_map]
          rfl
        rw [e]
        exact fl.dp
      have gl2 : (toG C).length = C.length := by unfold toG; rw [List.length_map]
      refine ⟨_, _, rfl, dG1, by rw [gl2]; exact few, fun r hr => ?_, fun H2 v' M s2 hM ml mr iff => ?_⟩
      · obtain ⟨r0, h0, rfl⟩ := List.mem_map.mp hr
        have okr := ok.row r0 h0
        refine ⟨by rw [List.length_map]; exact okr.few, fun t ht => ?_⟩
        obtain ⟨bb, hbb, rfl⟩ := List.mem_map.mp ht
        rw [gl2]
        exact (okr.to bb hbb).1
      · rw [gl2] at ml mr iff
        refine ⟨_, rfl, z1, fun pb hpb => ?_⟩
        have s3 := same_new (o := .lst [.int (g : Int)]) hpb
        have hpb3 := upd_same (H := H2) (a := pb) (o := .lst [.int (g : Int)])
        generalize upd H2 pb (.lst [.int (g : Int)]) = H3 at s3 hpb3
        refine ⟨v', pb, M, [g], rfl, dp_same s3 _ _ hM, SqL.of hpb3, by omega, fun r hr => ⟨(mr r hr).1, fun t ht => by rw [ml]; exact (mr r hr).2 t ht⟩, fun t ht => by rw [List.mem_singleton.mp ht, ml]; exact gl, by show 1 ≤ 100; decide, fun H4 d kvs F s4 hd hd4 fk dok => ?_⟩
        rw [ml] at fk
        have s04 := s1.trans (s2.trans (s3.trans s4))
        obtain ⟨k0, hk0⟩ := back_dist dok ok iff pos w0 w1
        have db : DistBack C g F := ⟨fun s => (dok.zero s).trans List.mem_singleton, fun s k e t ht => dok.st s k e t ((iff s t (fk.lt e)).mpr (by rw [toG_at]; exact ht)), fun t k e => by
          obtain ⟨s, h1, h2⟩ := dok.ex t k e
          have := (iff s t (fk.lt h1)).mp h2
          rw [toG_at] at this
          exact ⟨s, h1, this⟩⟩
        have kl0 := dist_lt dok (fun s k e => fk.lt e) hk0
        refine ⟨Nat.zero_le _, fun B hB => ?_⟩
        have hBH : H B = none := s04.free hB
        have s5 := same_new (o := .lst []) hB
        have hB5 := upd_same (H := H4) (a := B) (o := .lst [])
        have hd5 := s5 _ _ hd4
        have s05 := s04.trans s5
        generalize upd H4 B (.lst []) = H5 at s5 hB5 hd5 s05
        refine ⟨fun m σ H' => ∃ (s : Nat) (y8 : Option V) (l : List Br) (zs : List V), σ = [some (.ref pR), some (.int (g : Int)), some (.ref d), none, none, none, some (.ref B), some (vN s), y8, none] ∧ Same H H' ∧ H' d = some (.dK kvs) ∧ H' B = some (.lst zs) ∧ DpAll K H' zs (l.map fun b => dI b.1) ∧ BOk C 0 l ∧ stA 0 l = s ∧ F s = some m ∧ l.length + m ≤ C.length ∧ GSt C F 0 l, ⟨k0, 0, _, [], [], rfl, s05, hd5, hB5, .nil, trivial, rfl, hk0, (by show 0 + k0 ≤ _; omega), trivial⟩, ?_⟩
        rintro m σ H6 ⟨s, y8, l, zs, rfl, s6, hd6, hB6, hzs, bl, es, hF, ll, gst⟩
        have zl := dpA_len hzs
        rw [List.length_map] at zl
        have sl : s < C.length := fk.lt hF
        refine ⟨_, rfl, _, rfl, rfl, _, rfl, ?_⟩
        by_cases e : s = g
        · have ne : ¬ (!decide (vN s = V.int (g : Int))) = true := by
            rw [e]
            simp [vN]
          refine ite2 (fun h => absurd h ne) (fun _ => ?_)
          refine ⟨_, rfl, B, zs, rfl, .inl ⟨SqL.of hB6, fun p hp => ?_⟩⟩
          have s7 := same_new (o := .tup zs) hp
          refine q _ _ l (s6.trans s7) (.tup (SqT.of upd_same) ?_) bl (es.trans e) (by omega) ⟨F, db, gst, es.trans e⟩
          rw [List.map_map]
          exact dpA_same s7 _ _ hzs
        · have ne : (!decide (vN s = V.int (g : Int))) = true := by
            have : vN s ≠ V.int (g : Int) := fun z => e (by have := V.int.inj z; omega)
            simp [this]
          refine ite2 (fun _ => ?_) (fun h => absurd ne h)
          have m0 : m ≠ 0 := fun z => by
            rw [z] at hF
            exact e (List.mem_singleton.mp ((dok.zero s).mp hF))
          obtain ⟨k, rfl⟩ : ∃ k, m = k + 1 := ⟨m - 1, by omega⟩
          obtain ⟨t, ht, hst⟩ := dok.ex s k hF
          have tl := fk.lt ht
          have hst := (iff t s tl).mp hst
          rw [toG_at] at hst
          obtain ⟨bt, hbt, rfl⟩ := List.mem_map.mp hst
          refine ⟨fun σ' H' => ∃ (s' m' : Nat) (y8 : Option V) (l : List Br) (zs : List V), m' < k + 1 ∧ σ' = [some (.ref pR), some (.int (g : Int)), some (.ref d), none, none, none, some (.ref B), some (vN s'), y8, none] ∧ Same H H' ∧ H' d = some (.dK kvs) ∧ H' B = some (.lst zs) ∧ DpAll K H' zs (l.map fun b => dI b.1) ∧ BOk C 0 l ∧ stA 0 l = s' ∧ F s' = some m' ∧ l.length + m' ≤ C.length ∧ GSt C F 0 l, fun σ' H' ⟨s', m', y8, l, zs, lt, r⟩ => ⟨m', lt, s', y8, l, zs, r⟩, ?_⟩
          obtain ⟨xr, hxr, dr⟩ := dpA_get hA (rowOf_at sl)
          obtain ⟨pr, rs, rfl, hpr, hrs⟩ := dp_tup dr
          have rl := dpA_len hrs
          rw [List.length_map] at rl
          have okr := ok.row _ (List.mem_of_getElem? (rowOf_at sl))
          have fewr := okr.few
          have gs : valV kvs (.inl (s : Int)) = some (vI (k + 1)) := by
            rw [fk.val, hF]
            rfl
          have dgs : ∀ {H' : Hp}, H' d = some (.dK kvs) → DGet H' d (vN s) (some (vI (k + 1))) := fun h => by
            rw [← gs]
            exact DGet.k (k := .inl (s : Int)) h
          refine ⟨_, rfl, _, rfl, pR, _, _, _, rfl, rfl, same_t s6 hpR, atI_nat hxr, pr, rfl, ⟨_, same_t s6 hpr⟩, fun Nl hNl => lc_tup (K := K) (a := pr) (xs := rs) (fun j H' => Same H6 H' ∧ ∃ us, H' Nl = some (.lst us) ∧ DpAll K H' us ((((rowOf C s).take j).filter fun b => decide ((F b.2.2).getD (k + 1) < k + 1)).map dBr) ∧ us.length ≤ j) ⟨same_new hNl, [], upd_same, .nil, Nat.le_refl _⟩ (fun j H' _ e => same_t (s6.trans e.1) hpr) ?_ ?_⟩
          · rintro j y H7 hj ⟨s7, us, hN7, hus, ul⟩
            obtain ⟨br, hbr, hy⟩ := dpA_mem (dpA_same (s6.trans s7) _ _ hrs) hj
            have jl := (List.getElem?_eq_some_iff.mp hbr).1
            obtain ⟨pb, x0, x1, rfl, hpb, hd0, hd1⟩ := br_at hy
            have hd7 := s7 _ _ hd6
            obtain ⟨o, k', go, e1, e2⟩ : ∃ (o : Option V) (k' : Nat), valV kvs (.inl (br.2.2 : Int)) = o ∧ o.getD (vI (k + 1)) = vI k' ∧ (F br.2.2).getD (k + 1) = k' := by
              rw [fk.val]
              cases F br.2.2 with
              | none => exact ⟨_, k + 1, rfl, rfl, rfl⟩
              | some k' => exact ⟨_, k', rfl, rfl, rfl⟩
            refine ⟨rfl, _, rfl, d, rfl, .inl ⟨_, .inl hd7⟩, _, rfl, pb, _, _, _, rfl, rfl, hpb, atI_nat (j := 2) rfl, _, rfl, _, rfl, d, _, rfl, dgs hd7, o, by rw [← go]; exact DGet.k (k := .inl (br.2.2 : Int)) hd7, ?_⟩
            rw [e1]
            refine ⟨_, rfl, _, rfl, d, _, rfl, dgs hd7, _, _, rfl, rfl, _, rfl, ?_⟩
            have ft : ((rowOf C s).take (j + 1)).filter (fun b => decide ((F b.2.2).getD (k + 1) < k + 1)) = ((rowOf C s).take j).filter (fun b => decide ((F b.2.2).getD (k + 1) < k + 1)) ++ [br].filter (fun b => decide ((F b.2.2).getD (k + 1) < k + 1)) := by
              rw [take_snoc hbr, List.filter_append]
            by_cases c : k' < k + 1
            · refine ite2 (fun _ => ?_) (fun h => absurd (decide_eq_true (show (k' : Int) < ((k + 1 : Nat) : Int) by omega)) h)
              refine ⟨_, rfl, us, hN7, line6 (by omega), same_mut s7 hNl, us ++ [.ref pb], upd_same, ?_, by rw [List.length_append, List.length_singleton]; omega⟩
              have kM := keepT_nt (o := .lst (us ++ [.ref pb])) (nt_lst _) hN7
              rw [ft, List.filter_cons_of_pos (by rw [e2]; simpa using c), List.filter_nil, List.map_append]
              exact dpA_snoc (dpA_keep kM _ _ (noLs_br _) hus) (dp_keep kM _ _ (dBr_noL _) hy)
            · refine ite2 (fun h => absurd (show (k' : Int) < ((k + 1 : Nat) : Int) from of_decide_eq_true h) (by omega)) (fun _ => ?_)
              refine ⟨s7, us, hN7, ?_, by omega⟩
              rw [ft, List.filter_cons_of_neg (by rw [e2]; simpa using c), List.filter_nil, List.append_nil]
              exact hus
          · rintro H7 ⟨s7, us, hN7, hus, ul⟩
            rw [rl, List.take_length] at hus
            have hne : ∃ b0, ((rowOf C s).filter fun b => decide ((F b.2.2).getD (k + 1) < k + 1))[0]? = some b0 := by
              have hm : bt ∈ (rowOf C s).filter fun b => decide ((F b.2.2).getD (k + 1) < k + 1) := List.mem_filter.mpr ⟨hbt, decide_eq_true (by rw [ht]; show k < k + 1; omega)⟩
              exact ⟨_, List.getElem?_eq_getElem (List.length_pos_of_mem hm)⟩
            obtain ⟨b0, hb0⟩ := hne
            obtain ⟨h1, h2⟩ := List.mem_filter.mp (List.mem_of_getElem? hb0)
            have h2 := of_decide_eq_true h2
            obtain ⟨k', hk'⟩ : ∃ k', F b0.2.2 = some k' := by
              cases e9 : F b0.2.2 with
              | none =>
                rw [e9] at h2
                exact absurd h2 (Nat.lt_irrefl _)
              | some k' => exact ⟨k', rfl⟩
            rw [hk'] at h2
            have h2 : k' < k + 1 := h2
            obtain ⟨x, hx0, hx⟩ := dpA_get hus hb0
            obtain ⟨pb, x0, x1, rfl, hpb, hd0, hd1⟩ := br_at hx
            have hB7 := s7 _ _ hB6
            have hzs7 := dpA_same s7 _ _ hzs
            have BN : B ≠ Nl := ne_of_none hB6 hNl
            have dB : d ≠ B := fun z => by
              rw [z, hB6] at hd6
              cases hd6
            refine ⟨_, rfl, .inl ⟨rfl, _, SqL.of hB7⟩, _, rfl, Nl, us, _, _, rfl, rfl, SqL.of hN7, atI_nat (j := 0) hx0, pb, _, _, _, rfl, rfl, hpb, atI_nat (j := 0) rfl, B, zs, _, rfl, rfl, hB7, line6 (by omega), ?_⟩
            have kB := keepT_nt (o := .lst (zs ++ [x0])) (nt_lst _) hB7
            have hN8 : (upd H7 B (.lst (zs ++ [x0]))) Nl = some (.lst us) := by rw [upd_ne BN.symm]; exact hN7
            refine ⟨_, rfl, Nl, us, _, _, rfl, rfl, SqL.of hN8, atI_nat (j := 0) hx0, pb, _, _, _, rfl, rfl, sqt_keep kB hpb, atI_nat (j := 2) rfl, ?_⟩
            refine ⟨b0.2.2, k', _, l ++ [b0], zs ++ [x0], h2, rfl, same_mut (s6.trans s7) hBH, by rw [upd_ne dB]; exact s7 _ _ hd6, upd_same, ?_, (BOk_app _ _ _).mpr ⟨bl, by rw [es]; exact ⟨h1, trivial⟩⟩, by rw [stA_app]; rfl, hk', by rw [List.length_append]; show l.length + 1 + k' ≤ _; omega, (GSt_app _ _ _).mpr ⟨gst, by rw [es]; exact ⟨⟨k, hF, hb0⟩, trivial⟩⟩⟩
            rw [List.map_append]
            exact dpA_snoc (dpA_keep kB _ _ (noLs_map _ _ fun b _ => dI_noL b.1) hzs7) (dp_keep kB _ _ (dI_noL _) hd0)
end
end Mt
namespace Mt
open PySem PySem.Spec PyProof.Rows L2
def sqs (pk : Nat → Br) (s0 : Nat) : Nat → Nat
  | 0 => s0
  | k + 1 => (pk (sqs pk s0 k)).2.2
def sgs (pk : Nat → Br) (s0 a r : Nat) : List Br := (List.range r).map fun i => pk (sqs pk s0 (a + i))
theorem sgs_len (pk : Nat → Br) (s0 a r : Nat) : (sgs pk s0 a r).length = r := by
  unfold sgs
  rw [List.length_map, List.length_range]
theorem sgs_succ (pk : Nat → Br) (s0 a r : Nat) : sgs pk s0 a (r + 1) = sgs pk s0 a r ++ [pk (sqs pk s0 (a + r))] := by
  unfold sgs
  rw [List.range_succ, List.map_append]
  rfl
theorem sgs_take (pk : Nat → Br) (s0 a k j : Nat) (h : j ≤ k) : (sgs pk s0 a k).take j = sgs pk s0 a j := by
  unfold sgs
  rw [← List.map_take, List.take_range, Nat.min_eq_left h]
theorem sgs_in {pk : Nat → Br} {zs : List Nat} (to : ∀ s ∈ zs, (pk s).2.2 ∈ zs) {s0 : Nat} (h : s0 ∈ zs) : ∀ k, sqs pk s0 k ∈ zs
  | 0 => h
  | k + 1 => to _ (sgs_in to h k)
/-- where it comes back to is told by the steps alone -/
theorem back_uniq {pk : Nat → Br} {s0 a r a' r' : Nat} (h0 : 0 < r) (e : sqs pk s0 (a + r) = sqs pk s0 a) (d : ∀ i j, i < a + r → j < a + r → sqs pk s0 i = sqs pk s0 j → i = j) (h0' : 0 < r') (e' : sqs pk s0 (a' + r') = sqs pk s0 a') (d' : ∀ i j, i < a' + r' → j < a' + r' → sqs pk s0 i = sqs pk s0 j → i = j) : a = a' ∧ r = r' := by
  have le : ¬ a + r < a' + r' := fun h => by
    have := d' (a + r) a h (by omega) e
    omega
  have ge : ¬ a' + r' < a + r := fun h => by
    have := d (a' + r') a' h (by omega) e'
    omega
  have s : a + r = a' + r' := by omega
  rw [s, e'] at e
  have := d a' a (by omega) (by omega) e
  omega
theorem sgs_walk {C : Chn} {pk : Nat → Br} {zs : List Nat} (to : ∀ s ∈ zs, (pk s).2.2 ∈ zs) (row : ∀ s ∈ zs, pk s ∈ rowOf C s) {s0 : Nat} (h : s0 ∈ zs) (a : Nat) : ∀ r, BOk C (sqs pk s0 a) (sgs pk s0 a r) ∧ stA (sqs pk s0 a) (sgs pk s0 a r) = sqs pk s0 (a + r)
  | 0 => ⟨trivial, rfl⟩
  | r + 1 => by
    obtain ⟨h1, h2⟩ := sgs_walk to row h a r
    rw [sgs_succ]
    refine ⟨(BOk_app _ _ _).mpr ⟨h1, ?_⟩, ?_⟩
    · rw [h2]
      exact ⟨row _ (sgs_in to h _), trivial⟩
    · rw [stA_app, stA_cons]
      rfl
/-- the place of each state so far -/
def plc (pk : Nat → Br) (s0 : Nat) (k : Nat) : List (L2.Key × V) := (List.range k).map fun i => (.inl ((sqs pk s0 i : Nat) : Int), .int (i : Int))
theorem plc_none {pk : Nat → Br} {s0 : Nat} {k s : Nat} (h : ∀ i, i < k → sqs pk s0 i ≠ s) : valV (plc pk s0 k) (.inl (s : Int)) = none := by
  unfold valV plc
  rw [List.find?_map]
  have : (List.range k).find? ((fun kv : L2.Key × V => decide (kv.1 = .inl (s : Int))) ∘ fun i => ((.inl ((sqs pk s0 i : Nat) : Int) : L2.Key), V.int (i : Int))) = none := List.find?_eq_none.mpr fun i hi e => by
    have e := of_decide_eq_true e
    have : ((sqs pk s0 i : Nat) : Int) = s := Sum.inl.inj e
    exact h i (List.mem_range.mp hi) (by omega)
  rw [this]
  rfl
theorem plc_some {pk : Nat → Br} {s0 : Nat} {k j : Nat} (hj : j < k) (h : ∀ i, i < k → sqs pk s0 i = sqs pk s0 j → i = j) : valV (plc pk s0 k) (.inl ((sqs pk s0 j : Nat) : Int)) = some (.int (j : Int)) := by
  unfold valV plc
  rw [List.find?_map]
  have : (List.range k).find? ((fun kv : L2.Key × V => decide (kv.1 = .inl ((sqs pk s0 j : Nat) : Int))) ∘ fun i => ((.inl ((sqs pk s0 i : Nat) : Int) : L2.Key), V.int (i : Int))) = some j := by
    have ex : ((List.range k).find? ((fun kv : L2.Key × V => decide (kv.1 = .inl ((sqs pk s0 j : Nat) : Int))) ∘ fun i => ((.inl ((sqs pk s0 i : Nat) : Int) : L2.Key), V.int (i : Int)))).isSome = true := List.find?_isSome.mpr ⟨j, List.mem_range.mpr hj, decide_eq_true rfl⟩
    obtain ⟨x, hx⟩ := Option.isSome_iff_exists.mp ex
    rw [hx]
    have e0 := List.find?_some hx
    have e : (.inl ((sqs pk s0 x : Nat) : Int) : L2.Key) = .inl ((sqs pk s0 j : Nat) : Int) := of_decide_eq_true e0
    have e2 : ((sqs pk s0 x : Nat) : Int) = sqs pk s0 j := Sum.inl.inj e
    have xk := List.mem_range.mp (List.mem_of_find?_eq_some hx)
    rw [h x xk (by omega)]
  rw [this]
  rfl
theorem plc_put {pk : Nat → Br} {s0 : Nat} {k : Nat} (h : ∀ i, i < k → sqs pk s0 i ≠ sqs pk s0 k) : putK (plc pk s0 k) (.inl ((sqs pk s0 k : Nat) : Int)) (.int (k : Int)) = plc pk s0 (k + 1) := by
  have an : ¬ ((plc pk s0 k).any fun kv => decide (kv.1 = (.inl ((sqs pk s0 k : Nat) : Int) : L2.Key))) = true := fun e => by
    obtain ⟨kv, hkv, e⟩ := List.any_eq_true.mp e
    obtain ⟨i, hi, rfl⟩ := List.mem_map.mp hkv
    have e := of_decide_eq_true e
    have : ((sqs pk s0 i : Nat) : Int) = sqs pk s0 k := Sum.inl.inj e
    exact h i (List.mem_range.mp hi) (by omega)
  unfold putK
  rw [if_neg an]
  unfold plc
  rw [List.range_succ, List.map_append]
  rfl
def dWd (l : List Br) : PyData := .tuple (l.map fun b => dI b.1)
def spRing (K : PySem.W.Frag) : Sp := fun vs H Q _ => ∃ (d : Addr) (n : Nat) (as : List Nat) (pk : Nat → Br) (s0 : Nat) (kvs : List (L2.Key × V)), vs = [.ref d, .int (s0 : Int)] ∧ n ≤ 50 ∧ s0 ∈ as ∧ (∀ s ∈ as, (pk s).2.2 ∈ as) ∧ H d = some (.dK kvs) ∧ KD n kvs as (fun s v => Dp K H v (dBr (pk s))) ∧
  ∀ H' v a r, Same H H' → 0 < r → a + r ≤ n → sqs pk s0 (a + r) = sqs pk s0 a → (∀ i j, i < a + r → j < a + r → sqs pk s0 i = sqs pk s0 j → i = j) → Dp K H' v (.tuple [dWd (sgs pk s0 0 a), dWd (sgs pk s0 a r)]) → Q v H'
theorem sgs_drop (pk : Nat → Br) (s0 : Nat) (k j : Nat) (h : j ≤ k) : (sgs pk s0 0 k).drop j = sgs pk s0 j (k - j) := by
  apply List.ext_getElem?
  intro i
  unfold sgs
  rw [List.getElem?_drop, List.getElem?_map, List.getElem?_map]
  by_cases e : j + i < k
  · rw [List.getElem?_range e, List.getElem?_range (by omega)]
    show some (pk (sqs pk s0 (0 + (j + i)))) = some (pk (sqs pk s0 (j + i)))
    rw [Nat.zero_add]
  · rw [List.getElem?_eq_none (by rw [List.length_range]; omega), List.getElem?_eq_none (by rw [List.length_range]; omega)]
    rfl
theorem cutL_to {xs : List V} {k : Nat} (h : k ≤ xs.length) : cutV xs none (some (k : Int)) = xs.take k := cut_to h
section
variable {P : Program} {w : World} {K : PySem.W.Frag} {mg : Str → Option Value} {base : Heap}
theorem ok_ring_of (T : Txt K mg) {f : Addr} {fd : FuncData} (F : FnP K "ring_of" s_ring_of f fd) : FnOk P w K mg base CX0 1 f fd ["picked", "state"] (spRing K) := by
  refine F.ok sc_ring_of (fun vs H Q E h => ?_) (fun cdv A outer s H vs Q E h9 h => ?_)
  · obtain ⟨d, n, as, pk, s0, kvs, rfl, _⟩ := h
    rfl
  · have hr := h9
    obtain ⟨d, n, as, pk, s0, kvs, rfl, few50, h0, to, hd, kd, q⟩ := h
    refine ⟨_, PSs.nox (pss_cons (ps_set (i := 2) sc_ring_of.nd rfl (Or.inl rfl) pe_dnewK)
      (pss_cons (ps_set (i := 3) sc_ring_of.nd rfl (Or.inl rfl) (pe_lst pa_nil))
      (pss_cons (ps_while PassesOwn.never (pt_cmp (pc_dnotin (hu_of hr) (pv 1) (pv 2))) (pss_cons (ps_asg (pe_callB call_len (by rfl) T.b_len (by decide +kernel) (pa_cons (pv 3) pa_nil)) (pg_sub (pv 2) (pv 1) (set_dict (hu_of hr))))
      (pss_cons (ps_asg (pe_dget (hu_of hr) (pv 0) (pv 1) (fun _ _ => rfl)) (pg_tup rfl (pgs_cons (pg_name (i := 4) sc_ring_of.nd rfl (Or.inl rfl)) (pgs_cons (pg_name (i := 5) sc_ring_of.nd rfl (Or.inl rfl)) (pgs_cons (pg_name (i := 1) sc_ring_of.nd rfl (Or.inl rfl)) pgs_nil)))))
      (pss_one (ps_expr (pe_bm PySem.F.plainAttrs_list PySem.F.slot_list_append PySem.F.type_list_append mt_append (pv 3) (pa_cons (pv 4) pa_nil)))))))
      (pss_cons (ps_set (i := 6) sc_ring_of.nd rfl (Or.inl rfl) (pe_dget (hu_of hr) (pv 2) (pv 1) (fun _ _ => rfl)))
      (pss_one (ps_ret (pe_tup (pa_cons (pe_callTy call_tuple_of (by rfl) T.b_tuple (by decide +kernel) (pa_cons (pe_slice sl_list (pv 3) po_none (po_some (pv 6))) pa_nil)) (pa_cons (pe_callTy call_tuple_of (by rfl) T.b_tuple (by decide +kernel) (pa_cons (pe_slice sl_list (pv 3) (po_some (pv 6)) po_none) pa_nil)) pa_nil))))))))), ?_⟩
    refine fun pl hpl => ?_
    have s1 := same_new (o := .dK []) hpl
    have hpl1 := upd_same (H := H) (a := pl) (o := .dK [])
    generalize upd H pl (.dK []) = H1 at s1 hpl1
    refine ⟨Nat.zero_le _, fun L hL => ?_⟩
    have s2 := s1.trans (same_new (o := .lst []) hL)
    have hL2 := upd_same (H := H1) (a := L) (o := .lst [])
    have hpl2 := same_new (o := .lst []) hL _ _ hpl1
    have plL : pl ≠ L := ne_of_none hpl1 hL
    have hL0 : H L = none := by
      cases e : H L with
      | none => rfl
      | some o =>
        rw [s1 _ _ e] at hL
        cases hL
    generalize upd H1 L (.lst []) = H2 at s2 hL2 hpl2
    have few : ∀ k, (∀ i j, i < k → j < k → sqs pk s0 i = sqs pk s0 j → i = j) → k ≤ n := fun k hd => by
      have := nodup_lt n (l := (List.range k).map (sqs pk s0)) ?_ fun x hx => ?_
      · rw [List.length_map, List.length_range] at this
        exact this
      · refine List.pairwise_map.mpr ?_
        refine (List.pairwise_lt_range (n := k)).imp_of_mem fun {a b} ha hb hab e => ?_
        have := hd a b (List.mem_range.mp ha) (List.mem_range.mp hb) e
        omega
      · obtain ⟨i, _, rfl⟩ := List.mem_map.mp hx
        exact kd.lt _ (sgs_in to h0 i)
    refine ⟨fun m σ H' => ∃ (k : Nat) (y4 y5 : Option V) (zs : List V), m = n + 1 - k ∧ σ = [some (.ref d), some (.int (sqs pk s0 k : Nat)), some (.ref pl), some (.ref L), y4, y5, none] ∧ Same H H' ∧ H' pl = some (.dK (plc pk s0 k)) ∧ H' L = some (.lst zs) ∧ DpAll K H' zs ((sgs pk s0 0 k).map fun b => dI b.1) ∧ ∀ i j, i < k → j < k → sqs pk s0 i = sqs pk s0 j → i = j, ⟨_, 0, _, _, [], rfl, rfl, s2, hpl2, hL2, .nil, fun i j hi => absurd hi (Nat.not_lt_zero i)⟩, ?_⟩
    rintro m σ H3 ⟨k, y4, y5, zs, rfl, rfl, s3, hpl3, hL3, hzs, dist⟩
    have kf := few k dist
    have zl := dpA_len hzs
    rw [List.length_map, sgs_len] at zl
    refine ⟨_, rfl, _, rfl, pl, valV (plc pk s0 k) (.inl ((sqs pk s0 k : Nat) : Int)), rfl, DGet.k (k := .inl ((sqs pk s0 k : Nat) : Int)) hpl3, _, rfl, ?_⟩
    by_cases hin : ∃ j, j < k ∧ sqs pk s0 j = sqs pk s0 k
    · obtain ⟨j, hj, ej⟩ := hin
      have hv := plc_some (pk := pk) (s0 := s0) hj fun i hi e => dist i j hi hj e
      rw [ej] at hv
      rw [hv]
      refine ite2 (fun h => (nomatch (show false = true from h))) (fun _ => ?_)
      refine ⟨_, rfl, _, rfl, pl, _, rfl, by rw [← hv]; exact DGet.k (k := .inl ((sqs pk s0 k : Nat) : Int)) hpl3, ?_⟩
      refine ⟨_, rfl, _, rfl, _, rfl, L, zs, rfl, SqL.of hL3, fun p1 hp1 => ?_⟩
      rw [cut_to (by omega)]
      have u1 := same_new (o := .lst (zs.take j)) hp1
      have a1 := upd_same (H := H3) (a := p1) (o := .lst (zs.take j))
      generalize upd H3 p1 (.lst (zs.take j)) = H4 at u1 a1
      refine ⟨p1, _, rfl, .inl ⟨SqL.of a1, fun p2 hp2 => ?_⟩⟩
      have u2 := u1.trans (same_new (o := .tup (zs.take j)) hp2)
      have a2 := upd_same (H := H4) (a := p2) (o := .tup (zs.take j))
      generalize upd H4 p2 (.tup (zs.take j)) = H5 at u2 a2
      refine ⟨_, rfl, _, rfl, _, rfl, L, zs, rfl, SqL.of (u2 _ _ hL3), fun p3 hp3 => ?_⟩
      rw [cut_from (by omega)]
      have u3 := same_new (o := .lst (zs.drop j)) hp3
      have a3 := upd_same (H := H5) (a := p3) (o := .lst (zs.drop j))
      have a23 := u3 _ _ a2
      generalize upd H5 p3 (.lst (zs.drop j)) = H6 at u3 a3 a23
      refine ⟨p3, _, rfl, .inl ⟨SqL.of a3, fun p4 hp4 => ⟨by show 2 ≤ sizeLine; decide, fun p5 hp5 => ?_⟩⟩⟩
      have u4 := same_new (o := .tup (zs.drop j)) hp4
      have u5 := same_new (o := .tup [.ref p2, .ref p4]) hp5
      have s36 := u2.trans (u3.trans (u4.trans u5))
      have w1 := dpA_take j (dpA_same s36 _ _ hzs)
      have w2 := dpA_drop j (dpA_same s36 _ _ hzs)
      rw [← List.map_take, sgs_take pk s0 0 k j (by omega)] at w1
      rw [← List.map_drop, sgs_drop pk s0 k j (by omega)] at w2
      refine q _ _ j (k - j) (s3.trans s36) (by omega) (by omega) (by rw [show j + (k - j) = k by omega]; exact ej.symm) (by rw [show j + (k - j) = k by omega]; exact dist) (.tup (SqT.of upd_same) (.cons (.tup (SqT.of ((u4.trans u5) _ _ a23)) w1) (.cons (.tup (SqT.of (u5 _ _ upd_same)) w2) .nil)))
    · have hno : ∀ i, i < k → sqs pk s0 i ≠ sqs pk s0 k := fun i hi e => hin ⟨i, hi, e⟩
      rw [plc_none hno]
      refine ite2 (fun _ => ?_) (fun h => absurd rfl h)
      refine ⟨fun σ' H' => ∃ (y4 y5 : Option V) (zs : List V), σ' = [some (.ref d), some (.int (sqs pk s0 (k + 1) : Nat)), some (.ref pl), some (.ref L), y4, y5, none] ∧ Same H H' ∧ H' pl = some (.dK (plc pk s0 (k + 1))) ∧ H' L = some (.lst zs) ∧ DpAll K H' zs ((sgs pk s0 0 (k + 1)).map fun b => dI b.1) ∧ ∀ i j, i < k + 1 → j < k + 1 → sqs pk s0 i = sqs pk s0 j → i = j, fun σ' H' ⟨y4, y5, zs, e, r⟩ => ⟨n + 1 - (k + 1), by omega, k + 1, y4, y5, zs, rfl, e, r⟩, ?_⟩
      have pll : (plc pk s0 k).length = k := by
        unfold plc
        rw [List.length_map, List.length_range]
      refine ⟨_, rfl, _, _, rfl, .inl ⟨_, SqL.of hL3, rfl⟩, _, rfl, _, rfl, pl, _, rfl, DPut.k (k := .inl ((sqs pk s0 k : Nat) : Int)) hpl3 (by rw [pll]; exact line6 (by omega)), ?_⟩
      rw [zl, plc_put hno]
      have kq := keepT_nt (o := .dK (plc pk s0 (k + 1))) (nt_dk _) hpl3
      have hL4 : (upd H3 pl (.dK (plc pk s0 (k + 1)))) L = some (.lst zs) := by
        rw [upd_ne plL.symm]
        exact hL3
      have s4 : Same H (upd H3 pl (.dK (plc pk s0 (k + 1)))) := same_mut s3 hpl
      have hpl4 := upd_same (H := H3) (a := pl) (o := .dK (plc pk s0 (k + 1)))
      have hzs4 := dpA_keep kq _ _ (noLs_map _ _ fun b _ => dI_noL b.1) hzs
      generalize upd H3 pl (.dK (plc pk s0 (k + 1))) = H4 at hL4 s4 hpl4 hzs4
      obtain ⟨v, hv, hdv⟩ := kd.val _ (sgs_in to h0 k)
      have hdv := dp_same s4 _ _ hdv
      obtain ⟨pb, x0, x1, rfl, hpb, hd0, hd1⟩ := br_at hdv
      refine ⟨_, rfl, _, rfl, d, _, rfl, by rw [← hv]; exact DGet.k (k := .inl ((sqs pk s0 k : Nat) : Int)) (s4 _ _ hd), ?_⟩
      refine ⟨pb, _, rfl, hpb, rfl, _, _, rfl, _, _, rfl, _, _, rfl, rfl, ?_⟩
      have kL := keepT_nt (o := .lst (zs ++ [x0])) (nt_lst _) hL4
      refine ⟨_, rfl, .inl ⟨rfl, _, SqL.of hL4⟩, _, rfl, L, zs, _, rfl, rfl, hL4, line6 (by omega), some x0, some x1, zs ++ [x0], rfl, same_mut s4 hL0, ?_, upd_same, ?_, ?_⟩
      · rw [upd_ne plL]
        exact hpl4
      · rw [sgs_succ, List.map_append, Nat.zero_add]
        exact dpA_snoc (dpA_keep kL _ _ (noLs_map _ _ fun b _ => dI_noL b.1) hzs4) (dp_keep kL _ _ (dI_noL _) hd0)
      · intro i j hi hj e
        by_cases hik : i = k
        · by_cases hjk : j = k
          · rw [hik, hjk]
          · rw [hik] at e
            exact absurd e.symm (hno j (by omega))
        · by_cases hjk : j = k
          · rw [hjk] at e
            exact absurd e (hno i (by omega))
          · exact dist i j (by omega) (by omega) e
end
end Mt
namespace Mt
open PySem PySem.Spec PyProof.Rows L2
theorem tgs_T (T : Chn) (s : Nat) : tgs (toG T) s = (rowOf T s).map (·.2.2) := toG_at T s
theorem rank_down {T : Chn} : ∀ {l : List Br} {s : Nat}, BOk T s l → 0 < ga (rk (toG T)) s → 0 < ga (rk (toG T)) (stA s l) ∧ ga (rk (toG T)) (stA s l) + l.length ≤ ga (rk (toG T)) s
  | [], s, _, h => ⟨h, Nat.le_refl _⟩
  | b :: r, s, ok, h => by
    obtain ⟨h1, h2⟩ := rk_sure h b.2.2 (by rw [tgs_T]; exact List.mem_map.mpr ⟨b, ok.1, rfl⟩)
    obtain ⟨h3, h4⟩ := rank_down ok.2 h1
    rw [stA_cons]
    refine ⟨h3, ?_⟩
    rw [List.length_cons]
    omega
/-- on a way round all ranks are 0 -/
theorem rank_round {T : Chn} {l : List Br} {s : Nat} (ok : BOk T s l) (e : stA s l = s) (ne : l ≠ []) : ga (rk (toG T)) s = 0 := by
  refine Classical.byContradiction fun h => ?_
  have := (rank_down ok (by omega)).2
  have := List.length_pos_iff.mpr ne
  rw [e] at *
  omega
/-- the first branch that goes on for ever -/
def onF (T : Chn) (b : Br) : Bool := decide (ga (rk (toG T)) b.2.2 = 0)
def pkT (T : Chn) (s : Nat) : Br := (((rowOf T s).filter (onF T))[0]?).getD ([], [], 0)
theorem pkT_at {T : Chn} {s : Nat} (hs : s < T.length) (h : ga (rk (toG T)) s = 0) : ((rowOf T s).filter (onF T))[0]? = some (pkT T s) ∧ pkT T s ∈ rowOf T s ∧ ga (rk (toG T)) (pkT T s).2.2 = 0 := by
  obtain ⟨t, ht, h0⟩ := rk_on (N := toG T) (by unfold toG; rw [List.length_map]; exact hs) h
  rw [tgs_T] at ht
  obtain ⟨b, hb, rfl⟩ := List.mem_map.mp ht
  have hm : b ∈ (rowOf T s).filter (onF T) := List.mem_filter.mpr ⟨hb, decide_eq_true h0⟩
  have e : ((rowOf T s).filter (onF T))[0]? = some (pkT T s) := by
    unfold pkT
    rw [List.getElem?_eq_getElem (List.length_pos_of_mem hm)]
    rfl
  obtain ⟨h1, h2⟩ := List.mem_filter.mp (List.mem_of_getElem? e)
  exact ⟨e, h1, of_decide_eq_true h2⟩
theorem addK_filter {ks : List Nat} {p : Nat → Bool} (nd : ks.Nodup) {j s : Nat} (h : ks[j]? = some s) (hp : p s = true) : addK ((ks.take j).filter p) s = (ks.take (j + 1)).filter p := by
  have e : ks.take (j + 1) = ks.take j ++ [s] := take_snoc h
  have no : s ∉ (ks.take j).filter p := fun m => by
    have nd2 : (ks.take (j + 1)).Nodup := nd.sublist (List.take_sublist _ _)
    rw [e] at nd2
    exact (List.nodup_append.mp nd2).2.2 s (List.mem_filter.mp m).1 s List.mem_cons_self rfl
  rw [e, List.filter_append, List.filter_cons_of_pos hp, List.filter_nil]
  exact if_neg no
def dT (T : Chn) : PyData := .list (T.map fun r => .list (r.map dBr))
/-- the way and the ring that are told -/
def RingIs (C T : Chn) (ks : List Nat) (l m : List Br) : Prop := ∃ (s0 a r : Nat) (l7 : List Br), s0 ∈ ks ∧ ga (rk (toG T)) s0 = 0 ∧ (∀ s ∈ ks, ga (rk (toG T)) s = 0 → s0 ≤ s) ∧ WayIs C s0 l7 ∧ 0 < r ∧ sqs (pkT T) s0 (a + r) = sqs (pkT T) s0 a ∧ (∀ i j, i < a + r → j < a + r → sqs (pkT T) s0 i = sqs (pkT T) s0 j → i = j) ∧
  l = l7 ++ sgs (pkT T) s0 0 a ∧ m = sgs (pkT T) s0 a r
theorem RingIs.uniq {C T : Chn} {ks ks' : List Nat} {l m l' m' : List Br} (same : ∀ s, s ∈ ks ↔ s ∈ ks') (h : RingIs C T ks l m) (h' : RingIs C T ks' l' m') : l = l' ∧ m = m' := by
  obtain ⟨s0, a, r, l7, i1, i2, i3, w, r0, e, d, rfl, rfl⟩ := h
  obtain ⟨s0', a', r', l7', j1, j2, j3, w', r0', e', d', rfl, rfl⟩ := h'
  obtain rfl : s0 = s0' := Nat.le_antisymm (i3 _ ((same _).mpr j1) j2) (j3 _ ((same _).mp i1) i2)
  obtain rfl := w.uniq w'
  obtain ⟨rfl, rfl⟩ := back_uniq r0 e d r0' e' d'
  exact ⟨rfl, rfl⟩
def spBestR (K : PySem.W.Frag) : Sp := fun vs H Q _ => ∃ (vr vt : V) (Ls : Addr) (b : Int) (C T : Chn) (ks : List Nat), vs = [vr, vt, .ref Ls] ∧ Dp K H vr (.tuple (C.map dRw)) ∧ ChnOk b C ∧ Dp K H vt (dT T) ∧ T.length = C.length ∧ SqL K H Ls (ks.map vN) ∧ Rch C ks ∧
  (∀ s, rowOf T s ⊆ rowOf C s) ∧ (∀ s, (rowOf T s).length ≤ 20) ∧ (∀ s, s ∉ ks → rowOf T s = []) ∧ (∀ s ∈ ks, ∃ l, BOk C 0 l ∧ stA 0 l = s) ∧ (∃ s l, s ∈ ks ∧ BOk T s l ∧ stA s l = s ∧ l ≠ []) ∧
  ∀ H' v (l m : List Br), Same H H' → Dp K H' v (.tuple [dWs (l.map (·.1)), dWs (m.map (·.1))]) → BOk C 0 l → stA 0 l ∈ ks → BOk T (stA 0 l) m → stA (stA 0 l) m = stA 0 l → m ≠ [] → l.length ≤ 100 → m.length ≤ 50 → RingIs C T ks l m → Q v H'
theorem BOk.sub {C T : Chn} (h : ∀ s, rowOf T s ⊆ rowOf C s) : ∀ {l : List Br} {s : Nat}, BOk T s l → BOk C s l
  | [], _, _ => trivial
  | b :: r, s, o => ⟨h s o.1, BOk.sub h o.2⟩
section
variable {P : Program} {w : World} {K : PySem.W.Frag} {mg : Str → Option Value} {base : Heap}
set_option maxHeartbeats 1000000 in
theorem ok_best_ring (T : Txt K mg) (D_longest : Kept P w K mg base 1 "longest" ["nexts"] (spLong K)) (D_ring_of : Kept P w K mg base 1 "ring_of" ["picked", "state"] (spRing K)) (D_way_to : Kept P w K mg base 2 "way_to" ["rows", "goal"] (spWayTo K)) {f : Addr} {fd : FuncData} (F : FnP K "best_ring" s_best_ring f fd) : FnOk P w K mg base CX0 3 f fd ["rows", "tight", "states"] (spBestR K) := by
  refine F.ok sc_best_ring (fun vs H Q E h => ?_) (fun cdv A outer s H vs Q E hr h => ?_)
  · obtain ⟨vr, vt, Ls, b, C, Tt, ks, rfl, _⟩ := h
    rfl
  · obtain ⟨vr, vt, Ls, b, C, Tt, ks, rfl, hR, ok, hT, tl, hLs, rc, sub, r20, out, reach, ⟨c0, lc0, cm, cw, ce, cn⟩, q⟩ := h
    refine ⟨_, PSs.nox (pss_cons (ps_set (i := 3) sc_best_ring.nd rfl (Or.inr rfl) (pe_d D_longest (hr.mono (by decide)) (by rfl) (pa_cons (pe_lc (own := [("row", 5)]) (g := (gName 5)) (tt := tYes) rfl sc_best_ring.nd (pi_list (pv 1)) (blkOk_by (N := N_best_ring) (sc := defScope s_best_ring) (by decide +kernel)) (fun _ _ _ _ _ => (pg_name (i := 5) sc_best_ring.nd rfl (Or.inl rfl))) (fun _ _ _ _ _ => pts_nil) (fun _ _ _ _ _ => (pe_lc (own := [("branch", 4)]) (g := (gName 4)) (tt := tYes) rfl sc_best_ring.nd (piLK (K := K) rfl (pv 5)) (blkOk_by (N := N_best_ring) (sc := cs_w2) (by decide +kernel)) (fun _ _ _ _ _ => (pg_name (i := 4) sc_best_ring.nd rfl (Or.inl rfl))) (fun _ _ _ _ _ => pts_nil) (fun _ _ _ _ _ => (pe_ix (ixT (K := K) rfl) (pv 4) pe_int (fun _ _ => rfl)))))) pa_nil)))
      (pss_cons (ps_set (i := 6) sc_best_ring.nd rfl (Or.inl rfl) pe_dnewK)
      (pss_cons (ps_for PassesOwn.never rfl (pi_list (pv 2)) (pg_name (i := 7) sc_best_ring.nd rfl (Or.inl rfl)) (pss_one (ps_if (pt_cmpR op_eq (pe_ix ix_list (pv 3) (pv 7) (fun _ _ => rfl)) pe_int (nomark _)) (pss_one (ps_asg (pe_ix ix_list (pe_lc (own := [("branch", 4)]) (g := (gName 4)) rfl sc_best_ring.nd (pi_list (pe_ix ix_list (pv 1) (pv 7) (fun _ _ => rfl))) (blkOk_by (N := N_best_ring) (sc := defScope s_best_ring) (by decide +kernel)) (fun _ _ _ _ _ => (pg_name (i := 4) sc_best_ring.nd rfl (Or.inl rfl))) (fun _ _ _ _ _ => (pts_one (pt_cmpR op_eq (pe_ix (ixL (K := K) rfl) (pv 3) (pe_ix (ixT (K := K) rfl) (pv 4) pe_int (fun _ _ => rfl)) (fun _ _ => rfl)) pe_int (nomark _)))) (fun _ _ _ _ _ => (pv 4))) pe_int (fun _ _ => rfl)) (pg_sub (pv 6) (pv 7) (set_dict (hu_of hr))))) pss_nil)))
      (pss_cons (ps_set (i := 8) sc_best_ring.nd rfl (Or.inl rfl) (pe_callB (cr_min rfl) (by rfl) T.b_min (by decide +kernel) (pa_cons (pe_callTy (call_list_dK rfl) (by rfl) T.b_list (by decide +kernel) (pa_cons (pv 6) pa_nil)) pa_nil)))
      (pss_cons (ps_asg (pe_d D_ring_of (hr.mono (by decide)) (by rfl) (pa_cons (pv 6) (pa_cons (pv 8) pa_nil))) (pg_tup rfl (pgs_cons (pg_name (i := 9) sc_best_ring.nd rfl (Or.inl rfl)) (pgs_cons (pg_name (i := 10) sc_best_ring.nd rfl (Or.inl rfl)) pgs_nil))))
      (pss_one (ps_ret (pe_tup (pa_cons (pe_tup (pa_starK (K := K) rfl (pe_d D_way_to (hr.mono (by decide)) (by rfl) (pa_cons (pv 0) (pa_cons (pv 8) pa_nil))) (pa_starK (K := K) rfl (pv 9) pa_nil))) (pa_cons (pv 10) pa_nil)))))))))), ?_⟩
    have few := ok.few
    have pos := ok.pos
    obtain ⟨pT, xs, rfl, hpT, hA⟩ := dp_lst hT
    have xl := dpA_len hA
    rw [List.length_map] at xl
    have tlt : ∀ r ∈ Tt, r.length ≤ 20 ∧ ∀ bb ∈ r, bb.2.2 < C.length := fun r hr => by
      obtain ⟨s, hs, e⟩ := List.getElem_of_mem hr
      have er : rowOf Tt s = r := by
        unfold rowOf
        rw [List.getElem?_eq_getElem hs, e]
        rfl
      refine ⟨er ▸ r20 s, fun bb hb => ?_⟩
      have : bb ∈ rowOf C s := sub s (er ▸ hb)
      exact ((ok.row _ (List.mem_of_getElem? (rowOf_at (by omega)))).to bb this).1
    refine ⟨_, rfl, pT, rfl, ⟨_, hpT⟩, fun L hL => lc_list (K := K) (a := pT) (xs := xs) (fun i H' => Same H H' ∧ FL K L H' ((Tt.take i).map fun r => dTg (r.map (·.2.2)))) ⟨same_new hL, FL.nil hL⟩ (fun i H' _ e => same_l e.1 hpT) ?_ ?_⟩
    · rintro i x H1 hi ⟨s1, fl⟩
      obtain ⟨r, hr1, hx⟩ := dpA_mem hA hi
      have il := (List.getElem?_eq_some_iff.mp hr1).1
      obtain ⟨rl20, _⟩ := tlt r (List.mem_of_getElem? hr1)
      obtain ⟨pr, rs, rfl, hpr, hrs⟩ := dp_lst hx
      have rl := dpA_len hrs
      rw [List.length_map] at rl
      obtain ⟨zs, hL1, zl, _⟩ := id fl.d
      rw [List.length_map, List.length_take] at zl
      refine ⟨rfl, _, rfl, pr, rfl, ⟨_, same_l s1 hpr⟩, fun M hM => lc_list (K := K) (a := pr) (xs := rs) (fun j H' => Same H1 H' ∧ H' M = some (.lst ((r.take j).map fun b => vN b.2.2))) ⟨same_new hM, upd_same⟩ (fun j H' _ e => same_l (s1.trans e.1) hpr) ?_ ?_⟩
      · rintro j y H2 hj ⟨s2, hM2⟩
        obtain ⟨br, hbr, hy⟩ := dpA_mem hrs hj
        have jl := (List.getElem?_eq_some_iff.mp hbr).1
        obtain ⟨pb, x0', x1', rfl, hpb, hd0, hd1⟩ := br_at hy
        refine ⟨rfl, _, rfl, pb, _, _, _, rfl, rfl, same_t (s1.trans s2) hpb, atI_nat (j := 2) rfl, ?_⟩
        refine ⟨_, hM2, ?_, same_mut s2 hM, ?_⟩
        · rw [List.length_map, List.length_take]
          exact line6 (by omega)
        · rw [upd_same, take_snoc hbr, List.map_append]
          rfl
      · rintro H2 ⟨s2, hM2⟩
        rw [rl, List.take_length] at hM2
        have hL2 := s2 _ _ hL1
        refine ⟨zs, hL2, line6 (by omega), same_mut (s1.trans s2) hL, ?_⟩
        rw [take_snoc hr1, List.map_append]
        refine (fl.same s2).add hL2 fun o => ?_
        have nM : M ≠ L := (ne_of_none hL1 hM).symm
        show Dp K (upd H2 L o) (.ref M) (.list ((r.map (·.2.2)).map fun t : Nat => .int (t : Int)))
        refine .lst (SqL.of (by rw [upd_ne nM]; exact hM2)) (dpA_ofI (by rw [List.length_map, List.length_map, List.length_map]) fun k x d h3 h4 => ?_)
        rw [List.getElem?_map] at h3
        rw [List.getElem?_map, List.getElem?_map] at h4
        obtain ⟨bb, hbb, rfl⟩ := Option.map_eq_some_iff.mp h3
        rw [hbb] at h4
        cases h4
        exact .int _
    · rintro H1 ⟨s1, fl⟩
      rw [xl, List.take_length] at fl
      have dG1 : Dp K H1 (.ref L) (dNx (toG Tt)) := by
        have e : dNx (toG Tt) = .list (Tt.map fun r => dTg (r.map (·.2.2))) := by
          unfold dNx toG
          rw [List.map_map]
          rfl
        rw [e]
        exact fl.dp
      have gl2 : (toG Tt).length = C.length := by unfold toG; rw [List.length_map]; exact tl
      refine ⟨_, _, rfl, dG1, ⟨by rw [gl2]; omega, fun r hr => ?_⟩, fun H2 F s2 hF hF2 => ?_⟩
      · obtain ⟨r0, h0, rfl⟩ := List.mem_map.mp hr
        obtain ⟨h1, h2⟩ := tlt r0 h0
        refine ⟨by rw [List.length_map]; omega, fun t ht => ?_⟩
        obtain ⟨bb, hbb, rfl⟩ := List.mem_map.mp ht
        rw [gl2]
        exact h2 bb hbb
      · have s02 := s1.trans s2
        have rkl : (rk (toG Tt)).length = C.length := by
          show (fnd _ _).length = _
          rw [fnd_len, gl2]
        refine fun d hd => ?_
        have hdH : H d = none := s02.free hd
        have s3 := s02.trans (same_new (o := .dK []) hd)
        have hd3 := upd_same (H := H2) (a := d) (o := .dK [])
        have hF3 := same_new (o := .dK []) hd _ _ hF2
        generalize upd H2 d (.dK []) = H3 at s3 hd3 hF3
        refine ⟨_, rfl, Ls, rfl, ⟨_, same_l s3 hLs⟩, for_list (K := K) (a := Ls) (xs := ks.map vN) (fun i σ H' => ∃ (y7 : Option V) (kvs : List (L2.Key × V)), σ = [some vr, some (.ref pT), some (.ref Ls), some (.ref F), none, none, some (.ref d), y7, none, none, none] ∧ Same H H' ∧ H' F = some (.lst ((rk (toG Tt)).map vN)) ∧ H' d = some (.dK kvs) ∧ KD C.length kvs ((ks.take i).filter fun s => decide (ga (rk (toG Tt)) s = 0)) (fun s v => Dp K H' v (dBr (pkT Tt s)))) ⟨_, [], rfl, s3, hF3, hd3, KD.nil⟩ (fun i σ H' _ ⟨_, _, _, s, _⟩ => same_l s hLs) ?_ ?_⟩
        · rintro i x σ H4 hi ⟨y7, kvs, rfl, s4, hF4, hd4, kd⟩
          rw [List.getElem?_map] at hi
          obtain ⟨st, hst, rfl⟩ := Option.map_eq_some_iff.mp hi
          have stm := List.mem_of_getElem? hst
          have stn := rc.lt st stm
          refine ⟨_, rfl, _, rfl, F, _, _, _, rfl, rfl, SqL.of hF4, vN_at (by omega), ?_⟩
          have few4 := kd.few
          have kvl4 := kd.len
          refine ⟨rfl, _, rfl, ?_⟩
          by_cases c : ga (rk (toG Tt)) st = 0
          · refine ite2 (fun _ => ?_) (fun h => absurd (decide_eq_true (by rw [c]; rfl)) h)
            obtain ⟨p0, p1, p2⟩ := pkT_at (T := Tt) (by omega) c
            obtain ⟨xr, hxr, dr⟩ := dpA_get hA (rowOf_at (C := Tt) (s := st) (by omega))
            obtain ⟨pr, rs, rfl, hpr, hrs⟩ := dp_lst dr
            have rl := dpA_len hrs
            rw [List.length_map] at rl
            have rl20 := r20 st
            refine ⟨_, rfl, _, rfl, pT, _, _, _, rfl, rfl, same_l s4 hpT, atI_nat hxr, pr, rfl, ⟨_, same_l s4 hpr⟩, fun N hN => lc_list (K := K) (a := pr) (xs := rs) (fun j H' => Same H4 H' ∧ ∃ us, H' N = some (.lst us) ∧ DpAll K H' us ((((rowOf Tt st).take j).filter (onF Tt)).map dBr) ∧ us.length ≤ j) ⟨same_new hN, [], upd_same, .nil, Nat.le_refl _⟩ (fun j H' _ e => same_l (s4.trans e.1) hpr) ?_ ?_⟩
            · rintro j y H5 hj ⟨s5, us, hN5, hus, ul⟩
              obtain ⟨br, hbr, hy⟩ := dpA_mem (dpA_same (s4.trans s5) _ _ hrs) hj
              have jl := (List.getElem?_eq_some_iff.mp hbr).1
              have bto : br.2.2 < C.length := ((ok.row _ (List.mem_of_getElem? (rowOf_at stn))).to br (sub st (List.mem_of_getElem? hbr))).1
              obtain ⟨pb, x0, x1, rfl, hpb, hd0, hd1⟩ := br_at hy
              have ft : ((rowOf Tt st).take (j + 1)).filter (onF Tt) = ((rowOf Tt st).take j).filter (onF Tt) ++ [br].filter (onF Tt) := by
                rw [take_snoc hbr, List.filter_append]
              refine ⟨rfl, _, rfl, _, rfl, pb, _, _, _, rfl, rfl, hpb, atI_nat (j := 2) rfl, F, _, _, _, rfl, rfl, SqL.of (s5 _ _ hF4), vN_at (by omega), rfl, _, rfl, ?_⟩
              by_cases c2 : ga (rk (toG Tt)) br.2.2 = 0
              · refine ite2 (fun _ => ?_) (fun h => absurd (decide_eq_true (by rw [c2]; rfl)) h)
                refine ⟨_, rfl, us, hN5, line6 (by omega), same_mut s5 hN, us ++ [.ref pb], upd_same, ?_, by rw [List.length_append, List.length_singleton]; omega⟩
                have kM := keepT_nt (o := .lst (us ++ [.ref pb])) (nt_lst _) hN5
                rw [ft, List.filter_cons_of_pos (show onF Tt br = true from decide_eq_true c2), List.filter_nil, List.map_append]
                exact dpA_snoc (dpA_keep kM _ _ (noLs_br _) hus) (dp_keep kM _ _ (dBr_noL _) hy)
              · refine ite2 (fun h => absurd (V.int.inj (of_decide_eq_true h)) (by omega)) (fun _ => ?_)
                refine ⟨s5, us, hN5, ?_, by omega⟩
                rw [ft, List.filter_cons_of_neg (show ¬ onF Tt br = true from fun z => c2 (of_decide_eq_true z)), List.filter_nil, List.append_nil]
                exact hus
            · rintro H5 ⟨s5, us, hN5, hus, ul⟩
              rw [rl, List.take_length] at hus
              obtain ⟨x, hx0, hx⟩ := dpA_get hus p0
              have hd5 := s5 _ _ hd4
              refine ⟨N, us, _, _, rfl, rfl, SqL.of hN5, atI_nat (j := 0) hx0, ?_⟩
              refine ⟨_, rfl, _, rfl, d, _, rfl, DPut.k (k := kS st) hd5 (line6 (by omega)), ?_⟩
              have kd6 := keepT_nt (o := .dK (putK kvs (kS st) x)) (nt_dk _) hd5
              have Fd : F ≠ d := fun z => by
                rw [z, hd4] at hF4
                cases hF4
              refine ⟨_, _, rfl, same_mut (s4.trans s5) hdH, by rw [upd_ne Fd]; exact s5 _ _ hF4, upd_same, ?_⟩
              rw [← addK_filter rc.nd hst (decide_eq_true c)]
              exact (kd.mono (R' := fun s v => Dp K (upd H5 d (.dK (putK kvs (kS st) x))) v (dBr (pkT Tt s))) fun s v _ h => dp_keep kd6 _ _ (dBr_noL _) (dp_same s5 _ _ h)).put stn (dp_keep kd6 _ _ (dBr_noL _) hx)
          · refine ite2 (fun h => absurd (V.int.inj (of_decide_eq_true h)) (by omega)) (fun _ => ?_)
            refine ⟨_, kvs, rfl, s4, hF4, hd4, ?_⟩
            rw [take_snoc hst, List.filter_append, List.filter_cons_of_neg (by simpa using c), List.filter_nil, List.append_nil]
            exact kd
        · rintro σ H4 ⟨y7, kvs, rfl, s4, hF4, hd4, kd⟩
          rw [List.length_map, List.take_length] at kd
          have zin : ∀ s, s ∈ ks.filter (fun s => decide (ga (rk (toG Tt)) s = 0)) ↔ s ∈ ks ∧ ga (rk (toG Tt)) s = 0 := fun s => by
            rw [List.mem_filter]
            exact ⟨fun h => ⟨h.1, of_decide_eq_true h.2⟩, fun h => ⟨h.1, decide_eq_true h.2⟩⟩
          have c0z := (zin c0).mpr ⟨cm, rank_round cw ce cn⟩
          generalize ks.filter (fun s => decide (ga (rk (toG Tt)) s = 0)) = as at kd zin c0z
          have asl := kd.few
          have kvl := kd.len
          have pin : ∀ s ∈ as, pkT Tt s ∈ rowOf Tt s ∧ (pkT Tt s).2.2 ∈ as := fun s hs => by
            obtain ⟨h1, h2⟩ := (zin s).mp hs
            obtain ⟨p0, p1, p2⟩ := pkT_at (T := Tt) (by have := rc.lt s h1; omega) h2
            exact ⟨p1, (zin _).mpr ⟨rc.on s h1 _ (sub s p1), p2⟩⟩
          refine ⟨_, rfl, d, kvs, rfl, hd4, fun L2 hL2 => ?_⟩
          rw [kd.vals]
          have s5 := s4.trans (same_new (o := .lst (as.map vN)) hL2)
          have hd5 := same_new (o := .lst (as.map vN)) hL2 _ _ hd4
          have hL25 := upd_same (H := H4) (a := L2) (o := .lst (as.map vN))
          have kd5 := kd.mono (R' := fun s v => Dp K (upd H4 L2 (.lst (as.map vN))) v (dBr (pkT Tt s))) fun s v _ h => dp_same (same_new hL2) _ _ h
          generalize upd H4 L2 (.lst (as.map vN)) = H5 at s5 hd5 hL25 kd5
          have em : as.map vN = (as.map fun k : Nat => (k : Int)).map V.int := by
            rw [List.map_map]
            rfl
          rw [em] at hL25
          refine ⟨L2, _, rfl, SqL.of hL25, by rw [List.length_map]; exact List.length_pos_of_mem c0z, fun m hm mn => ?_⟩
          obtain ⟨s0, hs0, rfl⟩ := List.mem_map.mp hm
          have s0k := (zin s0).mp hs0
          refine ⟨_, rfl, _, rfl, d, C.length, as, pkT Tt, s0, kvs, rfl, few, hs0, fun s hs => (pin s hs).2, hd5, kd5, fun H6 v a r s6 r0 ar er dist hv => ?_⟩
          obtain ⟨pv, ws, rfl, hpv, hws⟩ := dp_tup hv
          obtain ⟨wv, ws1, rfl, hwv, hws1⟩ := dpA_cons hws
          obtain ⟨gv, ws2, rfl, hgv, hws2⟩ := dpA_cons hws1
          obtain rfl := dpA_nil hws2
          obtain ⟨pw, wz, rfl, hpw, hwz⟩ := dp_tup hwv
          have wl := dpA_len hwz
          rw [List.length_map, sgs_len] at wl
          have s06 := s5.trans s6
          have s0l := rc.lt s0 s0k.1
          refine ⟨pv, _, rfl, hpv, rfl, _, _, rfl, _, _, rfl, rfl, ?_⟩
          refine ⟨_, rfl, _, rfl, vr, s0, b, C, rfl, dp_same s06 _ _ hR, ok, s0l, reach s0 s0k.1, fun H7 v7 l7 s7 d7 ok7 e7 l7l way7 => ?_⟩
          obtain ⟨p7, zs7, rfl, hp7, hz7⟩ := dp_tup d7
          have z7l := dpA_len hz7
          rw [List.length_map, List.length_map] at z7l
          have hwz7 := dpA_same s7 _ _ hwz
          have hgv7 := dp_same s7 _ _ hgv
          refine ⟨p7, zs7, rfl, .inl hp7, _, rfl, pw, wz, rfl, .inl (same_t s7 hpw), ?_⟩
          refine ⟨(by
            show (zs7 ++ (wz ++ [])).length ≤ sizeLine
            rw [List.append_nil, List.length_append]
            exact line5 (by omega)), fun p8 hp8 => ⟨_, rfl, z2, fun p9 hp9 => ?_⟩⟩
          have ew : zs7 ++ (wz ++ []) = zs7 ++ wz := by rw [List.append_nil]
          have s8 := same_new (o := .tup (zs7 ++ (wz ++ []))) hp8
          have hp88 := upd_same (H := H7) (a := p8) (o := .tup (zs7 ++ (wz ++ [])))
          generalize upd H7 p8 (.tup (zs7 ++ (wz ++ []))) = H8 at s8 hp88 hp9
          rw [ew] at hp88
          have s9 := same_new (o := .tup [.ref p8, gv]) hp9
          have w1 := sgs_walk (C := C) (pk := pkT Tt) (fun s hs => (pin s hs).2) (fun s hs => sub s (pin s hs).1) hs0 0 a
          have w2 := sgs_walk (C := Tt) (pk := pkT Tt) (fun s hs => (pin s hs).2) (fun s hs => (pin s hs).1) hs0 a r
          rw [Nat.zero_add] at w1
          have el : stA 0 (l7 ++ sgs (pkT Tt) s0 0 a) = sqs (pkT Tt) s0 a := by
            rw [stA_app, e7]
            exact w1.2
          have sin := sgs_in (fun s hs => (pin s hs).2) hs0 a
          refine q _ _ (l7 ++ sgs (pkT Tt) s0 0 a) (sgs (pkT Tt) s0 a r) (s06.trans (s7.trans (s8.trans s9))) ?_ ((BOk_app _ _ _).mpr ⟨ok7, by rw [e7]; exact w1.1⟩) (by rw [el]; exact ((zin _).mp sin).1) (by rw [el]; exact w2.1) (by rw [el, w2.2, er]) (fun z => ?_) (by rw [List.length_append, sgs_len]; omega) (by rw [sgs_len]; omega) ⟨s0, a, r, l7, s0k.1, s0k.2, fun s hs h0 => (by have := mn (s : Int) (List.mem_map.mpr ⟨s, (zin s).mpr ⟨hs, h0⟩, rfl⟩); omega), way7, r0, er, dist, rfl, rfl⟩
          · have s89 := s8.trans s9
            have m1 : DpAll K (upd H8 p9 (.tup [.ref p8, gv])) (zs7 ++ wz) (((l7 ++ sgs (pkT Tt) s0 0 a).map (·.1)).map dI) := by
              rw [List.map_append, List.map_append, List.map_map (l := sgs (pkT Tt) s0 0 a)]
              exact dpA_app (dpA_same s89 _ _ hz7) (dpA_same s89 _ _ hwz7)
            have m2 : Dp K (upd H8 p9 (.tup [.ref p8, gv])) gv (dWs ((sgs (pkT Tt) s0 a r).map (·.1))) := by
              have e : dWs ((sgs (pkT Tt) s0 a r).map (·.1)) = dWd (sgs (pkT Tt) s0 a r) := by
                unfold dWs dWd
                rw [List.map_map]
                rfl
              rw [e]
              exact dp_same s89 _ _ hgv7
            exact .tup (SqT.of upd_same) (.cons (.tup (SqT.of (s9 _ _ hp88)) m1) (.cons m2 .nil))
          · have := congrArg List.length z
            rw [sgs_len] at this
            have : r = 0 := this
            omega
end
end Mt
/-! ### enumerate(zip(a tuple, a list)): the zip's own pairs stay with the enumerate -/
namespace EZ
open PySem PySem.Spec PyProof.Rows
/-- a zip of two iterators, with what it remembers of the pair that it gave last -/
abbrev ZO (h : Heap) (z TI TO : Addr) (m : Value) (b : Bool) : Prop := h.get? z = some { cls := .type "zip", dict := none, data := .fields #[m, .bool b, .bool false, .ref TI, .ref TO], slots := #[] }
def Kn (m : Value) (b : Bool) : Prop := (m = .none ∧ b = false) ∨ ∃ T : Addr, m = rawInt T
section
variable {prog : Program} {w : World} {A : Around} {E : Value → Shared → Prop} {s : Shared} {z TI TO i1 i2 : Addr} {fp1 fp2 : List Addr} {n1 n2 i : Nat} {P1 P2 : Nat → Value → Prop} {St1 St2 : Nat → Heap → Prop} {m : Value} {b : Bool}
theorem alive_any {a : Addr} {Q : Option Obj → Shared → Prop} (h : Q (s.heap.get? a) s) : wpAny (model prog w) A (loadIfAlive a) Q E s := fun _ _ _ => h
theorem own_any {Q : Bool → Shared → Prop} (hZ : ZO s.heap z TI TO m b) (k : Kn m b) (q1 : Q true s) (q2 : ∀ g, ZO g z TI TO m true → Kn m true → Heap.SameBut z s.heap g → Q false { s with heap := g }) :
    wpAny (model prog w) A (Builtin.SmallTypes.ownedTupleIsFree (.ref z)) Q E s := by
  rcases k with ⟨rfl, rfl⟩ | ⟨T, rfl⟩
  · unfold Builtin.SmallTypes.ownedTupleIsFree
    exact wpAny_bind (wpAny_field hZ rfl (x := .none) rfl (wpAny_pure q1))
  · cases eT : s.heap.get? T with
    | some oT => exact wpAny_tupleHeld_zip (T := T) hZ eT fun g a => q2 g a (.inr ⟨T, rfl⟩)
    | none =>
      unfold Builtin.SmallTypes.ownedTupleIsFree
      refine wpAny_bind (wpAny_field hZ rfl (x := rawInt T) rfl ?_)
      show wpAny _ _ (loadIfAlive ((T : Int).toNat) >>= _) _ _ _
      rw [Int.toNat_natCast]
      refine wpAny_bind (alive_any (Q := _) ?_)
      rw [eT]
      exact wpAny_pure q1
/-- where a zip stands after i pairs -/
structure ZSt (St1 St2 : Nat → Heap → Prop) (z TI TO i1 i2 : Addr) (i : Nat) (h : Heap) : Prop where
  zz : ∃ m b, ZO h z TI TO m b ∧ Kn m b
  ti : IsTupOf2 h TI (.ref i1) (.ref i2)
  to : ∃ x y, IsTupOf2 h TO x y
  s1 : St1 i h
  s2 : St2 i h
theorem zip_item {Q : Value → Shared → Prop} (S : ZipSep2 z TI TO i1 i2 fp1 fp2) (D1 : Draws prog w A i1 fp1 n1 P1 St1) (D2 : Draws prog w A i2 fp2 n2 P2 St2) (hS : ZSt St1 St2 z TI TO i1 i2 i s.heap) (l1 : i < n1) (l2 : i < n2)
    (q : ∀ x y g tk, P1 i x → P2 i y → ZSt St1 St2 z TI TO i1 i2 (i + 1) g → IsTupOf2 g s.heap.objs.size x y → g.objs.size = s.heap.objs.size + 1 → (∀ c o, c ∉ [z, TO, i1, i2] → s.heap.get? c = some o → g.get? c = some o) → Q (.ref s.heap.objs.size) { s with heap := g, toks := tk }) :
    wpAny (model prog w) A (Builtin.«zip.__next__» ⟨[.ref z], []⟩) (fun fin t => ∃ v, fin = .done (.ret v) ∧ Q v t) E s := by
  obtain ⟨h0, gs, dr, t0, os⟩ := s
  obtain ⟨⟨m, b, hZ, kn⟩, hTI, ⟨a1, a2, hTO⟩, st1, st2⟩ := hS
  have un : ∀ {c : Addr}, c ∉ [z, TO, i1, i2] → c ≠ z ∧ c ≠ TO ∧ c ≠ i1 ∧ c ≠ i2 := fun h => by simpa using h
  show wpAny _ _ (field (.ref z) 2 >>= _) _ _ _
  refine wpAny_bind (wpAny_field hZ rfl (x := .bool false) rfl ?_)
  show wpAny _ _ (field (.ref z) 3 >>= _) _ _ _
  refine wpAny_bind (wpAny_field hZ rfl (x := .ref TI) rfl (wpAny_bind (wpAny_seqItems hTI rfl ?_)))
  show wpAny _ _ (Builtin.SmallTypes.ownedTupleIsFree (.ref z) >>= _) _ _ _
  refine wpAny_bind (own_any hZ kn ?_ fun h1 hZ1 kn' e1 => ?_)
  · -- the pair of its own is free
    simp only [if_true]
    refine wpAny_bind (wpAny_rule (wpAny_bind (wpAny_field hZ rfl (x := .ref TO) rfl ?_)))
    refine wpAny_bind (wpAny_setField_rec hZ (by simp) fun h1 hZ1 e1 => ?_)
    have hZ1 : ZO h1 z TI TO .ellipsis b := hZ1
    have e1 : Heap.SameBut z h0 h1 := e1
    refine wpAny_bind ?_
    simp only [List.zipIdx_cons, List.zipIdx_nil, List.forIn_cons, List.forIn_nil]
    refine wpAny_bind (wpAny_bind (wpAny_onRaise ?_))
    show wpAny _ _ (Builtin.SmallTypes.nextOf (.ref i1) >>= _) _ _ ⟨h1, gs, dr, t0, os⟩
    refine wpAny_bind (D1.item i _ _ _ l1 (D1.over st1 e1 S.zf1) fun x h2 t2 px r1 e2 => wpAny_pure ?_)
    have e2 : Heap.SameBut i1 h1 h2 := e2
    have o2 : IsTupOf2 h2 TO a1 a2 := e2.extBut _ _ S.Ti1 (e1.extBut _ _ S.TOz hTO)
    refine wpAny_bind (wpAny_seqItems (s := ⟨h2, gs, dr, t2, os⟩) o2 rfl (wpAny_bind (updateSeq_IsTupOf2 (s := ⟨h2, gs, dr, t2, os⟩) o2 fun h3 o3 e3 => ?_)))
    have o3 : IsTupOf2 h3 TO x a2 := o3
    have e3 : Heap.SameBut TO h2 h3 := e3
    refine wpAny_bind (wpAny_letGo (wpAny_pure (wpAny_bind (wpAny_bind (wpAny_onRaise ?_)))))
    show wpAny _ _ (Builtin.SmallTypes.nextOf (.ref i2) >>= _) _ _ ⟨h3, gs, dr, t2, os⟩
    refine wpAny_bind (D2.item i _ _ _ l2 (D2.over (D2.over (D2.over st2 e1 S.zf2) e2 S.sep1_2) e3 S.Tf2) fun y h4 t4 py r2 e4 => wpAny_pure ?_)
    have e4 : Heap.SameBut i2 h3 h4 := e4
    have o4 : IsTupOf2 h4 TO x a2 := e4.extBut _ _ S.Ti2 o3
    refine wpAny_bind (wpAny_seqItems (s := ⟨h4, gs, dr, t4, os⟩) o4 rfl (wpAny_bind (updateSeq_IsTupOf2 (s := ⟨h4, gs, dr, t4, os⟩) o4 fun h5 o5 e5 => ?_)))
    have o5 : IsTupOf2 h5 TO x y := o5
    have e5 : Heap.SameBut TO h4 h5 := e5
    refine wpAny_bind (wpAny_letGo (wpAny_pure (wpAny_pure ?_)))
    refine wpAny_bind (wpAny_seqItems (s := ⟨h5, gs, dr, t4, os⟩) o5 rfl (wpAny_bind (wpAny_newTuple ?_)))
    have sz : h5.objs.size = h0.objs.size := by rw [e5.1, e4.1, e3.1, e2.1, e1.1]
    have z5 : ZO h5 z TI TO .ellipsis b := e5.extBut _ _ S.TOz.symm (e4.extBut _ _ S.zi2 (e3.extBut _ _ S.TOz.symm (e2.extBut _ _ S.zi1 hZ1)))
    have zl : z < h5.objs.size := Heap.lt_size z5
    have all5 : ∀ c o, c ∉ [z, TO, i1, i2] → h0.get? c = some o → h5.get? c = some o := fun c o hc e => by
      obtain ⟨c1, c2, c3, c4⟩ := un hc
      exact e5.extBut _ _ c2 (e4.extBut _ _ c4 (e3.extBut _ _ c2 (e2.extBut _ _ c3 (e1.extBut _ _ c1 e))))
    have r15 : St1 (i + 1) h5 := D1.over (D1.over (D1.over r1 e3 S.Tf1) e4 S.sep2_1) e5 S.Tf1
    have r25 : St2 (i + 1) h5 := D2.over r2 e5 S.Tf2
    have z6 : ZO (h5.push { cls := .type "tuple", data := .seq #[x, y] }) z TI TO .ellipsis b := Heap.get?_push_of_some _ z5
    have p6 : IsTupOf2 (h5.push { cls := .type "tuple", data := .seq #[x, y] }) h5.objs.size x y := Heap.get?_push_size _ rfl
    have k6 : ∀ c o, h5.get? c = some o → (h5.push { cls := .type "tuple", data := .seq #[x, y] }).get? c = some o := fun c o e => Heap.get?_push_of_some _ e
    have n6 : (h5.push { cls := .type "tuple", data := .seq #[x, y] }).objs.size = h5.objs.size + 1 := Heap.size_push ..
    show wpAny _ _ (Builtin.SmallTypes.ownedTupleHandOut (.ref z) (.ref h5.objs.size) >>= _) _ _ ⟨h5.push { cls := .type "tuple", data := .seq #[x, y] }, gs, dr, t4, os⟩
    generalize h5.push { cls := .type "tuple", data := .seq #[x, y] } = h6 at z6 p6 k6 n6
    refine wpAny_bind ?_
    unfold Builtin.SmallTypes.ownedTupleHandOut
    refine wpAny_bind (wpAny_setField_rec z6 (by simp) fun h7 z7 e7 => ?_)
    have z7 : ZO h7 z TI TO (rawInt h5.objs.size) b := z7
    have e7 : Heap.SameBut z h6 h7 := e7
    refine wpAny_setField_rec z7 (by simp) fun h8 z8 e8 => wpAny_pure ⟨_, rfl, ?_⟩
    have z8 : ZO h8 z TI TO (rawInt h5.objs.size) false := z8
    have e8 : Heap.SameBut z h7 h8 := e8
    have k8 : ∀ c o, c ≠ z → h6.get? c = some o → h8.get? c = some o := fun c o cz e => e8.extBut _ _ cz (e7.extBut _ _ cz e)
    have p8 : IsTupOf2 h8 h5.objs.size x y := k8 _ _ (Nat.ne_of_gt zl) p6
    have n8 : h8.objs.size = h5.objs.size + 1 := by rw [e8.1, e7.1, n6]
    show Q (.ref h5.objs.size) ⟨h8, gs, dr, t4, os⟩
    have zT : TI ≠ TO := S.TITO
    have ti8 : IsTupOf2 h8 TI (.ref i1) (.ref i2) := k8 _ _ S.TIz (k6 _ _ (e5.extBut _ _ S.TITO (e4.extBut _ _ S.TIi2 (e3.extBut _ _ S.TITO (e2.extBut _ _ S.TIi1 (e1.extBut _ _ S.TIz hTI))))))
    have f1 : St1 (i + 1) h8 := D1.frame _ _ _ r15 fun c hc o e => k8 _ _ (fun q => S.zf1 (q ▸ hc)) (k6 _ _ e)
    have f2 : St2 (i + 1) h8 := D2.frame _ _ _ r25 fun c hc o e => k8 _ _ (fun q => S.zf2 (q ▸ hc)) (k6 _ _ e)
    have zs : ZSt St1 St2 z TI TO i1 i2 (i + 1) h8 := ⟨⟨_, _, z8, .inr ⟨_, rfl⟩⟩, ti8, ⟨x, y, k8 _ _ S.TOz (k6 _ _ o5)⟩, f1, f2⟩
    rw [sz] at p8 n8 ⊢
    exact q x y h8 t4 px py zs p8 n8 fun c o hc e => k8 _ _ (un hc).1 (k6 _ _ (all5 c o hc e))
  · -- it is still out
    simp only [Bool.false_eq_true, if_false]
    refine wpAny_bind ?_
    rw [← Array.forIn_toList]
    simp only [List.forIn_cons, List.forIn_nil]
    have e1 : Heap.SameBut z h0 h1 := e1
    refine wpAny_bind (wpAny_bind (wpAny_holding ?_))
    show wpAny _ _ (Builtin.SmallTypes.nextOf (.ref i1) >>= _) _ _ ⟨h1, gs, dr, t0, os⟩
    refine wpAny_bind (D1.item i _ _ _ l1 (D1.over st1 e1 S.zf1) fun x h2 t2 px r1 e2 => wpAny_pure (wpAny_pure (wpAny_bind (wpAny_bind (wpAny_holding ?_)))))
    have e2 : Heap.SameBut i1 h1 h2 := e2
    show wpAny _ _ (Builtin.SmallTypes.nextOf (.ref i2) >>= _) _ _ ⟨h2, gs, dr, t2, os⟩
    refine wpAny_bind (D2.item i _ _ _ l2 (D2.over (D2.over st2 e1 S.zf2) e2 S.sep1_2) fun y h3 t3 py r2 e3 => wpAny_pure (wpAny_pure (wpAny_pure ?_)))
    have e3 : Heap.SameBut i2 h2 h3 := e3
    show wpAny _ _ (newTuple [x, y] >>= _) _ _ ⟨h3, gs, dr, t3, os⟩
    refine wpAny_bind (wpAny_newTuple (wpAny_pure ⟨_, rfl, ?_⟩))
    show Q (.ref h3.objs.size) ⟨h3.push { cls := .type "tuple", data := .seq #[x, y] }, gs, dr, t3, os⟩
    have sz : h3.objs.size = h0.objs.size := by rw [e3.1, e2.1, e1.1]
    have z3 : ZO h3 z TI TO m true := e3.extBut _ _ S.zi2 (e2.extBut _ _ S.zi1 hZ1)
    have k3 : ∀ c o, c ≠ z → c ≠ i1 → c ≠ i2 → h0.get? c = some o → h3.get? c = some o := fun c o c1 c2 c3 e => e3.extBut _ _ c3 (e2.extBut _ _ c2 (e1.extBut _ _ c1 e))
    have k4 : ∀ c o, h3.get? c = some o → (h3.push { cls := .type "tuple", data := .seq #[x, y] }).get? c = some o := fun c o e => Heap.get?_push_of_some _ e
    have p4 : IsTupOf2 (h3.push { cls := .type "tuple", data := .seq #[x, y] }) h3.objs.size x y := Heap.get?_push_size _ rfl
    have n4 : (h3.push { cls := .type "tuple", data := .seq #[x, y] }).objs.size = h3.objs.size + 1 := Heap.size_push ..
    generalize h3.push { cls := .type "tuple", data := .seq #[x, y] } = h4 at k4 p4 n4
    have f1 : St1 (i + 1) h4 := D1.frame _ _ _ (D1.over r1 e3 S.sep2_1) fun c _ o e => k4 _ _ e
    have f2 : St2 (i + 1) h4 := D2.frame _ _ _ r2 fun c _ o e => k4 _ _ e
    have zs : ZSt St1 St2 z TI TO i1 i2 (i + 1) h4 := ⟨⟨_, _, k4 _ _ z3, kn'⟩, k4 _ _ (k3 _ _ S.TIz S.TIi1 S.TIi2 hTI), ⟨a1, a2, k4 _ _ (k3 _ _ S.TOz S.Ti1 S.Ti2 hTO)⟩, f1, f2⟩
    rw [sz] at p4 n4 ⊢
    exact q x y h4 t3 px py zs p4 n4 fun c o hc e => by
      obtain ⟨c1, c2, c3, c4⟩ := un hc
      exact k4 _ _ (k3 c o c1 c3 c4 e)
theorem zip_end {Q : Fin → Shared → Prop} (S : ZipSep2 z TI TO i1 i2 fp1 fp2) (D1 : Draws prog w A i1 fp1 n1 P1 St1) (D2 : Draws prog w A i2 fp2 n2 P2 St2) (hS : ZSt St1 St2 z TI TO i1 i2 i s.heap) (m1 : i ≤ n1) (m2 : i ≤ n2) (fin : i = n1 ∨ i = n2)
    (q : ∀ g tk x, (∀ c o, c ∉ [z, TO, i1, i2] → s.heap.get? c = some o → g.get? c = some o) → (∃ o, g.get? x = some o ∧ o.cls = .type "StopIteration") → E (.ref x) { s with heap := g, toks := tk }) :
    wpAny (model prog w) A (Builtin.«zip.__next__» ⟨[.ref z], []⟩) Q E s := by
  obtain ⟨h0, gs, dr, t0, os⟩ := s
  obtain ⟨⟨m, b, hZ, kn⟩, hTI, ⟨a1, a2, hTO⟩, st1, st2⟩ := hS
  have un : ∀ {c : Addr}, c ∉ [z, TO, i1, i2] → c ≠ z ∧ c ≠ TO ∧ c ≠ i1 ∧ c ≠ i2 := fun h => by simpa using h
  show wpAny _ _ (field (.ref z) 2 >>= _) _ _ _
  refine wpAny_bind (wpAny_field hZ rfl (x := .bool false) rfl ?_)
  show wpAny _ _ (field (.ref z) 3 >>= _) _ _ _
  refine wpAny_bind (wpAny_field hZ rfl (x := .ref TI) rfl (wpAny_bind (wpAny_seqItems hTI rfl ?_)))
  show wpAny _ _ (Builtin.SmallTypes.ownedTupleIsFree (.ref z) >>= _) _ _ _
  refine wpAny_bind (own_any hZ kn ?_ fun h1 hZ1 kn' e1 => ?_)
  · simp only [if_true]
    refine wpAny_bind (wpAny_rule (wpAny_bind (wpAny_field hZ rfl (x := .ref TO) rfl ?_)))
    refine wpAny_bind (wpAny_setField_rec hZ (by simp) fun h1 hZ1 e1 => ?_)
    have hZ1 : ZO h1 z TI TO .ellipsis b := hZ1
    have e1 : Heap.SameBut z h0 h1 := e1
    refine wpAny_bind ?_
    simp only [List.zipIdx_cons, List.zipIdx_nil, List.forIn_cons, List.forIn_nil]
    refine wpAny_bind (wpAny_bind (wpAny_onRaise ?_))
    show wpAny _ _ (Builtin.SmallTypes.nextOf (.ref i1) >>= _) _ _ ⟨h1, gs, dr, t0, os⟩
    have last : ∀ (hx : Heap) (tk : Nat) (x : Addr), ZO hx z TI TO .ellipsis b → (∀ c o, c ∉ [z, TO, i1, i2] → h0.get? c = some o → hx.get? c = some o) → (∃ o, hx.get? x = some o ∧ o.cls = .type "StopIteration") →
        wpAny (model prog w) A (setField (.ref z) 0 .none) (fun _ s' => E (.ref x) s') E ⟨hx, gs, dr, tk, os⟩ := fun hx tk x zx kx ⟨o, ho, hc⟩ => by
      have xz : x ≠ z := fun e => by
        subst e
        rw [zx] at ho
        cases ho
        simp at hc
      refine wpAny_setField_rec (s := ⟨hx, gs, dr, tk, os⟩) zx (by simp) fun h9 _ e9 => ?_
      have e9 : Heap.SameBut z hx h9 := e9
      exact q h9 tk x (fun c o c1 e => e9.extBut _ _ (un c1).1 (kx c o c1 e)) ⟨o, e9.extBut _ _ xz ho, hc⟩
    by_cases l1 : i < n1
    · have i2n : i = n2 := by omega
      refine wpAny_bind (D1.item i _ _ _ l1 (D1.over st1 e1 S.zf1) fun x h2 t2 px r1 e2 => wpAny_pure ?_)
      have e2 : Heap.SameBut i1 h1 h2 := e2
      have o2 : IsTupOf2 h2 TO a1 a2 := e2.extBut _ _ S.Ti1 (e1.extBut _ _ S.TOz hTO)
      refine wpAny_bind (wpAny_seqItems (s := ⟨h2, gs, dr, t2, os⟩) o2 rfl (wpAny_bind (updateSeq_IsTupOf2 (s := ⟨h2, gs, dr, t2, os⟩) o2 fun h3 o3 e3 => ?_)))
      have e3 : Heap.SameBut TO h2 h3 := e3
      refine wpAny_bind (wpAny_letGo (wpAny_pure (wpAny_bind (wpAny_bind (wpAny_onRaise ?_)))))
      show wpAny _ _ (Builtin.SmallTypes.nextOf (.ref i2) >>= _) _ _ ⟨h3, gs, dr, t2, os⟩
      refine wpAny_bind (D2.done ⟨h3, gs, dr, t2, os⟩ _ _ (by rw [← i2n]; exact D2.over (D2.over (D2.over st2 e1 S.zf2) e2 S.sep1_2) e3 S.Tf2) fun h4 x e4 hx => ?_)
      have e4 : Heap.ExtBut i2 h3 h4 := e4
      refine last h4 t2 x (e4 _ _ S.zi2 (e3.extBut _ _ S.TOz.symm (e2.extBut _ _ S.zi1 hZ1))) (fun c o hc e => ?_) hx
      obtain ⟨c1, c2, c3, c4⟩ := un hc
      exact e4 _ _ c4 (e3.extBut _ _ c2 (e2.extBut _ _ c3 (e1.extBut _ _ c1 e)))
    · have i1n : i = n1 := by omega
      refine wpAny_bind (D1.done ⟨h1, gs, dr, t0, os⟩ _ _ (by rw [← i1n]; exact D1.over st1 e1 S.zf1) fun h4 x e4 hx => ?_)
      have e4 : Heap.ExtBut i1 h1 h4 := e4
      refine last h4 t0 x (e4 _ _ S.zi1 hZ1) (fun c o hc e => ?_) hx
      obtain ⟨c1, c2, c3, c4⟩ := un hc
      exact e4 _ _ c3 (e1.extBut _ _ c1 e)
  · simp only [Bool.false_eq_true, if_false]
    refine wpAny_bind ?_
    rw [← Array.forIn_toList]
    simp only [List.forIn_cons, List.forIn_nil]
    have e1 : Heap.SameBut z h0 h1 := e1
    refine wpAny_bind (wpAny_bind (wpAny_holding ?_))
    show wpAny _ _ (Builtin.SmallTypes.nextOf (.ref i1) >>= _) _ _ ⟨h1, gs, dr, t0, os⟩
    by_cases l1 : i < n1
    · have i2n : i = n2 := by omega
      refine wpAny_bind (D1.item i _ _ _ l1 (D1.over st1 e1 S.zf1) fun x h2 t2 px r1 e2 => wpAny_pure (wpAny_pure (wpAny_bind (wpAny_bind (wpAny_holding ?_)))))
      have e2 : Heap.SameBut i1 h1 h2 := e2
      show wpAny _ _ (Builtin.SmallTypes.nextOf (.ref i2) >>= _) _ _ ⟨h2, gs, dr, t2, os⟩
      refine wpAny_bind (D2.done ⟨h2, gs, dr, t2, os⟩ _ _ (by rw [← i2n]; exact D2.over (D2.over st2 e1 S.zf2) e2 S.sep1_2) fun h4 x e4 hx => ?_)
      have e4 : Heap.ExtBut i2 h2 h4 := e4
      refine q h4 t2 x (fun c o hc e => ?_) hx
      obtain ⟨c1, c2, c3, c4⟩ := un hc
      exact e4 _ _ c4 (e2.extBut _ _ c3 (e1.extBut _ _ c1 e))
    · have i1n : i = n1 := by omega
      refine wpAny_bind (D1.done ⟨h1, gs, dr, t0, os⟩ _ _ (by rw [← i1n]; exact D1.over st1 e1 S.zf1) fun h4 x e4 hx => ?_)
      have e4 : Heap.ExtBut i1 h1 h4 := e4
      refine q h4 t0 x (fun c o hc e => ?_) hx
      obtain ⟨c1, c2, c3, c4⟩ := un hc
      exact e4 _ _ c3 (e1.extBut _ _ c1 e)
theorem next_item {Q : Value → Shared → Prop} (S : ZipSep2 z TI TO i1 i2 fp1 fp2) (D1 : Draws prog w A.in1 i1 fp1 n1 P1 St1) (D2 : Draws prog w A.in1 i2 fp2 n2 P2 St2) (hS : ZSt St1 St2 z TI TO i1 i2 i s.heap) (l1 : i < n1) (l2 : i < n2)
    (q : ∀ x y g tk, P1 i x → P2 i y → ZSt St1 St2 z TI TO i1 i2 (i + 1) g → IsTupOf2 g s.heap.objs.size x y → g.objs.size = s.heap.objs.size + 1 → (∀ c o, c ∉ [z, TO, i1, i2] → s.heap.get? c = some o → g.get? c = some o) → Q (.ref s.heap.objs.size) { s with heap := g, toks := tk }) :
    wpAny (model prog w) A (Builtin.SmallTypes.nextOf (.ref z)) Q E s := by
  obtain ⟨m, b, hZ, _⟩ := hS.zz
  have ty : s.TypeIs (.ref z) "zip" := ⟨_, hZ, rfl⟩
  unfold Builtin.SmallTypes.nextOf
  exact wpAny_bind (wpAny_callSpecial?_slot (name := Str.ofString "__next__") ty F.slot_zip_next (wpAny_call_entry F.slot_zip_next ty F.entry_zip_next (zip_item S D1 D2 hS l1 l2 fun x y g tk a1 a2 a3 a4 a5 a6 => wpAny_pure (q x y g tk a1 a2 a3 a4 a5 a6)) (F.args_zip_next_1 _)))
theorem next_end {Q : Value → Shared → Prop} (S : ZipSep2 z TI TO i1 i2 fp1 fp2) (D1 : Draws prog w A.in1 i1 fp1 n1 P1 St1) (D2 : Draws prog w A.in1 i2 fp2 n2 P2 St2) (hS : ZSt St1 St2 z TI TO i1 i2 i s.heap) (m1 : i ≤ n1) (m2 : i ≤ n2) (fin : i = n1 ∨ i = n2)
    (q : ∀ g tk x, (∀ c o, c ∉ [z, TO, i1, i2] → s.heap.get? c = some o → g.get? c = some o) → (∃ o, g.get? x = some o ∧ o.cls = .type "StopIteration") → E (.ref x) { s with heap := g, toks := tk }) :
    wpAny (model prog w) A (Builtin.SmallTypes.nextOf (.ref z)) Q E s := by
  obtain ⟨m, b, hZ, _⟩ := hS.zz
  have ty : s.TypeIs (.ref z) "zip" := ⟨_, hZ, rfl⟩
  unfold Builtin.SmallTypes.nextOf
  exact wpAny_bind (wpAny_callSpecial?_slot (name := Str.ofString "__next__") ty F.slot_zip_next (wpAny_call_entry F.slot_zip_next ty F.entry_zip_next (zip_end S D1 D2 hS m1 m2 fin q) (F.args_zip_next_1 _)))
/-- one more of an enumerate, told by what it draws from -/
theorem enum_item {e it : Addr} {c : Int} {old : Value} {R : Value → Heap → Prop} {Q : Value → Shared → Prop} (he : IsEnum s.heap e it c old)
    (draw : ∀ Q' : Value → Shared → Prop, (∀ x g tk, R x g → IsEnum g e it c old → Q' x { s with heap := g, toks := tk }) → wpAny (model prog w) A (Builtin.SmallTypes.nextOf (.ref it)) Q' E s)
    (q : ∀ x g g2 tk t2, R x g → IsEnumOut g2 e it (c + 1) x g.objs.size → g2.get? g.objs.size = some { cls := .type "tuple", data := .seq #[.int c tk, x] } → (∀ a o, a ≠ e → g.get? a = some o → g2.get? a = some o) → Q (.ref g.objs.size) { s with heap := g2, toks := t2 }) :
    wpAny (model prog w) A (Builtin.«enumerate.__next__» ⟨[.ref e], []⟩) (fun fin t => ∃ v, fin = .done (.ret v) ∧ Q v t) E s := by
  obtain ⟨h0, gs, dr, t0, os⟩ := s
  show wpAny _ _ (field (.ref e) 2 >>= _) _ _ _
  refine wpAny_bind (wpAny_field he rfl (x := .ref it) rfl (wpAny_bind (draw _ fun x h1 t1 rx en1 => ?_)))
  show wpAny _ _ (field (.ref e) 3 >>= _) _ _ ⟨h1, gs, dr, t1, os⟩
  refine wpAny_bind (wpAny_field en1 rfl (x := rawInt c) rfl ?_)
  show wpAny _ _ (field (.ref e) 4 >>= _) _ _ ⟨h1, gs, dr, t1, os⟩
  refine wpAny_bind (wpAny_field en1 rfl (x := .none) rfl ?_)
  show wpAny _ _ (mkInt c >>= _) _ _ ⟨h1, gs, dr, t1, os⟩
  refine wpAny_bind (wpAny_mkInt ?_)
  show wpAny _ _ (setField (.ref e) 3 (rawInt (c + 1)) >>= _) _ _ ⟨h1, gs, dr, t1 + 1, os⟩
  refine wpAny_bind (wpAny_setField_rec en1 (by simp) fun h2 en2 e2 => ?_)
  have en2 : IsEnum h2 e it (c + 1) old := en2
  have e2 : Heap.SameBut e h1 h2 := e2
  show wpAny _ _ (setField (.ref e) 4 .none >>= _) _ _ ⟨h2, gs, dr, t1 + 1, os⟩
  refine wpAny_bind (wpAny_setField_rec en2 (by simp) fun h3 en3 e3 => ?_)
  have en3 : IsEnum h3 e it (c + 1) old := en3
  have e3 : Heap.SameBut e h2 h3 := e3
  show wpAny _ _ (newTuple [.int c t1, x] >>= _) _ _ ⟨h3, gs, dr, t1 + 1, os⟩
  refine wpAny_bind (wpAny_newTuple ?_)
  have sz : h3.objs.size = h1.objs.size := by rw [e3.1, e2.1]
  have en4 : IsEnum (h3.push { cls := .type "tuple", data := .seq #[.int c t1, x] }) e it (c + 1) old := Heap.get?_push_of_some _ en3
  have el : e < h3.objs.size := Heap.lt_size en3
  have p4 : (h3.push { cls := .type "tuple", data := .seq #[.int c t1, x] }).get? h3.objs.size = some { cls := .type "tuple", data := .seq #[.int c t1, x] } := Heap.get?_push_size _ rfl
  have k4 : ∀ a o, a ≠ e → h1.get? a = some o → (h3.push { cls := .type "tuple", data := .seq #[.int c t1, x] }).get? a = some o := fun a o ne ea => Heap.get?_push_of_some _ (e3.extBut _ _ ne (e2.extBut _ _ ne ea))
  show wpAny _ _ (Builtin.SmallTypes.ownedTupleIsFree (.ref e) >>= _) _ _ ⟨h3.push { cls := .type "tuple", data := .seq #[.int c t1, x] }, gs, dr, t1 + 1, os⟩
  generalize h3.push { cls := .type "tuple", data := .seq #[.int c t1, x] } = h4 at en4 p4 k4
  refine wpAny_bind ?_
  unfold Builtin.SmallTypes.ownedTupleIsFree
  refine wpAny_bind (wpAny_field en4 rfl (x := .none) rfl (wpAny_pure ?_))
  simp only [if_true]
  refine wpAny_bind (wpAny_rule (wpAny_bind (wpAny_field en4 rfl (x := old) rfl (wpAny_bind (wpAny_setField_rec en4 (by simp) fun h5 en5 e5 => ?_)))))
  have en5 : IsEnum h5 e it (c + 1) x := en5
  have e5 : Heap.SameBut e h4 h5 := e5
  show wpAny _ _ (Builtin.SmallTypes.ownedTupleHandOut (.ref e) (.ref h3.objs.size) >>= _) _ _ ⟨h5, gs, dr, t1 + 1, os⟩
  refine wpAny_bind ?_
  unfold Builtin.SmallTypes.ownedTupleHandOut
  refine wpAny_bind (wpAny_setField_rec en5 (by simp) fun h6 en6 e6 => ?_)
  have en6 : IsEnumOut h6 e it (c + 1) x h3.objs.size := en6
  have e6 : Heap.SameBut e h5 h6 := e6
  refine wpAny_setField_rec en6 (by simp) fun h7 en7 e7 => ?_
  have en7 : IsEnumOut h7 e it (c + 1) x h3.objs.size := en7
  have e7 : Heap.SameBut e h6 h7 := e7
  have k7 : ∀ a o, a ≠ e → h4.get? a = some o → h7.get? a = some o := fun a o ne ea => e7.extBut _ _ ne (e6.extBut _ _ ne (e5.extBut _ _ ne ea))
  refine wpAny_bind (wpAny_letGo (wpAny_pure ⟨_, rfl, ?_⟩))
  have p7 := k7 _ _ (Nat.ne_of_gt el) p4
  show Q (.ref h3.objs.size) ⟨h7, gs, dr, t1 + 1, os⟩
  rw [sz] at en7 p7 ⊢
  exact q x h1 h7 t1 (t1 + 1) rx en7 p7 fun a o ne ea => k7 a o ne (k4 a o ne ea)
theorem py_item {e it : Addr} {c : Int} {old : Value} {R : Value → Heap → Prop} {Q : Option Value → Shared → Prop} (he : IsEnum s.heap e it c old)
    (draw : ∀ (Q' : Value → Shared → Prop) (E' : Value → Shared → Prop), (∀ x g tk, R x g → IsEnum g e it c old → Q' x { s with heap := g, toks := tk }) → wpAny (model prog w) A.in1 (Builtin.SmallTypes.nextOf (.ref it)) Q' E' s)
    (q : ∀ x g g2 tk t2, R x g → IsEnumOut g2 e it (c + 1) x g.objs.size → g2.get? g.objs.size = some { cls := .type "tuple", data := .seq #[.int c tk, x] } → (∀ a o, a ≠ e → g.get? a = some o → g2.get? a = some o) → Q (some (.ref g.objs.size)) { s with heap := g2, toks := t2 }) :
    wpAny (model prog w) A (pyNext (.ref e)) Q E s := by
  have ty : s.TypeIs (.ref e) "enumerate" := ⟨_, he, rfl⟩
  unfold pyNext
  exact wpAny_bind (wpAny_attempt (wpAny_callSpecial?_slot (name := Str.ofString "__next__") ty F.slot_enumerate_next (wpAny_call_entry F.slot_enumerate_next ty F.entry_enumerate_next (enum_item he (fun Q' => draw Q' _) fun x g g2 tk t2 a1 a2 a3 a4 => wpAny_pure (q x g g2 tk t2 a1 a2 a3 a4)) (F.args_enumerate_next_1 _))))
theorem py_end {e it : Addr} {c : Int} {old : Value} {ch : List Addr} {Q : Option Value → Shared → Prop} (he : IsEnum s.heap e it c old)
    (draw : ∀ (Q' : Value → Shared → Prop) (E' : Value → Shared → Prop), (∀ g tk x, (∀ a o, a ∉ ch → s.heap.get? a = some o → g.get? a = some o) → (∃ o, g.get? x = some o ∧ o.cls = .type "StopIteration") → E' (.ref x) { s with heap := g, toks := tk }) → wpAny (model prog w) A.in1 (Builtin.SmallTypes.nextOf (.ref it)) Q' E' s)
    (q : ∀ g tk, (∀ a o, a ∉ ch → s.heap.get? a = some o → g.get? a = some o) → Q none { s with heap := g, toks := tk }) : wpAny (model prog w) A (pyNext (.ref e)) Q E s := by
  have ty : s.TypeIs (.ref e) "enumerate" := ⟨_, he, rfl⟩
  unfold pyNext
  refine wpAny_bind (wpAny_attempt (wpAny_callSpecial?_slot (name := Str.ofString "__next__") ty F.slot_enumerate_next (wpAny_call_entry F.slot_enumerate_next ty F.entry_enumerate_next ?_ (F.args_enumerate_next_1 _))))
  show wpAny _ _ (field (.ref e) 2 >>= _) _ _ _
  refine wpAny_bind (wpAny_field he rfl (x := .ref it) rfl (wpAny_bind (draw _ _ fun g tk x k ⟨o, ho, hc⟩ => ?_)))
  exact wpAny_bind (wpAny_isInstance (T := "StopIteration") (b := true) ⟨o, ho, hc⟩ isSubtype_stop (wpAny_pure (q g tk k)))
/-- enumerate(a zip): iter gives the zip itself -/
theorem meets_new (z TI TO : Addr) :
    Meets (Builtin.«enumerate.__new__» ⟨[.type "enumerate", .ref z], []⟩) (fun _ R s => IsZip s.heap z TI TO .none ∧
      R (.ok (.ret (.ref s.heap.objs.size))) { s with heap := s.heap.push { cls := .type "enumerate", data := .fields #[.none, .bool false, .ref z, rawInt 0, .none, .none] } }) :=
  .of_wp fun prog w A R s h => by
    obtain ⟨h0, gs, dr, tk, os⟩ := s
    obtain ⟨hz, h⟩ := h
    have sb := sub_enumerate
    have zi : ∀ {A' : Around} {E : Value → Shared → Prop} {Q : Value → Shared → Prop}, Q (.ref z) ⟨h0, gs, dr, tk, os⟩ → wpAny (model prog w) A' (pyIter (.ref z)) Q E ⟨h0, gs, dr, tk, os⟩ := fun q => wpAny_pyIter_zip hz q
    wp_walk using zi
    refine wpAny_stack_any fun st => wpAny_pure ?_
    split
    · rename_i c _ _ _ _ _
      cases (c == Value.type "enumerate")
      · wp_walk using zi
        exact ⟨_, rfl, h⟩
      · wp_walk using zi
        exact ⟨_, rfl, h⟩
    · wp_walk using zi
      exact ⟨_, rfl, h⟩
theorem call_enum {z TI TO : Addr} {Q : Value → Shared → Prop} (hz : IsZip s.heap z TI TO .none)
    (q : ∀ g, IsEnum g s.heap.objs.size z 0 .none → (∀ c o, s.heap.get? c = some o → g.get? c = some o) → Q (.ref s.heap.objs.size) { s with heap := g }) : wpAny (model prog w) A (call (.type "enumerate") [.ref z]) Q E s := by
  refine callType_new F.called_enumerate (by decide) (F.typeCall_enumerate_1 _) (F.newCall_enumerate_1 _) (fun obj => F.args_object_init_2 obj _) F.entry_enumerate_new (meets_new z TI TO) ⟨hz, ?_⟩
  have en : IsEnum (s.heap.push { cls := .type "enumerate", data := .fields #[.none, .bool false, .ref z, rawInt 0, .none, .none] }) s.heap.objs.size z 0 .none := Heap.get?_push_size _ rfl
  exact ⟨⟨_, en, rfl⟩, q _ en fun c o e => Heap.get?_push_of_some _ e⟩
end
end EZ
namespace Mt
open PySem PySem.Spec PyProof.Rows L2
def ItEZ (K : PySem.W.Frag) (a b : Addr) : It where
  go i H := ∃ us ws : List V, (SqT K H a us ∧ SqL K H b ws) ∧ ∃ p q, us[i]? = some p ∧ ws[i]? = some q
  yld i H v H' := ∃ (N M : Addr) (p q : V), H N = none ∧ (upd H N (.tup [p, q])) M = none ∧ v = .ref M ∧ H' = upd (upd H N (.tup [p, q])) M (.tup [.int (i : Nat), .ref N]) ∧ (∀ us, SqT K H a us → us[i]? = some p) ∧ ∀ ws, SqL K H b ws → ws[i]? = some q
  stop i H := ∃ us ws : List V, (SqT K H a us ∧ SqL K H b ws) ∧ i ≤ us.length ∧ i ≤ ws.length ∧ (i = us.length ∨ i = ws.length)
abbrev SI (a i1 : Addr) : Nat → Heap → Prop := fun i h => h.IsTupleIter i1 a i
abbrev SJ (b i2 : Addr) : Nat → Heap → Prop := fun i h => h.IsListIter i2 b i
def stEZ (e z TI TO i1 i2 a b : Addr) (i : Nat) (h : Heap) : Prop := (∃ old, IsEnum h e z ((i : Nat) : Int) old) ∧ EZ.ZSt (SI a i1) (SJ b i2) z TI TO i1 i2 i h
theorem six {q : Nat → Prop} {e z TI TO i1 i2 : Nat} (h0 : q e) (h1 : q z) (h2 : q TI) (h3 : q TO) (h4 : q i1) (h5 : q i2) : ∀ c ∈ [e, z, TI, TO, i1, i2], q c := fun c hc => by
  rcases List.mem_cons.mp hc with rfl | hc
  · exact h0
  · exact five h1 h2 h3 h4 h5 c hc
theorem turn_EZ {P : Program} {w : World} {K : PySem.W.Frag} {elts : List Expr} {kk : Nat} {tpos : Pos} {a b e z TI TO i1 i2 : Addr} (S : ZipSep2 z TI TO i1 i2 [i1, a] [i2, b]) (ne : e ∉ [z, TI, TO, i1, i2]) :
    Turn P w K (.Tuple elts kk tpos) (ItEZ K a b) [e, z, TI, TO, i1, i2] e (stEZ e z TI TO i1 i2 a b) where
  mem := List.mem_cons_self
  obj i h st := by
    obtain ⟨⟨old, en⟩, ⟨m, b', r1, _⟩, r2, ⟨_, _, r3⟩, ⟨_, r4, _, d4⟩, _, r5, _, d5⟩ := st
    exact six (q := fun c => ∃ o, h.get? c = some o ∧ ∀ v, o.data ≠ .cell v) ⟨_, en, fun v => Data.noConfusion⟩ ⟨_, r1, fun v => Data.noConfusion⟩ ⟨_, r2, fun v => Data.noConfusion⟩ ⟨_, r3, fun v => Data.noConfusion⟩
      ⟨_, r4, fun v e => by rw [d4] at e; cases e⟩ ⟨_, r5, fun v e => by rw [d5] at e; cases e⟩
  keep i h h' st k := by
    obtain ⟨⟨old, en⟩, ⟨m, b', r1, r1'⟩, r2, ⟨_, _, r3⟩, r4, r5⟩ := st
    exact ⟨⟨old, k _ (by simp) _ en⟩, ⟨m, b', k _ (by simp) _ r1, r1'⟩, k _ (by simp) _ r2, ⟨_, _, k _ (by simp) _ r3⟩, r4.at fun _ => k _ (by simp) _, r5.at fun _ => k _ (by simp) _⟩
  self A i s Q E st q := by
    obtain ⟨⟨old, en⟩, _⟩ := st
    exact wpAny_pyIter_enum en q
  item X hP hw hK hc i pins s σ H E I hf st hg := by
    subst hP hw hK
    obtain ⟨us, ws, ⟨lu, tw⟩, p, q, hp, hq⟩ := hg
    obtain ⟨⟨old, en⟩, r1, r2, r3, r4, r5⟩ := st
    obtain ⟨ua, rvu, isl, _⟩ := I.tuple lu
    obtain ⟨wa, rvw, ist, _⟩ := I.list tw
    obtain ⟨pu, gu, ru⟩ := rvu.get hp
    obtain ⟨pw, gw, rw'⟩ := rvw.get hq
    have na : a ≠ i1 := fun e => by
      obtain ⟨_, e1, c1, _⟩ := r4
      obtain ⟨_, e2, c2, _⟩ := (id isl)
      rw [e, e1] at e2
      cases e2
      rw [c1] at c2
      simp at c2
    have nb : b ≠ i2 := fun e => by
      obtain ⟨_, e1, c1, _⟩ := r5
      obtain ⟨_, e2, c2, _⟩ := ist.isList
      rw [e, e1] at e2
      cases e2
      rw [c1] at c2
      simp at c2
    have bu : i < ua.toArray.size := (List.getElem?_eq_some_iff.mp gu).1
    have bw : i < wa.toArray.size := (List.getElem?_eq_some_iff.mp gw).1
    have calm : X.A.in1.in1.handled = none := I.ok.hd hc
    have ne' : e ∉ [z, TO, i1, i2] := fun h => ne (by
      rcases List.mem_cons.mp h with rfl | h
      · exact List.mem_cons_self
      · exact List.mem_cons_of_mem _ (List.mem_cons_of_mem _ h))
    have el : e < s.heap.objs.size := Heap.lt_size en
    refine EZ.py_item (R := fun x g => x = .ref s.heap.objs.size ∧ EZ.ZSt (SI a i1) (SJ b i2) z TI TO i1 i2 (i + 1) g ∧ IsTupOf2 g s.heap.objs.size pu pw ∧ g.objs.size = s.heap.objs.size + 1 ∧ ∀ c o, c ∉ [z, TO, i1, i2] → s.heap.get? c = some o → g.get? c = some o) en (fun Q' E' k => ?_) ?_
    · refine EZ.next_item S (Draws.tuple calm i1 a na ua.toArray) (Draws.list calm i2 b nb wa.toArray) ⟨r1, r2, r3, ⟨r4, isl⟩, ⟨r5, ist.isList⟩⟩ bu bw fun x1 x2 g tk e1 e2 zs pr n kp => ?_
      rw [show ua.toArray[i]? = some pu by simpa using gu] at e1
      rw [show wa.toArray[i]? = some pw by simpa using gw] at e2
      cases e1
      cases e2
      exact k _ g tk ⟨rfl, ⟨zs.zz, zs.ti, zs.to, zs.s1.1, zs.s2.1⟩, pr, n, kp⟩ (kp e _ ne' en)
    · rintro x g g2 tk t2 ⟨rfl, zs, pr, n, kp⟩ en2 p2 k2
      refine ⟨_, rfl, wpAny_letOwnedTupleGo_enum (s := { s with heap := g2, toks := t2 }) en2 fun g3 en3 sb => ?_⟩
      have sub4 : ∀ c ∈ [z, TO, i1, i2], c ∈ [e, z, TI, TO, i1, i2] := fun c h => by
        rcases List.mem_cons.mp h with rfl | h
        · exact List.mem_cons_of_mem _ List.mem_cons_self
        · exact List.mem_cons_of_mem _ (List.mem_cons_of_mem _ (List.mem_cons_of_mem _ h))
      have nw1 : ObjOk X.prog X.w (upd H s.heap.objs.size (.tup [p, q])) g s.heap.objs.size (.tup [p, q]) := ⟨(by decide : 2 ≤ sizeLine), [pu, pw], .cons ru (.cons rw' .nil), _, pr, rfl, _, rfl⟩
      have I1 := I.turnedNew (t' := t2) kp (fun c hc => hf c (sub4 c hc)) (Nat.le_refl _) nw1
      have H0 : H s.heap.objs.size = none := I.hok.fresh (Nat.le_refl _)
      have sbe : Heap.SameBut e g2 g3 := sb
      have ge : e < g.objs.size := Nat.lt_trans el (by rw [n]; exact Nat.lt_succ_self _)
      have hT3 : g3.get? g.objs.size = some { cls := .type "tuple", data := .seq #[.int ((i : Nat) : Int) tk, .ref s.heap.objs.size] } := sbe.extBut _ _ (Nat.ne_of_gt ge) p2
      have k3 : ∀ c o, c ∉ [e] → g.get? c = some o → g3.get? c = some o := fun c o hc ec => by
        have ce : c ≠ e := fun z => hc (by rw [z]; exact List.mem_cons_self)
        exact sbe.extBut _ _ ce (k2 _ _ ce ec)
      have nw2 : ObjOk X.prog X.w (upd (upd H s.heap.objs.size (.tup [p, q])) g.objs.size (.tup [.int (i : Nat), .ref s.heap.objs.size])) g3 g.objs.size (.tup [.int (i : Nat), .ref s.heap.objs.size]) :=
        ⟨(by decide : 2 ≤ sizeLine), [.int ((i : Nat) : Int) tk, .ref s.heap.objs.size], .cons ⟨_, rfl⟩ (.cons rfl .nil), _, hT3, rfl, _, rfl⟩
      have fe : FpOk X pins (upd H s.heap.objs.size (.tup [p, q])) e := by
        have := hf e List.mem_cons_self
        exact ⟨by rw [upd_ne (Nat.ne_of_lt el)]; exact this.1, this.2⟩
      have I2 := I1.turnedNew (t' := t2) (ch := [e]) k3 (fun c hc => by rw [List.mem_singleton.mp hc]; exact fe) (Nat.le_refl _) nw2
      have M0 : (upd H s.heap.objs.size (.tup [p, q])) g.objs.size = none := I1.hok.fresh (Nat.le_refl _)
      have lts : ∀ c ∈ [e, z, TI, TO, i1, i2], c < s.heap.objs.size := by
        obtain ⟨m, b', hz, _⟩ := r1
        obtain ⟨_, _, h3⟩ := r3
        obtain ⟨_, l4, _⟩ := r4
        obtain ⟨_, l5, _⟩ := r5
        exact six (q := (· < s.heap.objs.size)) el (Heap.lt_size hz) (Heap.lt_size r2) (Heap.lt_size h3) (Heap.lt_size l4) (Heap.lt_size l5)
      have apart : ∀ c ∈ [z, TI, TO, i1, i2], c ≠ e := fun c hc q => ne (q ▸ hc)
      refine ⟨.ref g.objs.size, _, I2, rfl, ⟨s.heap.objs.size, g.objs.size, p, q, H0, M0, rfl, rfl, fun us' h => I.tuple_inj lu h ▸ hp, fun ws' h => I.list_inj tw h ▸ hq⟩, ⟨⟨.ref s.heap.objs.size, ?_⟩, ?_⟩, fun c hcm => ?_⟩
      · have e1 : ((i + 1 : Nat) : Int) = (i : Int) + 1 := by omega
        rw [e1]
        exact en3
      · obtain ⟨⟨m, b', q1, q1'⟩, q2, ⟨_, _, q3⟩, q4, q5⟩ := zs
        have kk : ∀ c ∈ [z, TI, TO, i1, i2], ∀ o, g.get? c = some o → g3.get? c = some o := fun c hc o ec => k3 c o (fun h => apart c hc (List.mem_singleton.mp h)) ec
        exact ⟨⟨m, b', kk _ (by simp) _ q1, q1'⟩, kk _ (by simp) _ q2, ⟨_, _, kk _ (by simp) _ q3⟩, q4.at fun _ => kk _ (by simp) _, q5.at fun _ => kk _ (by simp) _⟩
      · have cl := lts c hcm
        rw [upd_ne (Nat.ne_of_lt (Nat.lt_trans cl (by rw [n]; exact Nat.lt_succ_self _))), upd_ne (Nat.ne_of_lt cl)]
        exact (hf c hcm).1
  done X hP hw hK hc i pins s σ H E I hf st hg := by
    subst hP hw hK
    obtain ⟨us, ws, ⟨lu, tw⟩, m1, m2, m3⟩ := hg
    obtain ⟨⟨old, en⟩, r1, r2, r3, r4, r5⟩ := st
    obtain ⟨ua, rvu, isl, _⟩ := I.tuple lu
    obtain ⟨wa, rvw, ist, _⟩ := I.list tw
    have calm : X.A.in1.in1.handled = none := I.ok.hd hc
    have na : a ≠ i1 := fun e => by
      obtain ⟨_, e1, c1, _⟩ := r4
      obtain ⟨_, e2, c2, _⟩ := (id isl)
      rw [e, e1] at e2
      cases e2
      rw [c1] at c2
      simp at c2
    have nb : b ≠ i2 := fun e => by
      obtain ⟨_, e1, c1, _⟩ := r5
      obtain ⟨_, e2, c2, _⟩ := ist.isList
      rw [e, e1] at e2
      cases e2
      rw [c1] at c2
      simp at c2
    have z1 : ua.toArray.size = us.length := by simpa using rvu.length.symm
    have z2 : wa.toArray.size = ws.length := by simpa using rvw.length.symm
    refine EZ.py_end (ch := [z, TO, i1, i2]) en (fun Q' E' k => EZ.next_end S (Draws.tuple calm i1 a na ua.toArray) (Draws.list calm i2 b nb wa.toArray) ⟨r1, r2, r3, ⟨r4, isl⟩, ⟨r5, ist.isList⟩⟩ (by rw [z1]; exact m1) (by rw [z2]; exact m2) (by rw [z1, z2]; exact m3) fun g tk x kp hx => k g tk x kp hx) fun g tk kp => ⟨rfl, ?_⟩
    have sub4 : ∀ c ∈ [z, TO, i1, i2], c ∈ [e, z, TI, TO, i1, i2] := fun c h => by
      rcases List.mem_cons.mp h with rfl | h
      · exact List.mem_cons_of_mem _ List.mem_cons_self
      · exact List.mem_cons_of_mem _ (List.mem_cons_of_mem _ (List.mem_cons_of_mem _ h))
    exact I.turnedL (t' := tk) kp fun c hc => hf c (sub4 c hc)
/-- iter(enumerate(zip(a tuple, a list))) -/
def iEZ (K : PySem.W.Frag) (ta : TA) : TI := fun σ H R => ta σ H fun vs H1 => ∃ (a b : Addr) (us ws : List V), vs = [.ref a, .ref b] ∧ (SqT K H1 a us ∧ SqL K H1 b ws) ∧ R (ItEZ K a b) H1
theorem pi_EZ {X : Cx} {x y : Expr} {ta : TA} {p p2 pos pos2 tpos : Pos} {elts : List Expr} {kk : Nat} (hge : Gl X "enumerate") (hme : X.mg "enumerate" = none) (hg : Gl X "zip") (hm : X.mg "zip" = none) (ha : L2.PA X [x, y] ta)
    (h1 : starEach [x, y] X.env = (false, eval x X.env) :: starEach [y] X.env := by rfl) (h2 : (backTo pos2 (starEach [y] X.env)).any (·.1) = false := by rfl)
    (na : starEach [.Call (.Name "zip" p2) [x, y] [] pos2] X.env = (false, eval (.Call (.Name "zip" p2) [x, y] [] pos2) X.env) :: starEach [] X.env := by rfl) :
    PI X (.Tuple elts kk tpos) (.Call (.Name "enumerate" p) [.Call (.Name "zip" p2) [x, y] [] pos2] [] pos) (iEZ X.K ta) where
  run pins s σ H R I h := by
    refine Call_ (ld_blt I hge hme boot_enumerate (PyProof.Rows.callWith_type1 (args_cons (Call_ (ld_blt I hg hm PyProof.Rows.boot_zip (PyProof.Rows.callWith_type1 (thn (ha.run pos2 pins s σ H _ I h) ?_) h1 h2))) na) na))
    rintro us s1 ⟨vs, H1, I1, rel, a, b, xs, ys, rfl, ⟨lu, tw⟩, go⟩
    obtain ⟨ua, _, isl, _⟩ := I1.tuple lu
    obtain ⟨wa, _, ist, _⟩ := I1.list tw
    obtain _ | ⟨ra, _ | ⟨rb, _ | _⟩⟩ := rel
    cases ra
    cases rb
    have la : a < s1.heap.objs.size := let ⟨_, e, _⟩ := isl; Heap.lt_size e
    refine zip_begins2 (begins_tuple a ua.toArray) (begins_list b wa.toArray) isl ist.isList fun g g1 g2 g3 g4 g5 g6 ke => ?_
    refine args_nil (EZ.call_enum g1 fun g' en k' => wpAny_pyIter_enum en ?_)
    have kk2 : ∀ c o, s1.heap.get? c = some o → g'.get? c = some o := fun c o e => k' c o (ke c o e)
    have lt : ∀ k : Nat, k < 6 → s1.heap.objs.size ≤ s1.heap.objs.size + k := fun _ _ => Nat.le_add_right _ _
    have new : ∀ k : Nat, FpOk X pins H1 (s1.heap.objs.size + k) := fun k => I1.fpOk (Nat.le_add_right _ _) (I1.hok.fresh (Nat.le_add_right _ _))
    have eg : g.objs.size = s1.heap.objs.size + 5 := g6
    refine ⟨g.objs.size, [g.objs.size, s1.heap.objs.size + 4, s1.heap.objs.size + 2, s1.heap.objs.size + 3, s1.heap.objs.size, s1.heap.objs.size + 1], _, _, H1, rfl, I1.kept (t' := s1.toks) kk2, turn_EZ (sepM la ist.lt) (by rw [eg]; simp), ⟨⟨_, en⟩, ⟨_, _, k' _ _ g1, .inl ⟨rfl, rfl⟩⟩, k' _ _ g2, ⟨_, _, k' _ _ g3⟩, ⟨_, k' _ _ g4, rfl, rfl⟩, ⟨_, k' _ _ g5, rfl, rfl⟩⟩, ?_, go⟩
    rw [eg]
    exact six (new 5) (new 4) (new 2) (new 3) (new 0) (new 1)
theorem walk_EZ {K : PySem.W.Frag} {a b : Addr} {us ws : List V} {n : Nat} (h1 : us.length = n) (h2 : ws.length = n) : Walk (ItEZ K a b) n (fun H => SqT K H a us ∧ SqL K H b ws) (fun i H v H' => ∃ (N M : Addr) (p q : V), H N = none ∧ (upd H N (.tup [p, q])) M = none ∧ v = .ref M ∧ H' = upd (upd H N (.tup [p, q])) M (.tup [.int (i : Nat), .ref N]) ∧ us[i]? = some p ∧ ws[i]? = some q) := by
  refine ⟨fun i H hi q => ?_, fun H q => ⟨us, ws, q, by omega, by omega, .inl h1.symm⟩, fun i H v H' _ q y => ?_⟩
  · exact ⟨us, ws, q, us[i], ws[i], List.getElem?_eq_getElem (by omega), List.getElem?_eq_getElem (by omega)⟩
  · obtain ⟨N, M, p, r, a1, a2, a3, a4, a5, a6⟩ := y
    exact ⟨N, M, p, r, a1, a2, a3, a4, a5 us q.1, a6 ws q.2⟩
end Mt
namespace Mt
open PySem PySem.Spec PyProof.Rows L2
theorem lenDK {X : Cx} : CallR X (.builtin "len") (fun xs H Q => ∃ a kvs, xs = [V.ref a] ∧ H a = some (.dK kvs) ∧ Q (.int kvs.length) H) := by
  intro pins s σ H vs us Q I r h
  obtain ⟨a, kvs, rfl, ha, q⟩ := h
  cases r with
  | cons ra rr =>
    cases rr
    cases ra
    exact d_len I (.inl ha) fun t s' I' => ⟨.int kvs.length, H, I', ⟨t, rfl⟩, q⟩
theorem vN_maps : ∀ {l l' : List Nat}, l.map vN = l'.map vN → l = l'
  | [], [], _ => rfl
  | [], _ :: _, h => by cases h
  | _ :: _, [], h => by cases h
  | a :: l, b :: l', h => by
    rw [List.map_cons, List.map_cons] at h
    have h1 := V.int.inj (List.cons.inj h).1
    rw [vN_maps (List.cons.inj h).2, show a = b by omega]
theorem FK.kd {n : Nat} {kvs : List (L2.Key × V)} {F : Nat → Option Nat} (h : FK n kvs F) : ∃ ks, KD n kvs ks (fun _ _ => True) ∧ ∀ s, s ∈ ks ↔ F s ≠ none := by
  obtain ⟨ps, h1, h2, h3⟩ := h.ks
  obtain ⟨ls, e, _, hm⟩ := h.keys
  have e2 : (kvs.map fun kv => kV kv.1) = ps.map vN := by
    rw [show (kvs.map fun kv => kV kv.1) = (kvs.map (·.1)).map kV by rw [List.map_map]; rfl, h1, List.map_map]
    rfl
  have e3 : ls = ps := vN_maps (show ls.map vN = ps.map vN from e.symm.trans e2)
  subst e3
  refine ⟨ls, ⟨h1, h2, h3, fun s hs => ?_⟩, hm⟩
  have hv := h.val s
  cases c : F s with
  | none => exact absurd c ((hm s).mp hs)
  | some k =>
    rw [c] at hv
    exact ⟨_, hv, trivial⟩
/-! ### the greatest pace of all ways round -/
theorem best_exists {G : Gr} {ks : List Nat} (c : Clo G ks) {B : Nat} (hB : ∀ s ∈ ks, ∀ e ∈ G s, e.1.natAbs ≤ B) (ex : ∃ s ∈ ks, ∃ r, WOk G s r ∧ wEnd s r = s ∧ 1 ≤ r.length ∧ r.length ≤ ks.length) :
    ∃ pace : F2, 0 < pace.2 ∧ BestP G ks pace (fun s m => s ∈ ks ∧ 1 ≤ m ∧ m ≤ ks.length) := by
  have key : ∀ L : List (Nat × Nat), (∀ p ∈ L, p.1 ∈ ks ∧ 1 ≤ p.2 ∧ p.2 ≤ ks.length) → (∀ p ∈ L, ∀ r, WOk G p.1 r → wEnd p.1 r = p.1 → r.length = p.2 → False) ∨ ∃ pace : F2, 0 < pace.2 ∧ BestP G ks pace (fun s m => (s, m) ∈ L) := fun L => by
    induction L with
    | nil => exact fun _ => .inl fun _ h => absurd h List.not_mem_nil
    | cons p L ih =>
      intro hL
      have ih := ih fun q hq => hL q (List.mem_cons_of_mem _ hq)
      obtain ⟨ps, p1, p2⟩ := hL p List.mem_cons_self
      by_cases some_ : ∃ r, WOk G p.1 r ∧ wEnd p.1 r = p.1 ∧ r.length = p.2
      · obtain ⟨r0, a1, a2, a3⟩ := some_
        obtain ⟨x, ⟨r, b1, b2, b3, b4⟩, mx⟩ := int_max (P := fun x => ∃ r, WOk G p.1 r ∧ wEnd p.1 r = p.1 ∧ r.length = p.2 ∧ wSum r = x) (B := ((B * p.2 : Nat) : Int)) (fun x ⟨r, h1, h2, h3, h4⟩ => by
          have := wSum_le c hB ps h1
          rw [h3, h4] at this
          omega) (((B * p.2 : Nat) : Int) - wSum r0).toNat ⟨r0, a1, a2, a3, rfl⟩ (by omega)
        have own : ∀ r', WOk G p.1 r' → wEnd p.1 r' = p.1 → r'.length = p.2 → wSum r' ≤ x := fun r' h1 h2 h3 => mx _ ⟨r', h1, h2, h3, rfl⟩
        have at1 : ∃ s ∈ ks, ∃ r, WOk G s r ∧ wEnd s r = s ∧ 1 ≤ r.length ∧ r.length ≤ ks.length ∧ wSum r * (p.2 : Int) = x * (r.length : Int) := ⟨p.1, ps, r, b1, b2, by omega, by omega, by rw [b4, b3]⟩
        rcases ih with no | ⟨pace, pp, bp⟩
        · refine .inr ⟨(x, (p.2 : Int)), by show (0 : Int) < (p.2 : Int); omega, at1, fun s m hd r' o e hl => ?_⟩
          rcases List.mem_cons.mp hd with rfl | hd
          · exact Int.mul_le_mul_of_nonneg_right (own r' o e hl) (by omega)
          · exact (no _ hd r' o e hl).elim
        · cases lt : lessB pace (x, (p.2 : Int)) with
          | true =>
            refine .inr ⟨(x, (p.2 : Int)), by show (0 : Int) < (p.2 : Int); omega, at1, fun s m hd r' o e hl => ?_⟩
            rcases List.mem_cons.mp hd with rfl | hd
            · exact Int.mul_le_mul_of_nonneg_right (own r' o e hl) (by omega)
            · exact bp.more pp (by show (0 : Int) < (p.2 : Int); omega) lt s m hd r' o e hl
          | false =>
            refine .inr ⟨pace, pp, bp.at_, fun s m hd r' o e hl => ?_⟩
            rcases List.mem_cons.mp hd with rfl | hd
            · have h1 : ¬ pace.1 * (m : Int) < x * pace.2 := of_decide_eq_false lt
              have h2 : wSum r' * pace.2 ≤ x * pace.2 := Int.mul_le_mul_of_nonneg_right (own r' o e hl) (by omega)
              omega
            · exact bp.top s m hd r' o e hl
      · rcases ih with no | ⟨pace, pp, bp⟩
        · refine .inl fun q hq r o e hl => ?_
          rcases List.mem_cons.mp hq with rfl | hq
          · exact some_ ⟨r, o, e, hl⟩
          · exact no q hq r o e hl
        · refine .inr ⟨pace, pp, bp.at_, fun s m hd r o e hl => ?_⟩
          rcases List.mem_cons.mp hd with rfl | hd
          · exact (some_ ⟨r, o, e, hl⟩).elim
          · exact bp.top s m hd r o e hl
  have inL : ∀ s m, (s, m) ∈ (ks.flatMap fun s => (List.range ks.length).map fun m => (s, m + 1)) ↔ s ∈ ks ∧ 1 ≤ m ∧ m ≤ ks.length := fun s m => by
    rw [List.mem_flatMap]
    constructor
    · rintro ⟨u, hu, h⟩
      obtain ⟨k, hk, e⟩ := List.mem_map.mp h
      have := List.mem_range.mp hk
      injection e with e1 e2
      subst e1
      subst e2
      exact ⟨hu, by omega, by omega⟩
    · rintro ⟨h1, h2, h3⟩
      exact ⟨s, h1, List.mem_map.mpr ⟨m - 1, List.mem_range.mpr (by omega), by rw [Nat.sub_add_cancel h2]⟩⟩
  rcases key (ks.flatMap fun s => (List.range ks.length).map fun m => (s, m + 1)) fun p hp => (inL p.1 p.2).mp hp with no | ⟨pace, pp, bp⟩
  · obtain ⟨s, hs, r, r1, r2, r3, r4⟩ := ex
    exact (no (s, r.length) ((inL _ _).mpr ⟨hs, r3, r4⟩) r r1 r2 rfl).elim
  · exact ⟨pace, pp, bp.at_, fun s m hd => bp.top s m ((inL _ _).mpr hd)⟩
theorem spr_scale {a b c d : Int} (e : c * b = a * d) (r : List (Int × Nat)) : b * spr c d r = d * spr a b r := by
  unfold spr
  rw [Int.mul_sub, Int.mul_sub, ← Int.mul_assoc, ← Int.mul_assoc, ← Int.mul_assoc, ← Int.mul_assoc, Int.mul_comm b c, e, Int.mul_comm b d, Int.mul_comm a d]
theorem NoMore.scale {G : Gr} {ks : List Nat} {a b c d : Int} (hb : 0 < b) (hd : 0 < d) (e : c * b = a * d) (h : NoMore G ks a b) : NoMore G ks c d := fun v hv r o er hl => by
  have h1 := h v hv r o er hl
  have h2 : d * spr a b r ≤ d * 0 := Int.mul_le_mul_of_nonneg_left h1 (by omega)
  rw [← spr_scale e r, Int.mul_zero, ← Int.mul_zero b] at h2
  exact Int.le_of_mul_le_mul_left h2 hb
theorem spr_zero {a b c d : Int} (hb : 0 < b) (e : c * b = a * d) {r : List (Int × Nat)} (h : spr a b r = 0) : spr c d r = 0 := by
  have h2 := spr_scale e r
  rw [h, Int.mul_zero] at h2
  rcases Int.mul_eq_zero.mp h2 with z | z
  · omega
  · exact z
/-! ### the pace taken off -/
def phi (t : F2) (e : Int × Nat) : Int × Nat := (e.1 * t.2 - t.1, e.2)
def sG (G : Gr) (t : F2) : Gr := fun s => (G s).map (phi t)
theorem sG_back {G : Gr} {t : F2} : ∀ {p : List (Int × Nat)} {s : Nat}, WOk (sG G t) s p → ∃ p', WOk G s p' ∧ p = p'.map (phi t) ∧ wEnd s p' = wEnd s p
  | [], _, _ => ⟨[], trivial, rfl, rfl⟩
  | e :: r, s, o => by
    obtain ⟨e', he', rfl⟩ := List.mem_map.mp o.1
    obtain ⟨p', h1, h2, h3⟩ := sG_back o.2
    exact ⟨e' :: p', ⟨he', h1⟩, by rw [h2]; rfl, h3⟩
theorem sG_to {G : Gr} {t : F2} : ∀ {p : List (Int × Nat)} {s : Nat}, WOk G s p → WOk (sG G t) s (p.map (phi t)) ∧ wEnd s (p.map (phi t)) = wEnd s p
  | [], _, _ => ⟨trivial, rfl⟩
  | e :: r, s, o => by
    obtain ⟨h1, h2⟩ := sG_to (t := t) o.2
    exact ⟨⟨List.mem_map.mpr ⟨e, o.1, rfl⟩, h1⟩, h2⟩
theorem sG_sum (t : F2) : ∀ p : List (Int × Nat), wSum (p.map (phi t)) = spr t.1 t.2 p
  | [] => by
    show (0 : Int) = t.2 * 0 - t.1 * 0
    simp
  | e :: r => by
    have h1 : wSum ((e :: r).map (phi t)) = (e.1 * t.2 - t.1) + wSum (r.map (phi t)) := rfl
    have h2 : spr t.1 t.2 (e :: r) = spr t.1 t.2 [e] + spr t.1 t.2 r := spr_app t.1 t.2 [e] r
    have h3 : spr t.1 t.2 [e] = e.1 * t.2 - t.1 := by
      show t.2 * (e.1 + 0) - t.1 * 1 = _
      rw [Int.add_zero, Int.mul_one, Int.mul_comm]
    rw [h1, sG_sum t r, h2, h3]
theorem sG_clo {G : Gr} {t : F2} {ks : List Nat} (c : Clo G ks) : Clo (sG G t) ks := ⟨fun s hs e he => by
  obtain ⟨e', he', rfl⟩ := List.mem_map.mp he
  exact c.on s hs e' he'⟩
theorem sG_more {G : Gr} {t : F2} {ks : List Nat} (h : NoMore G ks t.1 t.2) : NoMore (sG G t) ks 0 1 := fun v hv r o e hl => by
  obtain ⟨r', h1, rfl, h3⟩ := sG_back o
  rw [spr01, sG_sum]
  exact h v hv r' h1 (h3.trans e) (by rw [List.length_map] at hl; exact hl)
theorem rG_map (C : Chn) (f : Br → Int × Nat) (s : Nat) : rG (C.map fun r => r.map f) s = (rowOf C s).map f := by
  unfold rG rowOf
  rw [List.getElem?_map]
  cases C[s]? <;> rfl
theorem rG_w (C : Chn) (W : List (Str × Int)) (s : Nat) : rG (C.map (wRow W)) s = gG C W s := rG_map C (wBr W) s
def fT (W : List (Str × Int)) (t : F2) (b : Br) : Int × Nat := phi t (wBr W b)
theorem rG_s (C : Chn) (W : List (Str × Int)) (t : F2) (s : Nat) : rG (C.map fun r => r.map (fT W t)) s = sG (gG C W) t s := by
  rw [rG_map]
  show _ = ((rowOf C s).map (wBr W)).map (phi t)
  rw [List.map_map]
  rfl
end Mt
namespace Mt
open PySem PySem.Spec PyProof.Rows L2
theorem Fr.less {a b : F2} {N1 N2 : Int} {M : Nat} (ha : Fr a N1 M) (hb : Fr b N2 M) : a.1 * b.2 < b.1 * a.2 ↔ N1 < N2 := by
  have h1 := ha.eq
  have h2 := hb.eq
  have p1 := ha.low.pos
  have p2 := hb.low.pos
  have pM : (0 : Int) < (M : Int) := by have := ha.pos; omega
  have pp : 0 < a.2 * b.2 := Int.mul_pos (by omega) (by omega)
  have e1 : a.1 * b.2 * (M : Int) = N1 * (a.2 * b.2) := by grind
  have e2 : b.1 * a.2 * (M : Int) = N2 * (a.2 * b.2) := by grind
  constructor
  · intro h
    have := Int.mul_lt_mul_of_pos_right h pM
    rw [e1, e2] at this
    exact Int.lt_of_mul_lt_mul_right this (Int.le_of_lt pp)
  · intro h
    have := Int.mul_lt_mul_of_pos_right h pp
    rw [← e1, ← e2] at this
    exact Int.lt_of_mul_lt_mul_right this (Int.le_of_lt pM)
theorem low_int (n : Int) : Low (n, 1) := ⟨Int.le_refl 1, Nat.gcd_one_right _⟩
theorem Fr.int (n : Int) {M : Nat} (h : 0 < M) : Fr (n, 1) (n * M) M := ⟨low_int n, by simp, h⟩
theorem Fr.own {t : F2} (h : Low t) : Fr t t.1 t.2.toNat := by
  have := h.pos
  exact ⟨h, by rw [show (t.2.toNat : Int) = t.2 by omega], by omega⟩
theorem Fr.quot (n : Int) {t : F2} (h : Low t) : Fr (fr n t.2) n t.2.toNat := by
  have := h.pos
  exact Fr.of (x := (n, t.2)) (by show t.2 ≠ 0; omega) (by show n * (t.2.toNat : Int) = n * t.2; rw [show (t.2.toNat : Int) = t.2 by omega]) (by omega)
def potsOf (C : Chn) (ks : List Nat) (h : Nat → Int) (t : F2) : List (Option F2) := (List.range C.length).map fun s => if s ∈ ks then some (fr (h s) t.2) else none
def tiOf (C : Chn) (W : List (Str × Int)) (t : F2) (ks : List Nat) (h : Nat → Int) : Chn := (List.range C.length).map fun s => if s ∈ ks then tightB (fT W t) h s (rowOf C s) else []
theorem range_at {α : Type} {n s : Nat} (f : Nat → α) (h : s < n) : ((List.range n).map f)[s]? = some (f s) := by
  rw [List.getElem?_map, List.getElem?_range h]
  rfl
theorem gp_pots {C : Chn} {ks : List Nat} {h : Nat → Int} {t : F2} (lt : ∀ s ∈ ks, s < C.length) (s : Nat) : gp (potsOf C ks h t) s = if s ∈ ks then some (fr (h s) t.2) else none := by
  by_cases c : s ∈ ks
  · rw [if_pos c]
    refine gp_some.mpr ?_
    unfold potsOf
    rw [range_at _ (lt s c), if_pos c]
  · rw [if_neg c]
    cases e : gp (potsOf C ks h t) s with
    | none => rfl
    | some f =>
      have e := gp_some.mp e
      unfold potsOf at e
      rw [List.getElem?_map] at e
      obtain ⟨u, hu, e2⟩ := Option.map_eq_some_iff.mp e
      have : u = s := by
        have hs := (List.getElem?_eq_some_iff.mp hu).1
        rw [List.length_range] at hs
        rw [List.getElem?_range hs] at hu
        exact (Option.some.inj hu).symm
      rw [this, if_neg c] at e2
      cases e2
theorem row_ti {C : Chn} {W : List (Str × Int)} {t : F2} {ks : List Nat} {h : Nat → Int} (lt : ∀ s ∈ ks, s < C.length) (s : Nat) : rowOf (tiOf C W t ks h) s = if s ∈ ks then tightB (fT W t) h s (rowOf C s) else [] := by
  unfold rowOf tiOf
  rw [List.getElem?_map]
  by_cases c : s < C.length
  · rw [List.getElem?_range c]
    rfl
  · rw [List.getElem?_eq_none (by rw [List.length_range]; omega), if_neg fun z => c (lt s z)]
    rfl
/-- what makes a told paper the one that it is -/
structure RateX (C : Chn) (W : List (Str × Int)) (t : F2) (pots : List (Option F2)) (l m : List Br) (ks : List Nat) (h : Nat → Int) : Prop where
  rc : Rch C ks
  reach : ∀ s ∈ ks, ∃ l, BOk C 0 l ∧ stA 0 l = s
  nm : NoMore (gG C W) ks t.1 t.2
  rd : ∃ s ∈ ks, ∃ r, WOk (gG C W) s r ∧ wEnd s r = s ∧ 1 ≤ r.length ∧ spr t.1 t.2 r = 0
  low : Low t
  hg : Hgt (sG (gG C W) t) ks h
  at_ : ∀ s ∈ ks, ∃ p, WOk (sG (gG C W) t) s p ∧ wSum p = h s
  pos : ∀ s ∈ ks, 0 ≤ h s
  pots : pots = potsOf C ks h t
  ring : RingIs C (tiOf C W t ks h) ks l m
def RateIs (C : Chn) (W : List (Str × Int)) (t : F2) (pots : List (Option F2)) (l m : List Br) : Prop := ∃ ks h, RateX C W t pots l m ks h
theorem Rch.walk {C : Chn} {ks : List Nat} (r : Rch C ks) : ∀ {l : List Br} {s : Nat}, s ∈ ks → BOk C s l → stA s l ∈ ks
  | [], _, h, _ => h
  | b :: q, s, h, o => by
    rw [stA_cons]
    exact r.walk (r.on s h b o.1) o.2
theorem Rch.clo {C : Chn} {ks : List Nat} (r : Rch C ks) (W : List (Str × Int)) : Clo (gG C W) ks := ⟨fun s hs e he => by
  obtain ⟨b, hb, rfl⟩ := List.mem_map.mp he
  exact r.on s hs b hb⟩
theorem pace_le {G : Gr} {ks : List Nat} {t t' : F2} (nm : NoMore G ks t.1 t.2) (l : 0 < t.2) {s : Nat} (hs : s ∈ ks) {r : List (Int × Nat)} (o : WOk G s r) (e : wEnd s r = s) (r1 : 1 ≤ r.length) (z : spr t'.1 t'.2 r = 0) : t'.1 * t.2 ≤ t.1 * t'.2 ∨ t'.2 ≤ 0 := by
  by_cases p : t'.2 ≤ 0
  · exact .inr p
  · refine .inl ?_
    have h1 := nm s hs r o e r1
    unfold spr at h1 z
    have n0 : (0 : Int) < (r.length : Int) := by omega
    have h2 : t'.2 * (t.2 * wSum r) ≤ t'.2 * (t.1 * (r.length : Int)) := Int.mul_le_mul_of_nonneg_left (by omega) (by omega)
    have e1 : t'.2 * (t.2 * wSum r) = t'.1 * t.2 * (r.length : Int) := by
      have : t'.2 * wSum r = t'.1 * (r.length : Int) := by omega
      grind
    have e2 : t'.2 * (t.1 * (r.length : Int)) = t.1 * t'.2 * (r.length : Int) := by grind
    rw [e1, e2] at h2
    exact Int.le_of_mul_le_mul_right h2 n0
theorem RateIs.uniq {C : Chn} {W : List (Str × Int)} {t t' : F2} {pots pots' : List (Option F2)} {l m l' m' : List Br} (a : RateIs C W t pots l m) (b : RateIs C W t' pots' l' m') : t = t' ∧ pots = pots' ∧ l = l' ∧ m = m' := by
  obtain ⟨ks, h, x⟩ := a
  obtain ⟨ks', h', y⟩ := b
  have same : ∀ s, s ∈ ks ↔ s ∈ ks' := fun s => by
    constructor
    · intro hs
      obtain ⟨q, o, rfl⟩ := x.reach s hs
      exact y.rc.walk y.rc.zero o
    · intro hs
      obtain ⟨q, o, rfl⟩ := y.reach s hs
      exact x.rc.walk x.rc.zero o
  have lx := x.low.pos
  have ly := y.low.pos
  obtain rfl : t = t' := by
    obtain ⟨s, hs, r, o, e, r1, z⟩ := x.rd
    obtain ⟨s', hs', r', o', e', r1', z'⟩ := y.rd
    have p1 := (pace_le y.nm (by omega) ((same s).mp hs) o e r1 z).resolve_right (by omega)
    have p2 := (pace_le x.nm (by omega) ((same s').mpr hs') o' e' r1' z').resolve_right (by omega)
    exact low_uniq x.low y.low (Int.le_antisymm p1 p2)
  have eh : ∀ s ∈ ks, h s = h' s := fun s hs => by
    have hs' := (same s).mp hs
    obtain ⟨p, o, e⟩ := x.at_ s hs
    obtain ⟨p', o', e'⟩ := y.at_ s hs'
    have c := sG_clo (t := t) (x.rc.clo W)
    have c' := sG_clo (t := t) (y.rc.clo W)
    have a1 := hgt_walk c' y.hg hs' o
    have a2 := hgt_walk c x.hg hs o'
    have a3 := y.pos _ (c'.walk hs' o)
    have a4 := x.pos _ (c.walk hs o')
    omega
  have ep : potsOf C ks h t = potsOf C ks' h' t := by
    refine List.map_congr_left fun s _ => ?_
    by_cases c : s ∈ ks
    · rw [if_pos c, if_pos ((same s).mp c), eh s c]
    · rw [if_neg c, if_neg fun z => c ((same s).mpr z)]
  have et : tiOf C W t ks h = tiOf C W t ks' h' := by
    refine List.map_congr_left fun s _ => ?_
    by_cases c : s ∈ ks
    · rw [if_pos c, if_pos ((same s).mp c)]
      refine List.filter_congr fun bb hb => ?_
      have tk : (fT W t bb).2 ∈ ks := x.rc.on s c bb hb
      rw [eh s c, eh _ tk]
    · rw [if_neg c, if_neg fun z => c ((same s).mpr z)]
  obtain ⟨r1, r2⟩ := RingIs.uniq same (et ▸ x.ring) y.ring
  exact ⟨rfl, by rw [x.pots, y.pots, ep], r1, r2⟩
theorem wSum_f {f : Br → Int × Nat} {W : List (Str × Int)} (hf : ∀ b, (f b).1 = wv W b.2.1) : ∀ l : List Br, wSum (l.map f) = wsum W l
  | [] => rfl
  | b :: r => by
    show (f b).1 + wSum (r.map f) = wv W b.2.1 + wsum W r
    rw [hf, wSum_f hf r]
/-- the told paper is right -/
theorem RateX.take {base : Int} {C : Chn} {W : List (Str × Int)} {t : F2} {pots : List (Option F2)} {l m : List Br} {ks : List Nat} {h : Nat → Int} (x : RateX C W t pots l m ks h) (ok : ChnOk base C) (o1 : BOk C 0 l) (i1 : stA 0 l ∈ ks) (o2 : BOk (tiOf C W t ks h) (stA 0 l) m) (e2 : stA (stA 0 l) m = stA 0 l) (ne : m ≠ []) :
    TakeP C W t pots (l.map (·.1)) (m.map (·.1)) := by
  have lt := x.rc.lt
  have lp := x.low.pos
  have sub : ∀ s, rowOf (tiOf C W t ks h) s ⊆ rowOf C s := fun s b hb => by
    rw [row_ti lt] at hb
    by_cases c : s ∈ ks
    · rw [if_pos c] at hb
      exact (List.mem_filter.mp hb).1
    · rw [if_neg c] at hb
      cases hb
  have o3 := BOk.sub sub o2
  refine ⟨by rw [x.pots]; unfold potsOf; rw [List.length_map, List.length_range], ⟨fr (h 0) t.2, by rw [x.pots, gp_pots lt, if_pos x.rc.zero]⟩, fun s r f hr hf => ?_, l, m, ?_, ?_⟩
  · rw [x.pots, gp_pots lt] at hf
    by_cases c : s ∈ ks
    · rw [if_pos c] at hf
      obtain rfl := Option.some.inj hf
      have er : r = rowOf C s := by
        unfold rowOf
        rw [hr]
        rfl
      subst er
      refine List.all_eq_true.mpr fun e he => ?_
      obtain ⟨b, hb, rfl⟩ := List.mem_map.mp he
      have tk := x.rc.on s c b hb
      unfold okE
      rw [x.pots, gp_pots lt, if_pos (show (wBr W b).2 ∈ ks from tk)]
      show (!lessB _ _) = true
      have g := x.hg s c (phi t (wBr W b)) (List.mem_map.mpr ⟨wBr W b, List.mem_map.mpr ⟨b, hb, rfl⟩, rfl⟩)
      have g : (wBr W b).1 * t.2 - t.1 + h (wBr W b).2 ≤ h s := g
      have f1 := (Fr.own x.low).add (Fr.quot (h s) x.low)
      have f2 := (Fr.int (wBr W b).1 (M := t.2.toNat) (by omega)).add (Fr.quot (h (wBr W b).2) x.low)
      have := mt (Fr.less f1 f2).mp (by rw [show (t.2.toNat : Int) = t.2 by omega]; omega)
      unfold lessB
      rw [decide_eq_false this]
      rfl
    · rw [if_neg c] at hf
      cases hf
  · unfold ringB
    rw [along_of ok ok.pos o1]
    have h2 := along_of ok (lt _ i1) o3
    have ne2 : ¬ m.map (·.1) = [] := fun z => ne (List.map_eq_nil_iff.mp z)
    show (if m.map (·.1) = [] then none else match alongB C (stA 0 l) (m.map (·.1)) with | none => none | some m => if stA (stA 0 l) m = stA 0 l then some (l, m) else none) = _
    rw [if_neg ne2, h2]
    show (if stA (stA 0 l) m = stA 0 l then some (l, m) else none) = _
    rw [if_pos e2]
  · have hG : ∀ s, sG (gG C W) t s = (rowOf C s).map (fT W t) := fun s => by rw [← rG_s, rG_map]
    have tw : ∀ {q : List Br} {s : Nat}, s ∈ ks → BOk (tiOf C W t ks h) s q → WOk (tightG (sG (gG C W) t) h) s (q.map (fT W t)) ∧ wEnd s (q.map (fT W t)) = stA s q := fun {q} => by
      induction q with
      | nil => exact fun _ _ => ⟨trivial, rfl⟩
      | cons b r ih =>
        intro s hs o
        have hb := o.1
        rw [row_ti lt, if_pos hs] at hb
        obtain ⟨h1, h2⟩ := List.mem_filter.mp hb
        obtain ⟨h3, h4⟩ := ih (x.rc.on s hs b h1) o.2
        rw [stA_cons]
        exact ⟨⟨List.mem_filter.mpr ⟨by rw [hG]; exact List.mem_map.mpr ⟨b, h1, rfl⟩, h2⟩, h3⟩, h4⟩
    obtain ⟨w1, w2⟩ := tw i1 o2
    have z := (tight_sum w1).2
    rw [w2, e2] at z
    have em : m.map (fT W t) = (m.map (wBr W)).map (phi t) := by
      rw [List.map_map]
      rfl
    rw [em, sG_sum] at z
    have z : spr t.1 t.2 (m.map (wBr W)) = 0 := by omega
    unfold spr at z
    rw [wSum_f (W := W) (fun b => rfl), List.length_map] at z
    refine low_uniq (low_frp (mul2_ne x.low (low_int _))) (low_int _) ?_
    have v := frv (n := (mul2 t (((m.map (·.1)).length : Int), 1)).1) (d := (mul2 t (((m.map (·.1)).length : Int), 1)).2) (mul2_ne x.low (low_int _))
    have e1 : (mul2 t (((m.map (·.1)).length : Int), 1)).2 = t.2 := Int.mul_one _
    have e3 : (mul2 t (((m.map (·.1)).length : Int), 1)).1 = t.1 * (m.length : Int) := by
      show t.1 * ((m.map (·.1)).length : Int) = _
      rw [List.length_map]
    have v : (frp (mul2 t (((m.map (·.1)).length : Int), 1))).1 * t.2 = t.1 * (m.length : Int) * (frp (mul2 t (((m.map (·.1)).length : Int), 1))).2 := by
      rw [← e3]
      conv => lhs; rw [← e1]
      exact v
    generalize frp (mul2 t (((m.map (·.1)).length : Int), 1)) = g at v
    show g.1 * 1 = wsum W m * g.2
    have t0 : t.2 ≠ 0 := by omega
    refine Int.eq_of_mul_eq_mul_right t0 ?_
    have : t.1 * (m.length : Int) = t.2 * wsum W m := by omega
    rw [Int.mul_one, v, this]
    grind
/-- no other pace has this ring -/
theorem TakeP.pace {C : Chn} {W : List (Str × Int)} {t t' : F2} {pots pots' : List (Option F2)} {way ring : List (List Int)} (lt : Low t) (lt' : Low t') (a : TakeP C W t pots way ring) (b : TakeP C W t' pots' way ring) : t = t' := by
  obtain ⟨l, m, e, f⟩ := a.ring
  obtain ⟨l', m', e', f'⟩ := b.ring
  rw [e] at e'
  have e' := Option.some.inj e'
  injection e' with e1 e2
  subst e1
  subst e2
  have n0 : ring ≠ [] := fun z => by
    unfold ringB at e
    split at e
    · cases e
    · rw [if_pos z] at e
      cases e
  have np : (0 : Int) < (ring.length : Int) := by
    have := List.length_pos_iff.mpr n0
    omega
  have v : ∀ {u : F2}, Low u → frp (mul2 u ((ring.length : Int), 1)) = (wsum W m, 1) → u.1 * (ring.length : Int) = wsum W m * u.2 := fun {u} lu ef => by
    have h := frv (n := (mul2 u ((ring.length : Int), 1)).1) (d := (mul2 u ((ring.length : Int), 1)).2) (mul2_ne lu (low_int _))
    have h : (frp (mul2 u ((ring.length : Int), 1))).1 * (u.2 * 1) = (u.1 * (ring.length : Int)) * (frp (mul2 u ((ring.length : Int), 1))).2 := h
    rw [ef] at h
    have h : wsum W m * (u.2 * 1) = (u.1 * (ring.length : Int)) * 1 := h
    rw [Int.mul_one, Int.mul_one] at h
    exact h.symm
  have v1 := v lt f
  have v2 := v lt' f'
  refine low_uniq lt lt' (Int.eq_of_mul_eq_mul_right (by omega : (ring.length : Int) ≠ 0) ?_)
  have e3 : t.1 * t'.2 * (ring.length : Int) = (t.1 * (ring.length : Int)) * t'.2 := by grind
  have e4 : t'.1 * t.2 * (ring.length : Int) = (t'.1 * (ring.length : Int)) * t.2 := by grind
  rw [e3, e4, v1, v2]
  grind
end Mt
namespace Mt
open PySem PySem.Spec PyProof.Rows L2
abbrev cs_r1 : Scope := { kind := .function, names := [(Str.ofString ".0", .local), (Str.ofString "row", .local)], isGenerator := false, isCoroutine := false }
abbrev cs_r2 : Scope := { kind := .function, names := [(Str.ofString ".0", .local), (Str.ofString "row", .local), (Str.ofString "below", .cell), (Str.ofString "speed", .cell)], isGenerator := false, isCoroutine := false }
theorem reach_of {C : Chn} {F : Nat → Option Nat} (d : DistOk (nxG (toG C)) [0] F) : ∀ (k s : Nat), F s = some k → ∃ l, BOk C 0 l ∧ stA 0 l = s
  | 0, s, h => ⟨[], trivial, (List.mem_singleton.mp ((d.zero s).mp h)).symm⟩
  | k + 1, s, h => by
    obtain ⟨u, h1, h2⟩ := d.ex s k h
    obtain ⟨l, o, e⟩ := reach_of d k u h1
    rw [toG_at] at h2
    obtain ⟨b, hb, rfl⟩ := List.mem_map.mp h2
    exact ⟨l ++ [b], (BOk_app _ _ _).mpr ⟨o, by rw [e]; exact ⟨hb, trivial⟩⟩, by rw [stA_app]; rfl⟩
theorem rch_of {C : Chn} {n : Nat} {kvs : List (L2.Key × V)} {F : Nat → Option Nat} {ks : List Nat} {R : Nat → V → Prop} (d : DistOk (nxG (toG C)) [0] F) (kd : KD C.length kvs ks R) (km : ∀ s, s ∈ ks ↔ F s ≠ none) : Rch C ks := by
  refine ⟨(km 0).mpr fun z => ?_, kd.nd, kd.lt, fun s hs b hb => ?_⟩
  · rw [(d.zero 0).mpr (List.mem_singleton.mpr rfl)] at z
    cases z
  · cases e : F s with
    | none => exact absurd e ((km s).mp hs)
    | some k =>
      obtain ⟨j, _, ej⟩ := d.st s k e b.2.2 (by rw [toG_at]; exact List.mem_map.mpr ⟨b, hb, rfl⟩)
      exact (km _).mpr fun z => by rw [ej] at z; cases z
/-- the pace that is told is the greatest one -/
theorem rate_pace {base : Int} {C : Chn} (ok : ChnOk base C) {W : List (Str × Int)} (hW : ∀ e ∈ W, e.2.natAbs ≤ 99) {ks : List Nat} (rc : Rch C ks) (reach : ∀ s ∈ ks, ∃ l, BOk C 0 l ∧ stA 0 l = s) {ms : List F2} {top : F2} (h1 : ∀ m ∈ ms, ∃ v, LeastOf (gG C W) ks.length v m) (h2 : ∀ q, WOk (gG C W) 0 q → q.length = ks.length → ∃ m ∈ ms, LeastOf (gG C W) ks.length (wEnd 0 q) m) (ht : top ∈ ms) (hx : ∀ g ∈ ms, lessB top g = false) :
    NoMore (gG C W) ks top.1 top.2 ∧ (∃ s ∈ ks, ∃ r, WOk (gG C W) s r ∧ wEnd s r = s ∧ 1 ≤ r.length ∧ spr top.1 top.2 r = 0) ∧ Low top := by
  have clo := rc.clo W
  have wB : ∀ s ∈ ks, ∀ e ∈ gG C W s, e.1.natAbs ≤ 600 := fun s hs e he => by
    obtain ⟨b, hb, rfl⟩ := List.mem_map.mp he
    have := wv_le hW b.2.1
    have := ((ok.row _ (List.mem_of_getElem? (rowOf_at (rc.lt s hs)))).to b hb).2
    show (wv W b.2.1).natAbs ≤ 600
    omega
  obtain ⟨pace, pp, bp⟩ := best_exists clo wB (by
    obtain ⟨s, hs, i, i1, i2, e⟩ := comes_back ok rc
    obtain ⟨⟨r, r1, r2, r3⟩, _⟩ := itr_walk ok (W := W) (rc.lt s hs) i
    exact ⟨s, hs, r, r1, r3.trans e, by omega, by omega⟩)
  have nm := bp.no_more clo
  obtain ⟨s, hs, r, o, e, r1, z⟩ := bp.round
  obtain ⟨l, ol, el⟩ := reach s hs
  obtain ⟨w1, w2⟩ := BOk.w (f := wBr W) (fun _ => rfl) (G := gG C W) (fun _ => rfl) ol
  obtain ⟨k1, k2⟩ := karp clo pp nm (Wm := pace.2 * 600 + (pace.1.natAbs : Int)) (fun s hs e he => by
    have h := wB s hs e he
    have h2 : pace.2 * e.1 ≤ pace.2 * 600 := Int.mul_le_mul_of_nonneg_left (by omega) (by omega)
    show pace.2 * (e.1 + 0) - pace.1 * 1 ≤ _
    rw [Int.add_zero, Int.mul_one]
    omega) (by have : 0 ≤ pace.2 * 600 := Int.mul_nonneg (by omega) (by decide); omega) rc.zero w1 (w2.trans el) o e r1 z h1 h2 ht hx
  have l0 := k2.pos
  exact ⟨nm.scale pp (by omega) k1, ⟨s, hs, r, o, e, r1, spr_zero pp k1 z⟩, k2⟩
theorem pots_set {n : Nat} {ks : List Nat} {g : Nat → F2} {k s : Nat} (hk : ks[k]? = some s) (hs : s < n) :
    ((List.range n).map fun u => if u ∈ ks.take k then some (g u) else none).set s (some (g s)) = (List.range n).map fun u => if u ∈ ks.take (k + 1) then some (g u) else none := by
  apply List.ext_getElem?
  intro i
  rw [List.getElem?_set]
  by_cases c : s = i
  · subst c
    rw [if_pos rfl, if_pos (by rw [List.length_map, List.length_range]; exact hs), range_at _ hs, if_pos (by rw [take_snoc hk]; exact List.mem_append_right _ (List.mem_singleton.mpr rfl))]
  · rw [if_neg c]
    by_cases l : i < n
    · rw [range_at _ l, range_at _ l]
      congr 1
      by_cases m : i ∈ ks.take k
      · rw [if_pos m, if_pos (by rw [take_snoc hk]; exact List.mem_append_left _ m)]
      · rw [if_neg m, if_neg (by
          rw [take_snoc hk]
          intro z
          rcases List.mem_append.mp z with z | z
          · exact m z
          · exact c (List.mem_singleton.mp z).symm)]
    · rw [List.getElem?_eq_none (by rw [List.length_map, List.length_range]; omega), List.getElem?_eq_none (by rw [List.length_map, List.length_range]; omega)]
theorem nons_dp {K : PySem.W.Frag} {H : Hp} {n : Nat} {g : Nat → F2} {ks : List Nat} : ∀ {xs : List V}, xs.length = n → DpAll K H (xs.map fun _ => V.non) (((List.range n).map fun u => if u ∈ ks.take 0 then some (g u) else none).map dO) := fun {xs} hl => by
  refine dpA_ofI (by rw [List.length_map, List.length_map, List.length_map, List.length_range, hl]) fun i x d h1 h2 => ?_
  rw [List.getElem?_map] at h1
  obtain ⟨_, _, rfl⟩ := Option.map_eq_some_iff.mp h1
  rw [List.getElem?_map, List.getElem?_map] at h2
  obtain ⟨o, ho, rfl⟩ := Option.map_eq_some_iff.mp h2
  obtain ⟨u, _, rfl⟩ := Option.map_eq_some_iff.mp ho
  rw [if_neg (by simp)]
  exact .non
theorem dO_noL (o : Option F2) : noL (dO o) = true := by cases o <;> rfl
/-- a walk of branches that lose nothing -/
theorem tight_br {C : Chn} {W : List (Str × Int)} {t : F2} {ks : List Nat} {h : Nat → Int} (rc : Rch C ks) : ∀ {p : List (Int × Nat)} {s : Nat}, s ∈ ks → WOk (tightG (sG (gG C W) t) h) s p → ∃ l, BOk (tiOf C W t ks h) s l ∧ l.map (fT W t) = p ∧ stA s l = wEnd s p
  | [], s, _, _ => ⟨[], trivial, rfl, rfl⟩
  | e :: r, s, hs, o => by
    obtain ⟨h1, h2⟩ := List.mem_filter.mp o.1
    rw [← rG_s, rG_map] at h1
    obtain ⟨b, hb, rfl⟩ := List.mem_map.mp h1
    obtain ⟨l, l1, l2, l3⟩ := tight_br rc (rc.on s hs b hb) (p := r) o.2
    refine ⟨b :: l, ⟨?_, l1⟩, by rw [List.map_cons, l2], by rw [stA_cons, l3]; rfl⟩
    rw [row_ti rc.lt, if_pos hs]
    exact List.mem_filter.mpr ⟨hb, h2⟩
theorem tight_cyc {C : Chn} {W : List (Str × Int)} {t : F2} {ks : List Nat} {h : Nat → Int} (rc : Rch C ks) (hg : Hgt (sG (gG C W) t) ks h) (rd : ∃ s ∈ ks, ∃ r, WOk (gG C W) s r ∧ wEnd s r = s ∧ 1 ≤ r.length ∧ spr t.1 t.2 r = 0) : ∃ s l, s ∈ ks ∧ BOk (tiOf C W t ks h) s l ∧ stA s l = s ∧ l ≠ [] := by
  obtain ⟨s, hs, r, o, e, r1, z⟩ := rd
  obtain ⟨w1, w2⟩ := sG_to (t := t) o
  have tw := tight_walk (sG_clo (rc.clo W)) hg hs w1 (by rw [sG_sum, z, w2, e]; omega)
  obtain ⟨l, l1, l2, l3⟩ := tight_br rc hs tw
  refine ⟨s, l, hs, l1, l3.trans (w2.trans e), fun q => ?_⟩
  have := congrArg List.length l2
  rw [q, List.length_map, List.length_map] at this
  have : 0 = r.length := this
  omega
def spRate (K : PySem.W.Frag) : Sp := fun vs H Q _ => ∃ (vc vw : V) (base : Int) (C : Chn) (W : List (Str × Int)), vs = [vc, vw] ∧ Dp K H vc (dChn base C) ∧ ChnOk base C ∧ WAt K H vw W ∧ (W.map (·.1)).Nodup ∧ W.length ≤ 1000 ∧ (∀ e ∈ W, e.2.natAbs ≤ 99) ∧
  ∀ H' v (t : F2) (pots : List (Option F2)) (l m : List Br) (ks : List Nat) (h : Nat → Int), Same H H' → Dp K H' v (dPap t pots (l.map (·.1)) (m.map (·.1))) → RateX C W t pots l m ks h → PapOk t pots (l.map (·.1)) (m.map (·.1)) → Sz 400 t → BOk C 0 l → stA 0 l ∈ ks → BOk (tiOf C W t ks h) (stA 0 l) m → stA (stA 0 l) m = stA 0 l → m ≠ [] → l.length ≤ 100 → m.length ≤ 50 → Q v H'
section
variable {P : Program} {w : World} {K : PySem.W.Frag} {mg : Str → Option Value} {base : Heap}
set_option maxHeartbeats 4000000 in
theorem ok_rate (T : Txt K mg) (D_distances : Kept P w K mg base 1 "distances" ["nexts", "begins"] (spDist K)) (D_make_fraction : Kept P w K mg base 1 "make_fraction" ["n", "d"] spFrac) (D_worth_rows : Kept P w K mg base 2 "worth_rows" ["chain", "worths"] (spWRows K)) (D_greatest_mean : Kept P w K mg base 3 "greatest_mean" ["rows", "many"] (spMean K)) (D_heights_of : Kept P w K mg base 1 "heights_of" ["rows", "states"] (spHeights K)) (D_tight_branches : Kept P w K mg base 1 "tight_branches" ["branches", "row", "heights", "state"] (spTight K)) (D_best_ring : Kept P w K mg base 3 "best_ring" ["rows", "tight", "states"] (spBestR K)) {f : Addr} {fd : FuncData} (F : FnP K "rate" s_rate f fd) : FnOk P w K mg base CX0 4 f fd ["chain", "worths"] (spRate K) := by
  refine F.ok sc_rate (fun vs H Q E h => ?_) (fun cdv A outer s H vs Q E hr h => ?_)
  · obtain ⟨vc, vw, b, C, W, rfl, _⟩ := h
    rfl
  · obtain ⟨vc, vw, b, C, W, rfl, hC, ok, hw, nd, wl, hW, q⟩ := h
    refine ⟨_, PSs.nox (pss_cons (ps_set (i := 2) sc_rate.nd rfl (Or.inl rfl) (pe_d D_worth_rows (hr.mono (by decide)) (by rfl) (pa_cons (pv 0) (pa_cons (pv 1) pa_nil))))
      (pss_cons (ps_set (i := 3) sc_rate.nd rfl (Or.inr rfl) (pe_d D_distances (hr.mono (by decide)) (by rfl) (pa_cons (pe_lc (own := [("row", 6)]) (g := (gName 6)) (tt := tYes) rfl sc_rate.nd (pi_list (pv 2)) (blkOk_by (N := N_rate) (sc := defScope s_rate) (by decide +kernel)) (fun _ _ _ _ _ => (pg_name (i := 6) sc_rate.nd rfl (Or.inl rfl))) (fun _ _ _ _ _ => pts_nil) (fun _ _ _ _ _ => (pe_lc (own := [("_", 4), ("target", 5)]) (g := (gTup K 2 (gCons (gName 4) (gCons (gName 5) gNil)))) (tt := tYes) rfl sc_rate.nd (piLK (K := K) rfl (pv 6)) (blkOk_by (N := N_rate) (sc := cs_r1) (by decide +kernel)) (fun _ _ _ _ _ => (pg_tup rfl (pgs_cons (pg_name (i := 4) sc_rate.nd rfl (Or.inl rfl)) (pgs_cons (pg_name (i := 5) sc_rate.nd rfl (Or.inl rfl)) pgs_nil)))) (fun _ _ _ _ _ => pts_nil) (fun _ _ _ _ _ => (pv 5))))) (pa_cons (pe_lst (pa_cons pe_int pa_nil)) pa_nil))))
      (pss_cons (ps_set (i := 7) sc_rate.nd rfl (Or.inr rfl) (pe_d D_greatest_mean (hr.mono (by decide)) (by rfl) (pa_cons (pv 2) (pa_cons (pe_callB lenDK (by rfl) T.b_len (by decide +kernel) (pa_cons (pv 3) pa_nil)) pa_nil))))
      (pss_cons (ps_set (i := 8) sc_rate.nd rfl (Or.inr rfl) (pe_ix ix_tup (pv 7) pe_int (fun _ _ => rfl)))
      (pss_cons (ps_setLc (i := 9) (own := [("row", 6)]) (g := (gName 6)) (tt := tYes) rfl sc_rate.nd rfl rfl (sw_true rfl rfl rfl (by decide +kernel)) (pi_list (pv 2)) (blkOk_by (N := N_rate) (sc := defScope s_rate) (by decide +kernel)) (fun _ _ _ _ _ => (pg_name (i := 6) sc_rate.nd rfl (Or.inl rfl))) (fun _ _ _ _ _ => pts_nil) (fun _ _ _ _ _ => (pe_lc (own := [("worth", 10), ("target", 5)]) (g := (gTup K 2 (gCons (gName 10) (gCons (gName 5) gNil)))) (tt := tYes) rfl sc_rate.nd (piLK (K := K) rfl (pv 6)) (blkOk_by (N := N_rate) (sc := cs_r2) (by decide +kernel)) (fun _ _ _ _ _ => (pg_tup rfl (pgs_cons (pg_name (i := 10) sc_rate.nd rfl (Or.inl rfl)) (pgs_cons (pg_name (i := 5) sc_rate.nd rfl (Or.inl rfl)) pgs_nil)))) (fun _ _ _ _ _ => pts_nil) (fun _ _ _ _ _ => (pe_tup (pa_cons (pe_op op_sub (pe_op op_mulW (pv 10) (pv 8)) (pe_ix (ixT (K := K) rfl) (pv 7) pe_int (fun _ _ => rfl))) (pa_cons (pv 5) pa_nil)))))))
      (pss_cons (ps_set (i := 11) sc_rate.nd rfl (Or.inr rfl) (pe_d D_heights_of (hr.mono (by decide)) (by rfl) (pa_cons (pv 9) (pa_cons (pe_callTy (call_list_dK rfl) (by rfl) T.b_list (by decide +kernel) (pa_cons (pv 3) pa_nil)) pa_nil))))
      (pss_cons (ps_setLc (i := 12) (own := [("_", 4)]) (g := (gName 4)) (tt := tYes) rfl sc_rate.nd rfl rfl (sw_true rfl rfl rfl (by decide +kernel)) (pi_list (pv 2)) (blkOk_by (N := N_rate) (sc := defScope s_rate) (by decide +kernel)) (fun _ _ _ _ _ => (pg_name (i := 4) sc_rate.nd rfl (Or.inl rfl))) (fun _ _ _ _ _ => pts_nil) (fun _ _ _ _ _ => pe_non))
      (pss_cons (ps_lock (ps_for PassesOwn.never rfl (pi_keys (pv 3)) (pg_name (i := 13) sc_rate.nd rfl (Or.inl rfl)) (pss_one (ps_asg (pe_d D_make_fraction (hr.mono (by decide)) (by rfl) (pa_cons (pe_dget (hu_of hr) (pv 11) (pv 13) (fun _ _ => rfl)) (pa_cons (pv 8) pa_nil))) (pg_sub (pv 12) (pv 13) set_list)))))
      (pss_cons (ps_setLc (i := 14) (own := [("state", 13), ("branches", 15), ("row", 6)]) (g := (gTup K 2 (gCons (gName 13) (gCons (gTup K 2 (gCons (gName 15) (gCons (gName 6) gNil))) gNil)))) (tt := tYes) rfl sc_rate.nd rfl rfl (sw_true rfl rfl rfl (by decide +kernel)) (pi_EZ (by rfl) T.b_enumerate (by rfl) T.b_zip (pa_cons (pe_ix ix_tup (pv 0) pe_int (fun _ _ => rfl)) (pa_cons (pv 9) pa_nil))) (blkOk_by (N := N_rate) (sc := defScope s_rate) (by decide +kernel)) (fun _ _ _ _ _ => (pg_tup rfl (pgs_cons (pg_name (i := 13) sc_rate.nd rfl (Or.inl rfl)) (pgs_cons (pg_tup rfl (pgs_cons (pg_name (i := 15) sc_rate.nd rfl (Or.inl rfl)) (pgs_cons (pg_name (i := 6) sc_rate.nd rfl (Or.inl rfl)) pgs_nil))) pgs_nil)))) (fun _ _ _ _ _ => pts_nil) (fun _ _ _ _ _ => (pe_ifExp (pt_cmp (pc_din (hu_of hr) (pv 13) (pv 3))) (pe_d D_tight_branches (hr.mono (by decide)) (by rfl) (pa_cons (pv 15) (pa_cons (pv 6) (pa_cons (pv 11) (pa_cons (pv 13) pa_nil))))) (pe_lst pa_nil))))
      (pss_cons (ps_asg (pe_d D_best_ring (hr.mono (by decide)) (by rfl) (pa_cons (pe_ix ix_tup (pv 0) pe_int (fun _ _ => rfl)) (pa_cons (pv 14) (pa_cons (pe_callTy (call_list_dK rfl) (by rfl) T.b_list (by decide +kernel) (pa_cons (pv 3) pa_nil)) pa_nil)))) (pg_tup rfl (pgs_cons (pg_name (i := 16) sc_rate.nd rfl (Or.inl rfl)) (pgs_cons (pg_name (i := 17) sc_rate.nd rfl (Or.inl rfl)) pgs_nil))))
      (pss_one (ps_ret (pe_tup (pa_cons (pv 7) (pa_cons (pe_callTy call_tuple_of (by rfl) T.b_tuple (by decide +kernel) (pa_cons (pv 12) pa_nil)) (pa_cons (pv 16) (pa_cons (pv 17) pa_nil))))))))))))))))), ?_⟩
    have few := ok.few
    have pos := ok.pos
    obtain ⟨pc, pq, cs, rfl, hpc, hpq, hCA⟩ := chn_at hC
    refine ⟨_, rfl, _, rfl, .ref pc, vw, b, C, W, rfl, hC, ok, hw, nd, wl, fun H1 vR s1 hR => ?_⟩
    have okR := ROk.of ok W
    obtain ⟨pR, xs, rfl, hpR, hA⟩ := dp_lst (id hR)
    have xl := dpA_len hA
    rw [List.length_map, List.length_map] at xl
    refine ⟨_, rfl, pR, rfl, ⟨_, hpR⟩, fun L hL => lc_list (K := K) (a := pR) (xs := xs) (fun i H' => Same H1 H' ∧ FL K L H' ((C.take i).map fun r => .list (r.map fun b => .int (b.2.2 : Int)))) ⟨same_new hL, FL.nil hL⟩ (fun i H' _ e => same_l e.1 hpR) ?_ ?_⟩
    · rintro i x H2 hi ⟨s2, fl⟩
      obtain ⟨r', hr', hx⟩ := dpA_mem hA hi
      rw [List.getElem?_map] at hr'
      obtain ⟨r, hr1, rfl⟩ := Option.map_eq_some_iff.mp hr'
      have il := (List.getElem?_eq_some_iff.mp hr1).1
      have okr := ok.row r (List.mem_of_getElem? hr1)
      obtain ⟨pr, rs, rfl, hpr, hrs⟩ := dp_lst hx
      have rl := dpA_len hrs
      rw [List.length_map] at rl
      have rl : rs.length = r.length := by rw [rl]; exact List.length_map _
      obtain ⟨zs, hL1, zl, _⟩ := id fl.d
      rw [List.length_map, List.length_take] at zl
      refine ⟨rfl, _, rfl, pr, rfl, ⟨_, same_l s2 hpr⟩, fun M hM => lc_list (K := K) (a := pr) (xs := rs) (fun j H' => Same H2 H' ∧ H' M = some (.lst ((r.take j).map fun b => vN b.2.2))) ⟨same_new hM, upd_same⟩ (fun j H' _ e => same_l (s2.trans e.1) hpr) ?_ ?_⟩
      · rintro j y H3 hj ⟨s3, hM3⟩
        obtain ⟨e', he', hy⟩ := dpA_mem hrs hj
        have he' : (r.map (wBr W))[j]? = some e' := he'
        rw [List.getElem?_map] at he'
        obtain ⟨br, hbr, rfl⟩ := Option.map_eq_some_iff.mp he'
        have jl := (List.getElem?_eq_some_iff.mp hbr).1
        have fewr := okr.few
        obtain ⟨pe, rfl, hpe⟩ := e_at hy
        refine ⟨pe, _, rfl, same_t (s2.trans s3) hpe, rfl, _, _, rfl, _, _, rfl, rfl, rfl, ?_⟩
        refine ⟨_, rfl, _, hM3, ?_, same_mut s3 hM, ?_⟩
        · rw [List.length_map, List.length_take]
          exact line6 (by omega)
        · rw [upd_same, take_snoc hbr, List.map_append]
          rfl
      · rintro H3 ⟨s3, hM3⟩
        rw [rl, List.take_length] at hM3
        have hL3 := s3 _ _ hL1
        refine ⟨zs, hL3, line6 (by omega), same_mut (s2.trans s3) hL, ?_⟩
        rw [take_snoc hr1, List.map_append]
        refine (fl.same s3).add hL3 fun o => ?_
        have nM : M ≠ L := (ne_of_none hL1 hM).symm
        show Dp K (upd H3 L o) (.ref M) (.list (r.map fun b => .int (b.2.2 : Int)))
        refine .lst (SqL.of (by rw [upd_ne nM]; exact hM3)) (dpA_ofI (by rw [List.length_map, List.length_map]) fun k x d h3 h4 => ?_)
        rw [List.getElem?_map] at h3 h4
        obtain ⟨bb, hbb, rfl⟩ := Option.map_eq_some_iff.mp h3
        rw [hbb] at h4
        cases h4
        exact .int _
    · rintro H2 ⟨s2, fl⟩
      rw [xl, List.take_length] at fl
      have dG1 : Dp K H2 (.ref L) (dG (toG C)) := by
        have e : dG (toG C) = .list (C.map fun r => .list (r.map fun b => .int (b.2.2 : Int))) := by
          unfold dG toG
          rw [List.map_map]
          congr 1
          refine List.map_congr_left fun r _ => ?_
          show PyData.list ((r.map (·.2.2)).map fun k : Nat => PyData.int (k : Int)) = _
          rw [List.map_map]
          rfl
        rw [e]
        exact fl.dp
      have gl2 : (toG C).length = C.length := by unfold toG; rw [List.length_map]
      refine ⟨z1, fun pb hpb => ?_⟩
      have s3 := same_new (o := .lst [.int 0]) hpb
      have hpb3 := upd_same (H := H2) (a := pb) (o := .lst [.int 0])
      generalize upd H2 pb (.lst [.int 0]) = H3 at s3 hpb3
      refine ⟨_, pb, toG C, [0], rfl, dp_same s3 _ _ dG1, SqL.of hpb3, by omega, fun r hr => ?_, fun t ht => by rw [List.mem_singleton.mp ht, gl2]; exact pos, by show 1 ≤ 100; decide, fun H4 d kvs F s4 hd hd4 fk dok => ?_⟩
      · obtain ⟨r0, h0, rfl⟩ := List.mem_map.mp hr
        have okr := ok.row r0 h0
        have := okr.few
        refine ⟨by rw [List.length_map]; omega, fun t ht => ?_⟩
        obtain ⟨bb, hbb, rfl⟩ := List.mem_map.mp ht
        rw [gl2]
        exact (okr.to bb hbb).1
      · rw [gl2] at fk
        obtain ⟨ks, kd, km⟩ := fk.kd
        have rc := rch_of (n := 0) dok kd km
        have reach : ∀ s ∈ ks, ∃ l, BOk C 0 l ∧ stA 0 l = s := fun s hs => by
          cases e : F s with
          | none => exact absurd e ((km s).mp hs)
          | some k => exact reach_of dok k s e
        have kl := kd.len
        have kf := kd.few
        have clo := rc.clo W
        have eG : rG (C.map (wRow W)) = gG C W := funext (rG_w C W)
        have s14 := s2.trans (s3.trans s4)
        have hR4 := dp_same s14 _ _ hR
        refine ⟨_, rfl, _, rfl, d, kvs, rfl, hd4, ?_⟩
        rw [kl]
        have wB : ∀ s ∈ ks, ∀ e ∈ gG C W s, e.1.natAbs ≤ 600 := fun s hs e he => by
          obtain ⟨b, hb, rfl⟩ := List.mem_map.mp he
          have := wv_le hW b.2.1
          have := ((ok.row _ (List.mem_of_getElem? (rowOf_at (rc.lt s hs)))).to b hb).2
          show (wv W b.2.1).natAbs ≤ 600
          omega
        refine ⟨_, C.map (wRow W), ks, rfl, hR4, okR, rc.zero, rc.nd, fun s hs => by rw [List.length_map]; exact rc.lt s hs, by rw [eG]; exact clo, by rw [eG]; exact wB, fun H5 pt ms t s5 hpt h1 h2 ht hx lt5 sz5 => ?_⟩
        rw [eG] at h1 h2
        obtain ⟨nm, rd, low⟩ := rate_pace ok hW rc reach h1 h2 ht hx
        have s15 := s14.trans s5
        have tpos := lt5.pos
        refine ⟨_, rfl, pt, _, _, _, rfl, rfl, hpt, atI_nat (j := 1) rfl, ?_⟩
        refine ⟨_, rfl, pR, rfl, ⟨_, same_l s15 hpR⟩, fun L2 hL2 => lc_list (K := K) (a := pR) (xs := xs) (fun i H' => Same H5 H' ∧ FL K L2 H' ((C.take i).map fun r => dWRow (r.map (fT W t)))) ⟨same_new hL2, FL.nil hL2⟩ (fun i H' _ e => same_l (s15.trans e.1) hpR) ?_ ?_⟩
        · rintro i x H6 hi ⟨s6, fl⟩
          obtain ⟨r', hr', hx⟩ := dpA_mem hA hi
          rw [List.getElem?_map] at hr'
          obtain ⟨r, hr1, rfl⟩ := Option.map_eq_some_iff.mp hr'
          have il := (List.getElem?_eq_some_iff.mp hr1).1
          have okr := ok.row r (List.mem_of_getElem? hr1)
          obtain ⟨pr, rs, rfl, hpr, hrs⟩ := dp_lst hx
          have rl := dpA_len hrs
          rw [List.length_map] at rl
          have rl : rs.length = r.length := by rw [rl]; exact List.length_map _
          obtain ⟨zs, hL1, zl, _⟩ := id fl.d
          rw [List.length_map, List.length_take] at zl
          have s16 := s15.trans s6
          refine ⟨rfl, _, rfl, pr, rfl, ⟨_, same_l s16 hpr⟩, fun M hM => lc_list (K := K) (a := pr) (xs := rs) (fun j H' => Same H6 H' ∧ ∃ qs, H' M = some (.lst qs) ∧ DpAll K H' qs ((r.take j).map fun b => dE (fT W t b))) ⟨same_new hM, [], upd_same, .nil⟩ (fun j H' _ e => same_l (s16.trans e.1) hpr) ?_ ?_⟩
          · rintro j y H7 hj ⟨s7, qs, hM7, hqs⟩
            obtain ⟨e', he', hy⟩ := dpA_mem hrs hj
            have he' : (r.map (wBr W))[j]? = some e' := he'
            rw [List.getElem?_map] at he'
            obtain ⟨br, hbr, rfl⟩ := Option.map_eq_some_iff.mp he'
            have jl := (List.getElem?_eq_some_iff.mp hbr).1
            have fewr := okr.few
            have okb := okr.to br (List.mem_of_getElem? hbr)
            have ql := dpA_len hqs
            rw [List.length_map, List.length_take] at ql
            obtain ⟨pe, rfl, hpe⟩ := e_at hy
            have zw : (wBr W br).1.natAbs < 2 ^ 10 := by
              have := wv_le hW br.2.1
              show (wv W br.2.1).natAbs < 2 ^ 10
              omega
            have s17 := s16.trans s7
            refine ⟨pe, _, rfl, same_t s17 hpe, rfl, _, _, rfl, _, _, rfl, rfl, rfl, ?_⟩
            refine ⟨_, rfl, _, rfl, _, _, rfl, rfl, wide_mul zw sz5.2 (by decide) (by decide) (by decide), _, rfl, pt, _, _, _, rfl, rfl, same_t (s6.trans s7) hpt, atI_nat (j := 0) rfl, _, _, rfl, rfl, _, rfl, z2, fun pn hpn => ?_⟩
            have s8 := same_new (o := .tup [.int ((wBr W br).1 * t.2 - t.1), .int ((wBr W br).2 : Int)]) hpn
            have hpn8 := upd_same (H := H7) (a := pn) (o := .tup [.int ((wBr W br).1 * t.2 - t.1), .int ((wBr W br).2 : Int)])
            generalize upd H7 pn (.tup [.int ((wBr W br).1 * t.2 - t.1), .int ((wBr W br).2 : Int)]) = H8 at s8 hpn8
            have hM8 := s8 _ _ hM7
            refine ⟨qs, hM8, line6 (by omega), same_mut (s7.trans s8) hM, qs ++ [.ref pn], upd_same, ?_⟩
            have k8 := keepT_nt (o := .lst (qs ++ [.ref pn])) (nt_lst _) hM8
            rw [take_snoc hbr, List.map_append]
            exact dpA_snoc (dpA_keep k8 _ _ (noLs_map _ _ fun _ _ => rfl) (dpA_same s8 _ _ hqs)) (.tup (sqt_keep k8 (SqT.of hpn8)) (.cons (.int _) (.cons (.int _) .nil)))
          · rintro H7 ⟨s7, qs, hM7, hqs⟩
            rw [rl, List.take_length] at hqs
            have hL7 := s7 _ _ hL1
            refine ⟨zs, hL7, line6 (by omega), same_mut (s6.trans s7) hL2, ?_⟩
            rw [take_snoc hr1, List.map_append]
            refine (fl.same s7).add hL7 fun o => ?_
            have nM : M ≠ L2 := (ne_of_none hL1 hM).symm
            have e : dWRow (r.map (fT W t)) = .list (r.map fun b => dE (fT W t b)) := by
              show PyData.list ((r.map (fT W t)).map dE) = _
              rw [List.map_map]
              rfl
            show Dp K (upd H7 L2 o) (.ref M) (dWRow (r.map (fT W t)))
            rw [e]
            exact .lst (SqL.of (by rw [upd_ne nM]; exact hM7)) (dpA_keep (keepT_nt (nt_lst _) hL7) _ _ (noLs_map _ _ fun _ _ => rfl) hqs)
        · rintro H6 ⟨s6, fl⟩
          rw [xl, List.take_length] at fl
          have hS6 : Dp K H6 (.ref L2) (dWR (C.map fun r => r.map (fT W t))) := by
            have e : dWR (C.map fun r => r.map (fT W t)) = .list (C.map fun r => dWRow (r.map (fT W t))) := by
              show PyData.list ((C.map fun r => r.map (fT W t)).map dWRow) = _
              rw [List.map_map]
              rfl
            rw [e]
            exact fl.dp
          have okS : ROk (C.map fun r => r.map (fT W t)) := by
            refine ⟨by rw [List.length_map]; exact ok.pos, by rw [List.length_map]; exact ok.few, fun r hr => ?_⟩
            obtain ⟨r0, h0, rfl⟩ := List.mem_map.mp hr
            have k := ok.row r0 h0
            refine ⟨by rw [List.length_map]; exact k.ne, by rw [List.length_map]; exact k.few, fun e he => ?_⟩
            obtain ⟨bb, hb, rfl⟩ := List.mem_map.mp he
            rw [List.length_map]
            exact (k.to bb hb).1
          have eS : rG (C.map fun r => r.map (fT W t)) = sG (gG C W) t := funext (rG_s C W t)
          have s46 := s5.trans s6
          have hd6 := s46 _ _ hd4
          refine ⟨_, rfl, _, rfl, d, kvs, rfl, hd6, fun Lk hLk => ?_⟩
          rw [kd.vals]
          have s7 := same_new (o := .lst (ks.map vN)) hLk
          have hLk7 := upd_same (H := H6) (a := Lk) (o := .lst (ks.map vN))
          generalize upd H6 Lk (.lst (ks.map vN)) = H7 at s7 hLk7
          refine ⟨_, Lk, _, ks, rfl, dp_same s7 _ _ hS6, SqL.of hLk7, okS, rc.nd, fun s hs => by rw [List.length_map]; exact rc.lt s hs, by rw [eS]; exact sG_clo clo, by rw [eS]; exact sG_more nm, fun H8 dh kvh i s8 hdh hdh8 hk il hgt => ?_⟩
          rw [eS] at hk hgt
          rw [List.length_map] at hk
          have hdef : ∀ s ∈ ks, ∃ p, WOk (sG (gG C W) t) s p ∧ p.length ≤ i ∧ wSum p = hts (sG (gG C W) t) i s := fun s _ => hts_at _ i s
          have h0s : ∀ s ∈ ks, 0 ≤ hts (sG (gG C W) t) i s := fun s _ => hts_ge _ i (p := []) trivial (Nat.zero_le _)
          have sB : ∀ s ∈ ks, ∀ e ∈ sG (gG C W) t s, e.1.natAbs ≤ 2 ^ 411 := fun s hs e he => by
            obtain ⟨e', he', rfl⟩ := List.mem_map.mp he
            have z1 : e'.1.natAbs < 2 ^ 10 := by
              have := wB s hs e' he'
              omega
            exact Nat.le_of_lt (sz_sub (k := 410) (sz_mul z1 sz5.2) (n_up sz5.1 (by decide)))
          have hb : ∀ s ∈ ks, (hts (sG (gG C W) t) i s).natAbs < 2 ^ 420 := fun s hs => by
            obtain ⟨p, p1, p2, p3⟩ := hdef s hs
            have h1 := wSum_le (sG_clo clo) sB hs p1
            have h2 : 2 ^ 411 * p.length ≤ 2 ^ 411 * 2 ^ 6 := Nat.mul_le_mul_left _ (by omega)
            rw [← Nat.pow_add] at h2
            have h3 : (2 : Nat) ^ (411 + 6) < 2 ^ 420 := Nat.pow_lt_pow_right (by decide) (by decide)
            rw [← p3]
            exact Nat.lt_of_le_of_lt (Nat.le_trans h1 h2) h3
          generalize eh : hts (sG (gG C W) t) i = h at hk hgt hdef h0s hb
          have s68 := s7.trans s8
          have s58 := s6.trans s68
          have s18 := s15.trans s58
          have hd8 := s68 _ _ hd6
          refine ⟨_, rfl, pR, rfl, ⟨_, same_l s18 hpR⟩, fun M hM => lc_list (K := K) (a := pR) (xs := xs) (fun j H' => Same H8 H' ∧ H' M = some (.lst ((xs.take j).map fun _ => V.non))) ⟨same_new hM, upd_same⟩ (fun j H' _ e => same_l (s18.trans e.1) hpR) ?_ ?_⟩
          · rintro j x H9 hj ⟨s9, hM9⟩
            have jl := (List.getElem?_eq_some_iff.mp hj).1
            refine ⟨rfl, _, hM9, by rw [List.length_map, List.length_take]; exact line6 (by omega), same_mut s9 hM, ?_⟩
            rw [upd_same, take_map_succ (f := fun _ => V.non) hj]
          · rintro H9 ⟨s9, hM9⟩
            rw [List.take_length] at hM9
            have hd9 := s9 _ _ hd8
            refine ⟨d, .dK kvs, hd9, True.intro, fun od => ?_⟩
            have Md : M ≠ d := fun z => by
              rw [z, hd8] at hM
              cases hM
            have uF : ∀ {H' : Hp}, Same (upd H8 d (.frz od (.dK kvs))) H' → Same H8 (upd H' d (.dK kvs)) := fun s => unfrz hd8 s
            have sL := same_upd (L := d) (o := .frz od (.dK kvs)) s9
            have hMHL : upd H8 d (.frz od (.dK kvs)) M = none := by rw [upd_ne Md]; exact hM
            have hML : upd H9 d (.frz od (.dK kvs)) M = some (.lst (xs.map fun _ => V.non)) := by rw [upd_ne Md]; exact hM9
            have hdHL := upd_same (H := H8) (a := d) (o := .frz od (.dK kvs))
            have hdL := upd_same (H := H9) (a := d) (o := .frz od (.dK kvs))
            have dhd : dh ≠ d := fun z => by
              have := s7 _ _ hd6
              rw [z] at hdh
              rw [this] at hdh
              cases hdh
            have hdhL : upd H8 d (.frz od (.dK kvs)) dh = some (.dK kvh) := by rw [upd_ne dhd]; exact hdh8
            generalize upd H9 d (.frz od (.dK kvs)) = H10 at sL hML hdL
            generalize upd H8 d (.frz od (.dK kvs)) = HL at uF sL hMHL hdHL hdhL
            have tne : t.2 ≠ 0 := by omega
            have okh : ∀ s ∈ ks, Sz 420 (h s, t.2) := fun s hs => ⟨hb s hs, n_up sz5.2 (by decide)⟩
            refine ⟨_, rfl, d, od, rfl, .inl ⟨kvs, hdL, for_it walk_keys (fun j σ H' => ∃ (y13 : Option V) (zs : List V), σ = [some (.ref pc), some vw, some (.ref pR), some (.ref d), none, none, none, some (.ref pt), some (.int t.2), some (.ref L2), none, some (.ref dh), some (.ref M), y13, none, none, none, none] ∧ Same HL H' ∧ H' M = some (.lst zs) ∧ DpAll K H' zs (((List.range C.length).map fun u => if u ∈ ks.take j then some (fr (h u) t.2) else none).map dO)) ⟨_, _, rfl, sL, hML, nons_dp xl⟩ (fun j σ H' _ ⟨_, _, _, s, _⟩ => s _ _ hdHL) ?_ ?_⟩⟩
            · rintro j x σ H11 H11' hj ⟨y13, zs, rfl, s11, hM11, hzs⟩ ⟨rfl, key, v0, hkv, rfl⟩
              obtain ⟨here, hhere, rfl⟩ := kd.at_ hkv
              have hm := List.mem_of_getElem? hhere
              have hn := rc.lt here hm
              have g := hk.at_ hm
              have zl := dpA_len hzs
              rw [List.length_map, List.length_map, List.length_range] at zl
              refine ⟨_, rfl, _, rfl, dh, _, rfl, by rw [← g]; exact DGet.k (k := kS here) (s11 _ _ hdhL), _, rfl, _, _, rfl, tne, sz_up (okh here hm) (by decide), fun p hp => ?_⟩
              have s12 := same_new (o := tupF (fr (h here) t.2)) hp
              have hp12 := sq_new (K := K) (H := H11') (p := p) (f := fr (h here) t.2)
              generalize upd H11' p (tupF (fr (h here) t.2)) = H12 at s12 hp12
              have hM12 := s12 _ _ hM11
              refine ⟨_, rfl, _, rfl, M, zs, _, here, rfl, rfl, hM12, Evl.ixN_nat (by omega), ?_⟩
              have kM := keepT_nt (o := .lst (zs.set here (.ref p))) (nt_lst _) hM12
              refine ⟨_, _, rfl, same_mut (s11.trans s12) hMHL, upd_same, ?_⟩
              rw [← pots_set (g := fun u => fr (h u) t.2) hhere hn, List.map_set]
              exact dpA_set here (dpA_keep kM _ _ (noLs_of dO_noL _) (dpA_same s12 _ _ hzs)) (dp_keep kM _ _ rfl (dp_F hp12))
            · rintro σ H11 ⟨y13, zs, rfl, s11, hM11, hzs⟩
              rw [kl, List.take_length] at hzs
              refine ⟨s11 _ _ hdHL, ?_⟩
              have s12 := uF s11
              have hM12 : upd H11 d (.dK kvs) M = some (.lst zs) := by rw [upd_ne Md]; exact hM11
              have hzs12 := dpA_keep (keepT_frz (o := .dK kvs) (s11 _ _ hdHL)) _ _ (noLs_of dO_noL _) hzs
              generalize upd H11 d (.dK kvs) = H12 at s12 hM12 hzs12
              have s8z := s12
              have hd12 := s12 _ _ hd8
              have hdh12 := s12 _ _ hdh8
              have s112 := s18.trans s12
              obtain ⟨L2', es, eL2, hpL2, hes⟩ := dp_lst (dp_same (s68.trans s12) _ _ hS6)
              obtain rfl := V.ref.inj eL2
              have el := dpA_len hes
              rw [List.length_map, List.length_map] at el
              have cl := dpA_len hCA
              rw [List.length_map] at cl
              have Tl' : (tiOf C W t ks h).length = C.length := by unfold tiOf; rw [List.length_map, List.length_range]
              refine ⟨_, rfl, pc, _, _, _, rfl, rfl, same_t (s1.trans s112) hpc, atI_nat (j := 2) rfl, _, rfl, pq, L2, cs, es, rfl, ⟨same_t (s1.trans s112) hpq, hpL2⟩, fun Ti hTi => lc_it (walk_EZ (n := C.length) cl el) (fun j H' => Same H12 H' ∧ FL K Ti H' (((tiOf C W t ks h).take j).map fun r => .list (r.map dBr))) ⟨same_new hTi, FL.nil hTi⟩ (fun j H' _ e => ⟨same_t ((s1.trans s112).trans e.1) hpq, same_l e.1 hpL2⟩) ?_ ?_⟩
              · rintro j x H13 H13' hj ⟨s13, fl13⟩ ⟨N, M', u, v', hN, hM', rfl, rfl, hu, hv⟩
                have s14' := same_new (o := .tup [u, v']) hN
                have hN14 := upd_same (H := H13) (a := N) (o := .tup [u, v'])
                generalize upd H13 N (.tup [u, v']) = H14 at s14' hN14 hM'
                have s15' := same_new (o := .tup [.int (j : Nat), .ref N]) hM'
                have hM15 := upd_same (H := H14) (a := M') (o := .tup [.int (j : Nat), .ref N])
                have hN15 := s15' _ _ hN14
                generalize upd H14 M' (.tup [.int (j : Nat), .ref N]) = H15 at s15' hM15 hN15
                have sx := s13.trans (s14'.trans s15')
                have flx := fl13.same (s14'.trans s15')
                obtain ⟨r, hr1, hdu⟩ := dpA_mem (dpA_same ((s1.trans s112).trans sx) _ _ hCA) hu
                obtain ⟨r', hr', hdv⟩ := dpA_mem (dpA_same sx _ _ hes) hv
                rw [List.getElem?_map, hr1] at hr'
                obtain rfl : r.map (fT W t) = r' := Option.some.inj hr'
                have er : rowOf C j = r := by
                  unfold rowOf
                  rw [hr1]
                  rfl
                have okr := ok.row r (List.mem_of_getElem? hr1)
                have hTj : (tiOf C W t ks h)[j]? = some (if j ∈ ks then tightB (fT W t) h j r else []) := by
                  unfold tiOf
                  rw [range_at _ hj, er]
                obtain ⟨zs2, hTi2, zl2, _⟩ := id flx.d
                rw [List.length_map, List.length_take] at zl2
                refine ⟨M', _, rfl, SqT.of hM15, rfl, _, _, rfl, _, _, rfl, ?_⟩
                refine ⟨N, _, rfl, SqT.of hN15, rfl, _, _, rfl, _, _, rfl, rfl, ?_⟩
                refine ⟨rfl, rfl, _, rfl, _, rfl, d, _, rfl, DGet.k (k := kS j) (sx _ _ hd12), _, rfl, ?_⟩
                rw [kd.is]
                by_cases c : j ∈ ks
                · rw [decide_eq_true c]
                  rw [if_pos c] at hTj
                  refine ite2 (fun _ => ?_) (fun n => absurd rfl n)
                  refine ⟨_, rfl, _, rfl, _, rfl, _, rfl, u, v', dh, j, C.length, r, fT W t, kvh, ks, h, rfl, hdu, hdv, okr.few, sx _ _ hdh12, hk, c, fun bb hbb => rc.on j c bb (by rw [er]; exact hbb), fun H16 pl us s16 hpl hpl16 hus => ?_⟩
                  have hTi3 := s16 _ _ hTi2
                  refine ⟨zs2, hTi3, line6 (by omega), same_mut (sx.trans s16) hTi, ?_⟩
                  rw [take_snoc hTj, List.map_append]
                  refine (flx.same s16).add hTi3 fun o => ?_
                  have nT : pl ≠ Ti := (ne_of_none hTi2 hpl).symm
                  exact .lst (SqL.of (by rw [upd_ne nT]; exact hpl16)) (dpA_keep (keepT_nt (nt_lst _) hTi3) _ _ (noLs_br _) hus)
                · rw [decide_eq_false c]
                  rw [if_neg c] at hTj
                  refine ite2 (fun n => (nomatch (show false = true from n))) (fun _ => ?_)
                  refine ⟨Nat.zero_le _, fun pl hpl => ?_⟩
                  have s16 := same_new (o := .lst []) hpl
                  have hpl16 := upd_same (H := H15) (a := pl) (o := .lst [])
                  generalize upd H15 pl (.lst []) = H16 at s16 hpl16
                  have hTi3 := s16 _ _ hTi2
                  refine ⟨zs2, hTi3, line6 (by omega), same_mut (sx.trans s16) hTi, ?_⟩
                  rw [take_snoc hTj, List.map_append]
                  refine (flx.same s16).add hTi3 fun o => ?_
                  have nT : pl ≠ Ti := (ne_of_none hTi2 hpl).symm
                  exact .lst (SqL.of (by rw [upd_ne nT]; exact hpl16)) .nil
              · rintro H13 ⟨s13, fl13⟩
                rw [← Tl', List.take_length] at fl13
                have hT13 : Dp K H13 (.ref Ti) (dT (tiOf C W t ks h)) := fl13.dp
                have hd13 := s13 _ _ hd12
                have s113 := s1.trans (s112.trans s13)
                refine ⟨_, rfl, pc, _, _, _, rfl, rfl, same_t s113 hpc, atI_nat (j := 2) rfl, _, rfl, _, rfl, d, kvs, rfl, hd13, fun Lk2 hLk2 => ?_⟩
                rw [kd.vals]
                have s14' := same_new (o := .lst (ks.map vN)) hLk2
                have hLk3 := upd_same (H := H13) (a := Lk2) (o := .lst (ks.map vN))
                generalize upd H13 Lk2 (.lst (ks.map vN)) = H14 at s14' hLk3
                have s114 := s113.trans s14'
                have sub : ∀ s, rowOf (tiOf C W t ks h) s ⊆ rowOf C s := fun s bb hbb => by
                  rw [row_ti rc.lt] at hbb
                  by_cases c : s ∈ ks
                  · rw [if_pos c] at hbb
                    exact (List.mem_filter.mp hbb).1
                  · rw [if_neg c] at hbb
                    cases hbb
                refine ⟨.ref pq, .ref Ti, Lk2, b, C, tiOf C W t ks h, ks, rfl, .tup (same_t s114 hpq) (dpA_same s114 _ _ hCA), ok, dp_same s14' _ _ hT13, Tl', SqL.of hLk3, rc, sub, fun s => ?_, fun s hs => ?_, reach, tight_cyc rc hgt rd, fun H15 v l m s15' dv o1 i1 o2 e2 ne l100 m50 ri => ?_⟩
                · rw [row_ti rc.lt]
                  by_cases c : s ∈ ks
                  · rw [if_pos c]
                    exact Nat.le_trans (List.length_filter_le _ _) (ok.row _ (List.mem_of_getElem? (rowOf_at (rc.lt s c)))).few
                  · rw [if_neg c]
                    exact Nat.zero_le _
                · rw [row_ti rc.lt, if_neg hs]
                · obtain ⟨pv, ws, rfl, hpv, hws⟩ := dp_tup dv
                  obtain ⟨wv', ws1, rfl, hwv, hws1⟩ := dpA_cons hws
                  obtain ⟨gv, ws2, rfl, hgv, hws2⟩ := dpA_cons hws1
                  obtain rfl := dpA_nil hws2
                  have s1215 := s13.trans (s14'.trans s15')
                  have hM15 := s1215 _ _ hM12
                  refine ⟨pv, _, rfl, hpv, rfl, _, _, rfl, _, _, rfl, rfl, ?_⟩
                  refine ⟨_, rfl, _, rfl, M, zs, rfl, .inl ⟨SqL.of hM15, fun pp hpp => ?_⟩⟩
                  refine ⟨_, rfl, _, rfl, by show 4 ≤ sizeLine; decide, fun pr hpr => ?_⟩
                  have s16 := same_new (o := .tup zs) hpp
                  have hpp16 := upd_same (H := H15) (a := pp) (o := .tup zs)
                  generalize upd H15 pp (.tup zs) = H16 at s16 hpp16 hpr
                  have s17 := same_new (o := .tup [.ref pt, .ref pp, wv', gv]) hpr
                  have s512 := s58.trans s12
                  have potOk : PotOk (potsOf C ks h t) := fun f hf => by
                    obtain ⟨u, hu, e⟩ := List.mem_map.mp hf
                    by_cases c : u ∈ ks
                    · rw [if_pos c] at e
                      obtain rfl := Option.some.inj e
                      exact ⟨fr_low tne, sz_up (fr_sz (okh u c)) (by decide)⟩
                    · rw [if_neg c] at e
                      cases e
                  refine q _ _ t (potsOf C ks h t) l m ks h (s114.trans (s15'.trans (s16.trans s17))) ?_ ⟨rc, reach, nm, rd, low, hgt, fun s hs => let ⟨p, p1, _, p3⟩ := hdef s hs; ⟨p, p1, p3⟩, h0s, rfl, ri⟩ ⟨low, sz_up sz5 (by decide), potOk, by unfold potsOf; rw [List.length_map, List.length_range]; omega, by rw [List.length_map]; omega, by rw [List.length_map]; omega⟩ sz5 o1 i1 o2 e2 ne l100 m50
                  have sf := s16.trans s17
                  exact .tup (SqT.of upd_same) (.cons (dp_F (same_t (s512.trans (s1215.trans sf)) hpt)) (.cons (.tup (SqT.of (s17 _ _ hpp16)) (dpA_same (s1215.trans sf) _ _ hzs12)) (.cons (dp_same sf _ _ hwv) (.cons (dp_same sf _ _ hgv) .nil))))
end
end Mt
namespace Mt
open PySem PySem.Spec PyProof.Rows L2
/-! ### the walk along the words of a way -/
theorem next_fol {r : List Br} {b : Br} (p : (r.map (·.1)).Pairwise NP) (hb : b ∈ r) (t : List Int) : nextB r (b.1 ++ t) = some b := by
  unfold nextB
  induction r with
  | nil => exact absurd hb List.not_mem_nil
  | cons a q ih =>
    obtain ⟨h1, h2⟩ := List.pairwise_cons.mp p
    have fb : fits (b.1 ++ t) b = true := fits_pre.mpr (List.prefix_append _ _)
    rcases List.mem_cons.mp hb with rfl | hb
    · rw [List.find?_cons_of_pos fb]
    · have na : ¬ fits (b.1 ++ t) a = true := fun f => by
        have f1 := fits_pre.mp f
        have f2 := fits_pre.mp fb
        have np := h1 b.1 (List.mem_map.mpr ⟨b, hb, rfl⟩)
        rcases List.prefix_or_prefix_of_prefix f1 f2 with k | k
        · exact np.1 k
        · exact np.2 k
      rw [List.find?_cons_of_neg na]
      exact ih h2 hb
def flatD (l : List Br) : List Int := l.flatMap (·.1)
theorem flatD_append (l m : List Br) : flatD (l ++ m) = flatD l ++ flatD m := by
  unfold flatD
  rw [List.flatMap_append]
theorem flatD_snoc (l : List Br) (b : Br) : flatD (l ++ [b]) = flatD l ++ b.1 := by
  rw [flatD_append]
  show _ ++ (b.1 ++ []) = _
  rw [List.append_nil]
theorem flatD_len {l : List Br} (h : ∀ b ∈ l, b.1.length ≤ 3) : (flatD l).length ≤ 3 * l.length := by
  induction l with
  | nil => exact Nat.le_refl _
  | cons b r ih =>
    have h1 := h b List.mem_cons_self
    have h2 := ih fun x hx => h x (List.mem_cons_of_mem _ hx)
    show (b.1 ++ flatD r).length ≤ _
    rw [List.length_append, List.length_cons]
    omega
theorem BOk.short {base : Int} {C : Chn} (ok : ChnOk base C) : ∀ {l : List Br} {s : Nat}, s < C.length → BOk C s l → ∀ b ∈ l, b.1.length ≤ 3 ∧ b.2.1.length ≤ 6
  | [], _, _, _ => fun _ h => absurd h List.not_mem_nil
  | b :: r, s, hs, o => fun x hx => by
    have okr := ok.row _ (List.mem_of_getElem? (rowOf_at hs))
    rcases List.mem_cons.mp hx with rfl | hx
    · exact ⟨okr.cm.short _ (List.mem_map.mpr ⟨x, o.1, rfl⟩), (okr.to x o.1).2⟩
    · exact BOk.short ok (okr.to b o.1).1 o.2 x hx
/-- a tape that is put together from the words of a way is walked along it -/
theorem wk_bok {base : Int} {C : Chn} (ok : ChnOk base C) : ∀ (n : Nat) {l : List Br}, l.length = n → BOk C 0 l → ∀ e : List Int, wk C (flatD l ++ e) n = some (l.map (·.2.1), stA 0 l, (flatD l).length)
  | 0, l, hl, _, e => by
    obtain rfl : l = [] := List.length_eq_zero_iff.mp hl
    rfl
  | n + 1, l, hl, o, e => by
    have ne : l ≠ [] := fun z => by
      subst z
      cases hl
    have el : l.dropLast ++ [l.getLast ne] = l := List.dropLast_concat_getLast ne
    have dl : l.dropLast.length = n := by rw [List.length_dropLast, hl]; rfl
    generalize l.dropLast = q at el dl
    generalize l.getLast ne = b at el
    subst el
    obtain ⟨o1, o2⟩ := (BOk_app _ _ _).mp o
    have ih := wk_bok ok n dl o1 (b.1 ++ e)
    have okr := ok.row _ (List.mem_of_getElem? (rowOf_at (BOk.lt ok ok.pos o1)))
    have et : flatD (q ++ [b]) ++ e = flatD q ++ (b.1 ++ e) := by rw [flatD_snoc, List.append_assoc]
    rw [et]
    show (wk C (flatD q ++ (b.1 ++ e)) n).bind _ = _
    rw [ih]
    show (nextB (rowOf C (stA 0 q)) ((flatD q ++ (b.1 ++ e)).drop (flatD q).length)).map _ = _
    rw [List.drop_left, next_fol okr.cm.pf o2.1]
    show some _ = _
    rw [stA_app, flatD_snoc, List.map_append, List.length_append]
    rfl
theorem cat_W {K : PySem.W.Frag} {H : Hp} {x y : V} {ds es : List PyData} (hx : Dp K H x (.tuple ds)) (hy : Dp K H y (.tuple es)) (hl : ds.length + es.length ≤ 1000) : rCatA K x y H (fun v H' => Same H H' ∧ Dp K H' v (.tuple (ds ++ es))) := by
  obtain ⟨a, xs, rfl, ha, h1⟩ := dp_tup hx
  obtain ⟨b, ys, rfl, hb, h2⟩ := dp_tup hy
  exact cat_D ha hb h1 h2 hl
theorem dI_app (a b : List Int) : PyData.tuple (a.map PyData.int ++ b.map PyData.int) = dI (a ++ b) := by
  unfold dI
  rw [List.map_append]
theorem sum_two (l : List Int) : (l ++ l).sum = 2 * l.sum := by
  rw [List.sum_append]
  omega
theorem dWs_B (l : List Br) : dWs (l.map (·.1)) = .tuple (l.map fun b => dI b.1) := by
  unfold dWs
  rw [List.map_map]
  rfl
def spLasso (K : PySem.W.Frag) : Sp := fun vs H Q _ => ∃ (vc vw vp : V) (base : Int) (C : Chn) (W : List (Str × Int)) (t : F2) (pots : List (Option F2)) (l m : List Br), vs = [vc, vw, vp] ∧ Dp K H vc (dChn base C) ∧ ChnOk base C ∧ WAtS K H vw W ∧ (W.map (·.1)).Nodup ∧ W.length ≤ 1000 ∧ (∀ e ∈ W, e.2.natAbs ≤ 99) ∧
  Dp K H vp (dPap t pots (l.map (·.1)) (m.map (·.1))) ∧ Low t ∧ t.1 * (m.length : Int) = wsum W m * t.2 ∧ BOk C 0 l ∧ BOk C (stA 0 l) m ∧ stA (stA 0 l) m = stA 0 l ∧ m ≠ [] ∧ l.length ≤ 100 ∧ m.length ≤ 50 ∧ ∀ H', Same H H' → Q (.bl true) H'
section
variable {P : Program} {w : World} {K : PySem.W.Frag} {mg : Str → Option Value} {base : Heap}
set_option maxHeartbeats 1000000 in
theorem ok__law_lasso_walked (T : Txt K mg) (D_walk : Kept P w K mg base 2 "walk" ["chain", "tape", "ticks"] (spWalk K)) (D__law_frac : Kept P w K mg base 1 "_law_frac" ["n", "d"] spFrac) (D__law_worth : Kept P w K mg base 1 "_law_worth" ["worths", "shown"] (spLWorth K)) {f : Addr} {fd : FuncData} (F : FnP K "_law_lasso_walked" s__law_lasso_walked f fd) : FnOk P w K mg base CX0 3 f fd ["chain", "worths", "paper"] (spLasso K) := by
  refine F.ok sc__law_lasso_walked (fun vs H Q E h => ?_) (fun cdv A outer s H vs Q E hr h => ?_)
  · obtain ⟨vc, vw, vp, b, C, W, t, pots, l, m, rfl, _⟩ := h
    rfl
  · obtain ⟨vc, vw, vp, b, C, W, t, pots, l, m, rfl, hC, ok, hw, nd, wl, hW, hP, lt, te, o1, o2, cy, ne, l100, m50, q⟩ := h
    refine ⟨_, PSs.nox (pss_cons (ps_set (i := 3) sc__law_lasso_walked.nd rfl (Or.inl rfl) (pe_tup pa_nil))
      (pss_cons (ps_for PassesOwn.never rfl (pi_tup (pe_op op_catA (pe_op op_catA (pe_ix ix_tup (pv 2) pe_int (fun _ _ => rfl)) (pe_ix ix_tup (pv 2) pe_int (fun _ _ => rfl))) (pe_ix ix_tup (pv 2) pe_int (fun _ _ => rfl)))) (pg_name (i := 4) sc__law_lasso_walked.nd rfl (Or.inl rfl)) (pss_one (ps_set (i := 3) sc__law_lasso_walked.nd rfl (Or.inl rfl) (pe_op op_catA (pv 3) (pv 4)))))
      (pss_cons (ps_set (i := 5) sc__law_lasso_walked.nd rfl (Or.inl rfl) (pe_op op_add (pe_callB call_len (by rfl) T.b_len (by decide +kernel) (pa_cons (pe_ix ix_tup (pv 2) pe_int (fun _ _ => rfl)) pa_nil)) (pe_op op_mul pe_int (pe_callB call_len (by rfl) T.b_len (by decide +kernel) (pa_cons (pe_ix ix_tup (pv 2) pe_int (fun _ _ => rfl)) pa_nil)))))
      (pss_cons (ps_set (i := 6) sc__law_lasso_walked.nd rfl (Or.inl rfl) (pe_d D_walk (hr.mono (by decide)) (by rfl) (pa_cons (pv 0) (pa_cons (pv 3) (pa_cons (pv 5) pa_nil)))))
      (pss_cons (ps_if (PW.pt (pw_or (pt_not (pt_val (pe_callB call_isi (by rfl) T.b_isinstance (by decide +kernel) (pa_cons (pv 6) (pa_cons (pe_bltn (v := .ty "tuple") (u := .type "tuple") (by rfl) T.b_tuple (by decide +kernel) rfl) pa_nil))))) (pw_or (pt_cmpR op_ne (pe_callB call_len (by rfl) T.b_len (by decide +kernel) (pa_cons (pv 6) pa_nil)) pe_int (nomark _)) (pw_or (pt_cmpR op_ne (pe_ix ix_tup (pv 6) pe_int (fun _ _ => rfl)) (pe_callB call_len (by rfl) T.b_len (by decide +kernel) (pa_cons (pv 3) pa_nil)) (nomark _)) (pw_or1 (pt_not (pt_val (pe_callB call_isi (by rfl) T.b_isinstance (by decide +kernel) (pa_cons (pe_ix ix_tup (pv 6) pe_int (fun _ _ => rfl)) (pa_cons (pe_bltn (v := .ty "tuple") (u := .type "tuple") (by rfl) T.b_tuple (by decide +kernel) rfl) pa_nil)))))))))) (pss_one (ps_ret pe_bl)) pss_nil)
      (pss_cons (ps_if (pt_cmpR op_ne (pe_callB call_len (by rfl) T.b_len (by decide +kernel) (pa_cons (pe_ix ix_tup (pv 6) pe_int (fun _ _ => rfl)) pa_nil)) (pv 5) (nomark _)) (pss_one (ps_ret pe_bl)) pss_nil)
      (pss_cons (ps_setLc (i := 7) (own := [("shown", 8)]) (g := (gName 8)) (tt := tYes) rfl sc__law_lasso_walked.nd rfl rfl (sw_true rfl rfl rfl (by decide +kernel)) (pi_tup (pe_ix ix_tup (pv 6) pe_int (fun _ _ => rfl))) (blkOk_by (N := N__law_lasso_walked) (sc := defScope s__law_lasso_walked) (by decide +kernel)) (fun _ _ _ _ _ => (pg_name (i := 8) sc__law_lasso_walked.nd rfl (Or.inl rfl))) (fun _ _ _ _ _ => pts_nil) (fun _ _ _ _ _ => (pe_d D__law_worth (hr.mono (by decide)) (by rfl) (pa_cons (pv 1) (pa_cons (pv 8) pa_nil)))))
      (pss_cons (ps_set (i := 9) sc__law_lasso_walked.nd rfl (Or.inl rfl) (pe_slice sl_list (pv 7) (po_some (pe_callB call_len (by rfl) T.b_len (by decide +kernel) (pa_cons (pe_ix ix_tup (pv 2) pe_int (fun _ _ => rfl)) pa_nil))) po_none))
      (pss_one (ps_ret (pe_cmpR (op_eqD (hr.units)) (pe_d D__law_frac (hr.mono (by decide)) (by rfl) (pa_cons (pe_callB (cr_sum rfl) (by rfl) T.b_sum (by decide +kernel) (pa_cons (pv 9) pa_nil)) (pa_cons (pe_callB call_len (by rfl) T.b_len (by decide +kernel) (pa_cons (pv 9) pa_nil)) pa_nil))) (pe_ix ix_tup (pv 2) pe_int (fun _ _ => rfl)) (nomark _)))))))))))), ?_⟩
    have lt1 := BOk.lt ok ok.pos o1
    obtain ⟨L3, hL3⟩ : ∃ L3, L3 = l ++ m ++ m := ⟨_, rfl⟩
    have o3 : BOk C 0 L3 := by
      rw [hL3]
      refine (BOk_app _ _ _).mpr ⟨(BOk_app _ _ _).mpr ⟨o1, o2⟩, ?_⟩
      rw [stA_app, cy]
      exact o2
    have len3 : L3.length = l.length + 2 * m.length := by
      rw [hL3, List.length_append, List.length_append]
      omega
    have short3 := BOk.short ok ok.pos o3
    have g0 : 0 < m.length := List.length_pos_iff.mpr ne
    obtain ⟨pp, us, rfl, hpp, hus⟩ := dp_tup hP
    obtain ⟨x0, _, rfl, hx0, hus⟩ := dpA_cons hus
    obtain ⟨x1, _, rfl, hx1, hus⟩ := dpA_cons hus
    obtain ⟨x2, _, rfl, hx2, hus⟩ := dpA_cons hus
    obtain ⟨x3, _, rfl, hx3, hus⟩ := dpA_cons hus
    cases dpA_nil hus
    rw [dWs_B] at hx2 hx3
    obtain ⟨p2, ws, rfl, hp2, hws⟩ := dp_tup (id hx2)
    obtain ⟨p3, gs, rfl, hp3, hgs⟩ := dp_tup (id hx3)
    have wl2 := dpA_len hws
    rw [List.length_map] at wl2
    have gl := dpA_len hgs
    rw [List.length_map] at gl
    refine ⟨Nat.zero_le _, fun pt hpt => ?_⟩
    have s3 := same_new (o := .tup []) hpt
    have hpt3 := upd_same (H := H) (a := pt) (o := .tup [])
    generalize upd H pt (.tup []) = H3 at s3 hpt3
    refine ⟨_, rfl, pp, _, _, _, rfl, rfl, same_t s3 hpp, atI_nat (j := 2) rfl, _, rfl, pp, _, _, _, rfl, rfl, same_t s3 hpp, atI_nat (j := 3) rfl, ?_⟩
    refine catA_mono (cat_W (dp_same s3 _ _ hx2) (dp_same s3 _ _ hx3) (by rw [List.length_map, List.length_map]; omega)) fun v4 H4 hh => ?_
    obtain ⟨s4, hv4⟩ := hh
    refine ⟨_, rfl, pp, _, _, _, rfl, rfl, same_t (s3.trans s4) hpp, atI_nat (j := 3) rfl, ?_⟩
    refine catA_mono (cat_W hv4 (dp_same (s3.trans s4) _ _ hx3) (by rw [List.length_append, List.length_map, List.length_map]; omega)) fun v6 H6 hh => ?_
    obtain ⟨s6, hv6⟩ := hh
    have s06 := (s3.trans s4).trans s6
    have s36 := s4.trans s6
    have hv6 : Dp K H6 v6 (.tuple (L3.map fun b => dI b.1)) := by
      rw [hL3, List.map_append, List.map_append]
      exact hv6
    obtain ⟨p6, ys, rfl, hp6, hys⟩ := dp_tup hv6
    have yl := dpA_len hys
    rw [List.length_map] at yl
    refine ⟨p6, rfl, ⟨_, hp6⟩, for_tup (K := K) (a := p6) (xs := ys) (fun i σ H' => ∃ (y4 : Option V) (vt : V), σ = [some vc, some vw, some (.ref pp), some vt, y4, none, none, none, none, none] ∧ Same H6 H' ∧ Dp K H' vt (dI (flatD (L3.take i)))) ⟨_, _, rfl, Same.refl _, .tup (SqT.of (s36 _ _ hpt3)) .nil⟩ (fun i σ H' _ ⟨_, _, _, s, _⟩ => same_t s hp6) ?_ ?_⟩
    · rintro i y σ H7 hi ⟨y4, vt, rfl, s7, hvt⟩
      obtain ⟨br, hbr, hy⟩ := dpA_mem (dpA_same s7 _ _ hys) hi
      have il := (List.getElem?_eq_some_iff.mp hbr).1
      have fl := flatD_len (l := L3.take i) fun b hb => (short3 b (List.mem_of_mem_take hb)).1
      rw [List.length_take] at fl
      have sb := (short3 br (List.mem_of_getElem? hbr)).1
      refine ⟨_, rfl, _, rfl, catA_mono (cat_W hvt hy (by rw [List.length_map, List.length_map]; omega)) fun v8 H8 ⟨s8, hv8⟩ => ?_⟩
      rw [dI_app, ← flatD_snoc, ← take_snoc hbr] at hv8
      exact ⟨_, _, rfl, s7.trans s8, hv8⟩
    · rintro σ H7 ⟨y4, vt, rfl, s7, hvt⟩
      rw [yl, List.take_length] at hvt
      have s07 := s06.trans s7
      have fl := flatD_len fun b hb => (short3 b hb).1
      have en : (ws.length : Int) + 2 * (gs.length : Int) = ((L3.length : Nat) : Int) := by
        rw [len3, wl2, gl]
        omega
      refine ⟨_, rfl, pp, _, _, _, rfl, rfl, same_t s07 hpp, atI_nat (j := 2) rfl, _, _, rfl, .inr ⟨_, same_t s07 hp2, rfl⟩, _, rfl, pp, _, _, _, rfl, rfl, same_t s07 hpp, atI_nat (j := 3) rfl, _, _, rfl, .inr ⟨_, same_t s07 hp3, rfl⟩, _, _, rfl, rfl, .inl ⟨by decide, by decide⟩, _, _, rfl, rfl, ?_⟩
      show gName 5 (V.int ((ws.length : Int) + 2 * (gs.length : Int))) _ _ _
      rw [en]
      obtain ⟨p7, ts, ht7, hp7, hts⟩ := dp_tup (id hvt)
      subst ht7
      have wf := wk_bok ok L3.length rfl o3 []
      rw [List.append_nil] at wf
      refine ⟨_, rfl, _, rfl, _, rfl, vc, .ref p7, L3.length, b, C, _, _, rfl, dp_same s07 _ _ hC, ok, hvt, by omega, by omega, wf, fun H8 v s8 hv => ?_⟩
      obtain ⟨p, xs', rfl, h1, hA1⟩ := dp_tup hv
      obtain ⟨y0, r0, rfl, hy0, hA1⟩ := dpA_cons hA1
      obtain ⟨y1, r1, rfl, hy1, hA1⟩ := dpA_cons hA1
      obtain ⟨y2, r2, rfl, hy2, hA1⟩ := dpA_cons hA1
      cases dpA_nil hA1
      obtain rfl := dp_int hy1
      obtain rfl := dp_int hy2
      obtain ⟨pz, zs, rfl, hpz, hzs⟩ := dp_tup hy0
      have zl := dpA_len hzs
      rw [List.length_map, List.length_map] at zl
      have tl := dpA_len hts
      rw [List.length_map] at tl
      refine ⟨_, rfl, _, .ty "tuple", .type "tuple", .type "tuple", true, rfl, .ty _, sqt_ty h1, kit_ty (by decide +kernel), true, rfl, iteNT ?_⟩
      refine ⟨_, rfl, _, _, rfl, .inr ⟨_, h1, rfl⟩, rfl, _, rfl, ite2 (fun h => absurd h (by show ¬ (!decide (V.int ((3 : Nat) : Int) = V.int 3)) = true; decide)) (fun _ => ?_)⟩
      refine ⟨_, rfl, p, _, _, _, rfl, rfl, h1, atI_nat (j := 2) rfl, _, rfl, _, _, rfl, .inr ⟨_, same_t s8 hp7, rfl⟩, rfl, _, rfl, ite2 (fun h => absurd h ?_) (fun _ => ?_)⟩
      · rw [tl]
        simp
      refine ⟨_, rfl, p, _, _, _, rfl, rfl, h1, atI_nat (j := 0) rfl, _, .ty "tuple", .type "tuple", .type "tuple", true, rfl, .ty _, sqt_ty hpz, kit_ty (by decide +kernel), true, rfl, iteNT ?_⟩
      refine ⟨_, rfl, p, _, _, _, rfl, rfl, h1, atI_nat (j := 0) rfl, _, _, rfl, .inr ⟨_, hpz, rfl⟩, _, rfl, rfl, _, rfl, ite2 (fun h => absurd h ?_) (fun _ => ?_)⟩
      · rw [zl]
        simp
      have s08 := s07.trans s8
      refine ⟨_, rfl, p, _, _, _, rfl, rfl, h1, atI_nat (j := 0) rfl, pz, rfl, ⟨_, hpz⟩, fun M hM => lc_tup (K := K) (a := pz) (xs := zs) (fun j H' => Same H8 H' ∧ H' M = some (.lst (((L3.take j).map fun b => wv W b.2.1).map V.int))) ⟨same_new hM, upd_same⟩ (fun j H' _ e => same_t e.1 hpz) ?_ ?_⟩
      · rintro j y H9 hj ⟨s9, hM9⟩
        obtain ⟨sj, hsj, hy⟩ := dpA_mem (dpA_same s9 _ _ hzs) hj
        rw [List.getElem?_map] at hsj
        obtain ⟨bb, hbb, rfl⟩ := Option.map_eq_some_iff.mp hsj
        have jl := (List.getElem?_eq_some_iff.mp hbb).1
        have sb := (short3 bb (List.mem_of_getElem? hbb)).2
        refine ⟨rfl, _, rfl, _, rfl, vw, y, W, bb.2.1, rfl, hw.keep (KeepT.of_same (s08.trans s9)), nd, wl, hy, by omega, fun H10 s10 => ?_⟩
        refine ⟨_, s10 _ _ hM9, by rw [List.length_map, List.length_map, List.length_take]; exact line6 (by omega), same_mut (s9.trans s10) hM, ?_⟩
        rw [upd_same, take_snoc hbb, List.map_append, List.map_append]
        rfl
      · rintro H9 ⟨s9, hM9⟩
        rw [zl, List.take_length] at hM9
        have s09 := s08.trans s9
        have ml : ((L3.map fun b => wv W b.2.1).map V.int).length = L3.length := by rw [List.length_map, List.length_map]
        refine ⟨_, rfl, _, rfl, pp, _, _, _, rfl, rfl, same_t s09 hpp, atI_nat (j := 2) rfl, _, _, rfl, .inr ⟨_, same_t s09 hp2, rfl⟩, _, rfl, M, _, rfl, SqL.of hM9, fun p9 hp9 => ?_⟩
        rw [cut_from (by rw [ml, wl2, len3]; omega)]
        have ed : ((L3.map fun b => wv W b.2.1).map V.int).drop ws.length = ((m.map fun b => wv W b.2.1) ++ (m.map fun b => wv W b.2.1)).map V.int := by
          rw [hL3, List.append_assoc, List.map_append, List.map_append, wl2, List.drop_left' (by rw [List.length_map, List.length_map]), List.map_append]
        rw [ed]
        have s10 := same_new (o := .lst (((m.map fun b => wv W b.2.1) ++ (m.map fun b => wv W b.2.1)).map V.int)) hp9
        have hp910 := upd_same (H := H9) (a := p9) (o := .lst (((m.map fun b => wv W b.2.1) ++ (m.map fun b => wv W b.2.1)).map V.int))
        generalize upd H9 p9 (.lst (((m.map fun b => wv W b.2.1) ++ (m.map fun b => wv W b.2.1)).map V.int)) = H10 at s10 hp910
        have s010 := s09.trans s10
        have wm := wsum_le hW m fun b hb => (short3 b (by rw [hL3]; exact List.mem_append_right _ hb)).2
        have el : ((((m.map fun b => wv W b.2.1) ++ (m.map fun b => wv W b.2.1)).map V.int).length : Int) = 2 * (m.length : Int) := by
          rw [List.length_map, List.length_append, List.length_map]
          omega
        have es : ((m.map fun b => wv W b.2.1) ++ (m.map fun b => wv W b.2.1)).sum = 2 * wsum W m := sum_two _
        have dne : ((((m.map fun b => wv W b.2.1) ++ (m.map fun b => wv W b.2.1)).map V.int).length : Int) ≠ 0 := by
          rw [el]
          omega
        refine ⟨_, rfl, p9, _, rfl, SqL.of hp910, _, rfl, _, _, rfl, .inl ⟨_, SqL.of hp910, rfl⟩, _, _, rfl, dne, ⟨?_, ?_⟩, fun px hpx => ?_⟩
        · rw [es]
          show (2 * wsum W m).natAbs < 2 ^ 9000
          have : (2 * wsum W m).natAbs < 2 ^ 20 := by omega
          exact n_up this (by decide)
        · show ((((m.map fun b => wv W b.2.1) ++ (m.map fun b => wv W b.2.1)).map V.int).length : Int).natAbs < 2 ^ 9000
          rw [el]
          have : (2 * (m.length : Int)).natAbs < 2 ^ 20 := by omega
          exact n_up this (by decide)
        · have s11 := same_new (o := tupF (fr ((m.map fun b => wv W b.2.1) ++ (m.map fun b => wv W b.2.1)).sum ((((m.map fun b => wv W b.2.1) ++ (m.map fun b => wv W b.2.1)).map V.int).length : Int))) hpx
          have hq := sq_new (K := K) (H := H10) (p := px) (f := fr ((m.map fun b => wv W b.2.1) ++ (m.map fun b => wv W b.2.1)).sum ((((m.map fun b => wv W b.2.1) ++ (m.map fun b => wv W b.2.1)).map V.int).length : Int))
          have fe : fr ((m.map fun b => wv W b.2.1) ++ (m.map fun b => wv W b.2.1)).sum ((((m.map fun b => wv W b.2.1) ++ (m.map fun b => wv W b.2.1)).map V.int).length : Int) = t := by
            rw [es, el]
            have d2 : (2 : Int) * (m.length : Int) ≠ 0 := by omega
            have v := frv (n := 2 * wsum W m) d2
            refine low_uniq (fr_low d2) lt ?_
            generalize fr (2 * wsum W m) (2 * (m.length : Int)) = g at v
            refine Int.eq_of_mul_eq_mul_right (by omega : (m.length : Int) ≠ 0) ?_
            have e1 : g.1 * (m.length : Int) = wsum W m * g.2 := by grind
            have e2 : g.1 * t.2 * (m.length : Int) = (g.1 * (m.length : Int)) * t.2 := by grind
            have e3 : t.1 * g.2 * (m.length : Int) = (t.1 * (m.length : Int)) * g.2 := by grind
            rw [e2, e3, e1, te]
            grind
          rw [fe] at s11 hq
          rw [fe]
          have s12 := s010.trans s11
          refine ⟨_, rfl, pp, _, _, _, rfl, rfl, same_t s12 hpp, atI_nat (j := 0) rfl, dF t, dF t, dp_F hq, dp_same s12 _ _ hx0, dF_sh _, dF_sh _, ?_⟩
          rw [dF_eqv]
          exact q _ s12
end
end Mt
namespace Mt
open PySem PySem.Spec PyProof.Rows L2
theorem Fr.sub {a b : F2} {N1 N2 : Int} {M : Nat} (ha : Fr a N1 M) (hb : Fr b N2 M) : Fr (frp (sub2 a b)) (N1 - N2) M := by
  refine Fr.of (add2_ne ha.low hb.low) ?_ ha.pos
  have h1 := ha.eq
  have h2 := hb.eq
  show (a.1 * b.2 - b.1 * a.2) * (M : Int) = (N1 - N2) * (a.2 * b.2)
  grind
theorem hi_sz {R : WR} (ok : ROk R) {B : Nat} (hB : ∀ r ∈ R, ∀ e ∈ r, e.1.natAbs ≤ B) : ∀ (n s : Nat), (at0 (hi R n) s).natAbs ≤ B * n
  | 0, s => by
    have e : at0 (hi R 0) s = 0 := by
      show ((R.map fun _ => (0 : Int))[s]?).getD 0 = 0
      rw [List.getElem?_map]
      cases R[s]? <;> rfl
    rw [e]
    exact Nat.zero_le _
  | n + 1, s => by
    by_cases c : s < R.length
    · have hr : R[s]? = some (R[s]'c) := List.getElem?_eq_getElem c
      have ne := (ok.row _ (List.getElem_mem c)).1
      have e : at0 (hi R (n + 1)) s = mx ((R[s]'c).map (nxt (hi R n))) := by
        show ((R.map fun r => mx (r.map (nxt (hi R n))))[s]?).getD 0 = _
        rw [List.getElem?_map, hr]
        rfl
      have nn : (R[s]'c).map (nxt (hi R n)) ≠ [] := fun z => by
        have := List.map_eq_nil_iff.mp z
        rw [this] at ne
        exact absurd ne (Nat.lt_irrefl 0)
      obtain ⟨x, hx, ex⟩ := List.mem_map.mp (mx_mem nn)
      have h1 := hi_sz ok hB n x.2
      have h2 := hB _ (List.getElem_mem c) x hx
      rw [e, ← ex]
      show (x.1 + at0 (hi R n) x.2).natAbs ≤ _
      have h3 := Int.natAbs_add_le x.1 (at0 (hi R n) x.2)
      rw [Nat.mul_succ]
      omega
    · have e : at0 (hi R (n + 1)) s = 0 := by
        unfold at0
        rw [List.getElem?_eq_none (by rw [hi_len]; omega)]
        rfl
      rw [e]
      exact Nat.zero_le _
def spBdd (K : PySem.W.Frag) : Sp := fun vs H Q _ => ∃ (vc vw vp : V) (pn : Addr) (base : Int) (C : Chn) (W : List (Str × Int)) (t : F2) (pots : List (Option F2)) (l m : List Br) (ks : List Nat) (h : Nat → Int) (ns : List Nat), vs = [vc, vw, vp, .ref pn] ∧ Dp K H vc (dChn base C) ∧ ChnOk base C ∧ WAt K H vw W ∧ (W.map (·.1)).Nodup ∧ W.length ≤ 1000 ∧ (∀ e ∈ W, e.2.natAbs ≤ 99) ∧
  Dp K H vp (dPap t pots (l.map (·.1)) (m.map (·.1))) ∧ RateX C W t pots l m ks h ∧ PapOk t pots (l.map (·.1)) (m.map (·.1)) ∧ SqL K H pn (ns.map vN) ∧ (∀ n ∈ ns, n ≤ 1000) ∧ ∀ H', Same H H' → Q (.bl true) H'
section
variable {P : Program} {w : World} {K : PySem.W.Frag} {mg : Str → Option Value} {base : Heap}
set_option maxHeartbeats 1000000 in
theorem ok__law_bounded (T : Txt K mg) (D_greatest : Kept P w K mg base 3 "greatest" ["chain", "worths", "n"] (spGreat K)) (D__law_is_ints : Kept P w K mg base 2 "_law_is_ints" ["row"] (spIsInts K)) (D__law_plus : Kept P w K mg base 2 "_law_plus" ["a", "b"] (spBin K add2)) (D__law_minus : Kept P w K mg base 2 "_law_minus" ["a", "b"] (spBin K sub2)) (D__law_times : Kept P w K mg base 2 "_law_times" ["a", "b"] (spBin K mul2)) (D__law_less : Kept P w K mg base 1 "_law_less" ["a", "b"] (spLess K)) {f : Addr} {fd : FuncData} (F : FnP K "_law_bounded" s__law_bounded f fd) : FnOk P w K mg base CX0 4 f fd ["chain", "worths", "paper", "counts"] (spBdd K) := by
  refine F.ok sc__law_bounded (fun vs H Q E h => ?_) (fun cdv A outer s H vs Q E hr h => ?_)
  · obtain ⟨vc, vw, vp, pn, b, C, W, t, pots, l, m, ks, h, ns, rfl, _⟩ := h
    rfl
  · obtain ⟨vc, vw, vp, pn, b, C, W, t, pots, l, m, ks, h, ns, rfl, hC, ok, hw, nd, wl, hW, hP, x, po, hpn, n1000, q⟩ := h
    refine ⟨_, PSs.nox (pss_cons (ps_set (i := 4) sc__law_bounded.nd rfl (Or.inl rfl) (pe_ix ix_tup (pe_ix ix_tup (pv 2) pe_int (fun _ _ => rfl)) pe_int (fun _ _ => rfl)))
      (pss_cons (ps_for PassesOwn.never rfl (pi_tup (pe_ix ix_tup (pv 2) pe_int (fun _ _ => rfl))) (pg_name (i := 5) sc__law_bounded.nd rfl (Or.inl rfl)) (pss_one (ps_if (PW.pt (pw_and (pt_cmpR op_notN (pv 5) pe_non (nomark _)) (pw_and1 (pt_val (pe_d D__law_less (hr.mono (by decide)) (by rfl) (pa_cons (pv 5) (pa_cons (pv 4) pa_nil))))))) (pss_one (ps_set (i := 4) sc__law_bounded.nd rfl (Or.inl rfl) (pv 5))) pss_nil)))
      (pss_cons (ps_for PassesOwn.never rfl (pi_list (pv 3)) (pg_name (i := 6) sc__law_bounded.nd rfl (Or.inl rfl)) (pss_cons (ps_set (i := 7) sc__law_bounded.nd rfl (Or.inl rfl) (pe_d D_greatest (hr.mono (by decide)) (by rfl) (pa_cons (pv 0) (pa_cons (pv 1) (pa_cons (pv 6) pa_nil)))))
      (pss_cons (ps_if (PW.pt (pw_or (pt_not (pt_val (pe_d D__law_is_ints (hr.mono (by decide)) (by rfl) (pa_cons (pv 7) pa_nil)))) (pw_or1 (pt_cmpR op_ne (pe_callB call_len (by rfl) T.b_len (by decide +kernel) (pa_cons (pv 7) pa_nil)) pe_int (nomark _))))) (pss_one (ps_ret pe_bl)) pss_nil)
      (pss_cons (ps_set (i := 8) sc__law_bounded.nd rfl (Or.inl rfl) (pe_d D__law_plus (hr.mono (by decide)) (by rfl) (pa_cons (pe_d D__law_times (hr.mono (by decide)) (by rfl) (pa_cons (pe_ix ix_tup (pv 2) pe_int (fun _ _ => rfl)) (pa_cons (pe_tup (pa_cons (pv 6) (pa_cons pe_int pa_nil))) pa_nil))) (pa_cons (pe_d D__law_minus (hr.mono (by decide)) (by rfl) (pa_cons (pe_ix ix_tup (pe_ix ix_tup (pv 2) pe_int (fun _ _ => rfl)) pe_int (fun _ _ => rfl)) (pa_cons (pv 4) pa_nil))) pa_nil))))
      (pss_one (ps_if (pt_val (pe_d D__law_less (hr.mono (by decide)) (by rfl) (pa_cons (pv 8) (pa_cons (pe_tup (pa_cons (pe_ix ix_tup (pv 7) pe_int (fun _ _ => rfl)) (pa_cons pe_int pa_nil))) pa_nil)))) (pss_one (ps_ret pe_bl)) pss_nil))))))
      (pss_one (ps_ret pe_bl))))), ?_⟩
    have lt := x.rc.lt
    have tpos := x.low.pos
    have clo := x.rc.clo W
    have mpos : 0 < t.2.toNat := by omega
    have em : (t.2.toNat : Int) = t.2 := by omega
    have ofp : ∀ f, some f ∈ pots → ∃ s ∈ ks, f = fr (h s) t.2 := fun f hf => by
      rw [x.pots] at hf
      obtain ⟨u, _, e⟩ := List.mem_map.mp hf
      by_cases c : u ∈ ks
      · rw [if_pos c] at e
        exact ⟨u, c, (Option.some.inj e).symm⟩
      · rw [if_neg c] at e
        cases e
    have inp : ∀ s ∈ ks, some (fr (h s) t.2) ∈ pots := fun s hs => by
      refine gp_mem (i := s) ?_
      rw [x.pots, gp_pots lt, if_pos hs]
    have gp0 : gp pots 0 = some (fr (h 0) t.2) := by rw [x.pots, gp_pots lt, if_pos x.rc.zero]
    have h0i := inp 0 x.rc.zero
    have plen : 0 < pots.length := List.length_pos_of_mem h0i
    obtain ⟨pp, us, rfl, hpp, hus⟩ := dp_tup hP
    obtain ⟨x0, _, rfl, hx0, hus⟩ := dpA_cons hus
    obtain ⟨x1, _, rfl, hx1, hus⟩ := dpA_cons hus
    obtain ⟨x2, _, rfl, hx2, hus⟩ := dpA_cons hus
    obtain ⟨x3, _, rfl, hx3, hus⟩ := dpA_cons hus
    cases dpA_nil hus
    obtain ⟨p0, rfl, hp0⟩ := f2_at hx0
    obtain ⟨p1, ys, rfl, hp1, hys⟩ := dp_tup hx1
    have yl := dpA_len hys
    rw [List.length_map] at yl
    obtain ⟨y0, hy0, hpot⟩ := pot_at hys plen
    rw [gp0] at hpot
    obtain ⟨pa, rfl, hpa⟩ := hpot
    refine ⟨_, rfl, pp, _, _, _, rfl, rfl, hpp, atI_nat (j := 1) rfl, p1, _, _, _, rfl, rfl, hp1, atI_nat (j := 0) hy0, ?_⟩
    refine ⟨_, rfl, pp, _, _, _, rfl, rfl, hpp, atI_nat (j := 1) rfl, p1, rfl, ⟨_, hp1⟩, for_tup (K := K) (a := p1) (xs := ys) (fun i σ H' => ∃ (pl : Addr) (f : F2) (y5 : Option V), σ = [some vc, some vw, some (.ref pp), some (.ref pn), some (.ref pl), y5, none, none, none] ∧ H' = H ∧ SqT K H pl (tupV f) ∧ some f ∈ pots ∧ ∀ g, some g ∈ pots.take i → lessB g f = false) ⟨pa, _, _, rfl, rfl, hpa, h0i, fun _ hg => absurd hg List.not_mem_nil⟩ (fun i σ H' _ ⟨_, _, _, _, e, _⟩ => e ▸ hp1) ?_ ?_⟩
    · rintro i y σ H1 hi ⟨pl, f, y5, rfl, rfl, hpl, fin, lo⟩
      obtain ⟨o, ho, hy⟩ := dpA_mem hys hi
      cases o with
      | none =>
        obtain rfl := dp_non hy
        refine ⟨_, rfl, rfl, _, rfl, ite2 (fun h => absurd h (by show ¬ (!decide (V.non = V.non)) = true; decide)) (fun _ => ite2 (fun h => (nomatch (show false = true from h))) (fun _ => ?_))⟩
        refine ⟨pl, f, _, rfl, rfl, hpl, fin, fun g hg => ?_⟩
        rw [take_snoc ho] at hg
        rcases List.mem_append.mp hg with m' | m'
        · exact lo g m'
        · exact absurd (List.mem_singleton.mp m') (by simp)
      | some g =>
        obtain ⟨pg, rfl, hpg⟩ := f2_at hy
        have gin := List.mem_of_getElem? ho
        obtain ⟨lg, zg⟩ := po.pot g gin
        obtain ⟨lf, zf⟩ := po.pot f fin
        have pg' := lg.pos
        have pf' := lf.pos
        refine ⟨_, rfl, rfl, _, rfl, ite2 (fun _ => ?_) (fun h => absurd rfl h)⟩
        refine ⟨_, rfl, _, rfl, pg, pl, g, f, rfl, hpg, hpl, sz_up zg (by decide), sz_up zf (by decide), ?_⟩
        cases hc : lessB g f with
        | true =>
          refine ⟨_, rfl, ite2 (fun _ => ?_) (fun h => absurd rfl h)⟩
          refine ⟨_, rfl, pg, g, _, rfl, rfl, hpg, gin, fun x' hx' => ?_⟩
          rw [take_snoc ho] at hx'
          cases hh : lessB x' g with
          | false => rfl
          | true =>
            rcases List.mem_append.mp hx' with m' | m'
            · have xm := List.mem_of_mem_take m'
              have px := (po.pot x' xm).1.pos
              have := less_trans (f := f) (by omega) (by omega) (by omega) hh hc
              rw [lo x' m'] at this
              cases this
            · have e := List.mem_singleton.mp m'
              rw [Option.some.inj e] at hh
              have := of_decide_eq_true hh
              omega
        | false =>
          refine ⟨_, rfl, ite2 (fun h => (nomatch (show false = true from h))) (fun _ => ?_)⟩
          refine ⟨pl, f, _, rfl, rfl, hpl, fin, fun x' hx' => ?_⟩
          rw [take_snoc ho] at hx'
          rcases List.mem_append.mp hx' with m' | m'
          · exact lo x' m'
          · have e := List.mem_singleton.mp m'
            rw [Option.some.inj e]
            exact hc
    · rintro σ H1 ⟨pl, f, y5, rfl, rfl, hpl, fin, lo⟩
      rw [yl, List.take_length] at lo
      obtain ⟨s1, hs1, rfl⟩ := ofp f fin
      have least : ∀ s ∈ ks, h s1 ≤ h s := fun s hs => by
        have := of_decide_eq_false (lo _ (inp s hs))
        have := mt (Fr.less (Fr.quot (h s) x.low) (Fr.quot (h s1) x.low)).mpr this
        omega
      have okR := ROk.of ok W
      have rB : ∀ r ∈ C.map (wRow W), ∀ e ∈ r, e.1.natAbs ≤ 600 := fun r hr e he => by
        obtain ⟨r0, h0, rfl⟩ := List.mem_map.mp hr
        obtain ⟨b', hb, rfl⟩ := List.mem_map.mp he
        have := wv_le hW b'.2.1
        have := ((ok.row _ h0).to b' hb).2
        show (wv W b'.2.1).natAbs ≤ 600
        omega
      have rowW : ∀ s ∈ ks, ∀ r, (C.map (wRow W))[s]? = some r → r = gG C W s := fun s hs r hr => by
        rw [List.getElem?_map, rowOf_at (lt s hs)] at hr
        exact (Option.some.inj hr).symm
      have bound : ∀ n, t.2 * at0 (hi (C.map (wRow W)) n) 0 ≤ t.1 * (n : Int) + h 0 - h s1 := fun n => by
        refine hi_le okR (ks := ks) (fun s hs => by rw [List.length_map]; exact lt s hs) (fun s hs r hr e he => ?_) (fun s hs r hr e he => ?_) least n 0 x.rc.zero
        · rw [rowW s hs r hr] at he
          exact clo.on s hs e he
        · rw [rowW s hs r hr] at he
          have := x.hg s hs (phi t e) (List.mem_map.mpr ⟨e, he, rfl⟩)
          have : e.1 * t.2 - t.1 + h e.2 ≤ h s := this
          rw [Int.mul_comm]
          exact this
      refine ⟨_, rfl, pn, rfl, ⟨_, hpn⟩, for_list (K := K) (a := pn) (xs := ns.map vN) (fun i σ H' => ∃ (y5 y6 y7 y8 : Option V), σ = [some vc, some vw, some (.ref pp), some (.ref pn), some (.ref pl), y5, y6, y7, y8] ∧ Same H1 H') ⟨_, _, _, _, rfl, Same.refl _⟩ (fun i σ H' _ ⟨_, _, _, _, _, s⟩ => same_l s hpn) ?_ ?_⟩
      · rintro i y σ H2 hi' ⟨y5, y6, y7, y8, rfl, s2⟩
        rw [List.getElem?_map] at hi'
        obtain ⟨n, hn, rfl⟩ := Option.map_eq_some_iff.mp hi'
        have nle := n1000 n (List.mem_of_getElem? hn)
        refine ⟨_, rfl, _, rfl, _, rfl, vc, vw, n, b, C, W, rfl, dp_same s2 _ _ hC, ok, hw.same s2, nd, wl, by omega, fun H3 p3 s3 hp3 => ?_⟩
        have s03 := s2.trans s3
        have hz := hi_sz okR rB n 0
        have hbd := bound n
        generalize at0 (hi (C.map (wRow W)) n) 0 = top at hp3 hz hbd
        generalize at0 (Mt.lo (C.map (wRow W)) n) 0 = bot at hp3
        have hT3 : SqT K H3 p3 ([bot, top].map V.int) := SqT.of hp3
        refine ⟨_, rfl, p3, [bot, top], rfl, hT3, by show 2 ≤ 100; decide, fun H4 s4 => ⟨_, rfl, iteNT ?_⟩⟩
        have s04 := s03.trans s4
        have hT4 := same_t s4 hT3
        refine ⟨_, rfl, _, _, rfl, .inr ⟨_, hT4, rfl⟩, rfl, _, rfl, ite2 (fun h => absurd h (by show ¬ (!decide (V.int ((2 : Nat) : Int) = V.int 2)) = true; decide)) (fun _ => ?_)⟩
        have szn : Sz 10 ((n : Int), 1) := ⟨by show ((n : Int)).natAbs < 2 ^ 10; omega, by show (1 : Int).natAbs < 2 ^ 10; decide⟩
        obtain ⟨l0, z0⟩ := po.pot _ h0i
        obtain ⟨l1, z1'⟩ := po.pot _ fin
        refine ⟨_, rfl, pp, _, _, _, rfl, rfl, same_t s04 hpp, atI_nat (j := 0) rfl, _, rfl, z2, fun pq hpq => ?_⟩
        have s5 := same_new (o := .tup [vN n, .int 1]) hpq
        have hpq5 := upd_same (H := H4) (a := pq) (o := .tup [vN n, .int 1])
        generalize upd H4 pq (.tup [vN n, .int 1]) = H5 at s5 hpq5
        have s05 := s04.trans s5
        refine ⟨p0, pq, t, ((n : Int), 1), rfl, same_t s05 hp0, SqT.of hpq5, sz_up po.sz (by decide), sz_up szn (by decide), mul2_ne x.low (low_int _), fun pr hpr => ?_⟩
        have f1 := (Fr.own x.low).mul (Fr.int (n : Int) (M := 1) Nat.one_pos)
        have zz1 : Sz 1011 (frp (mul2 t ((n : Int), 1))) := fr_sz (mul2_sz po.sz szn)
        have s6 := same_new (o := tupF (frp (mul2 t ((n : Int), 1)))) hpr
        have hpr6 := sq_new (K := K) (H := H5) (p := pr) (f := frp (mul2 t ((n : Int), 1)))
        generalize frp (mul2 t ((n : Int), 1)) = A at f1 zz1 s6 hpr6
        generalize upd H5 pr (tupF A) = H6 at s6 hpr6
        have s06 := s05.trans s6
        refine ⟨_, rfl, pp, _, _, _, rfl, rfl, same_t s06 hpp, atI_nat (j := 1) rfl, p1, _, _, _, rfl, rfl, same_t s06 hp1, atI_nat (j := 0) hy0, _, rfl, pa, pl, _, _, rfl, same_t s06 hpa, same_t s06 hpl, sz_up z0 (by decide), sz_up z1' (by decide), add2_ne l0 l1, fun ps hps => ?_⟩
        have f2 := (Fr.quot (h 0) x.low).sub (Fr.quot (h s1) x.low)
        have zz2 : Sz 2001 (frp (sub2 (fr (h 0) t.2) (fr (h s1) t.2))) := fr_sz (sub2_sz z0 z1')
        have s7 := same_new (o := tupF (frp (sub2 (fr (h 0) t.2) (fr (h s1) t.2)))) hps
        have hps7 := sq_new (K := K) (H := H6) (p := ps) (f := frp (sub2 (fr (h 0) t.2) (fr (h s1) t.2)))
        generalize frp (sub2 (fr (h 0) t.2) (fr (h s1) t.2)) = D at f2 zz2 s7 hps7
        generalize upd H6 ps (tupF D) = H7 at s7 hps7
        refine ⟨pr, ps, A, D, rfl, same_t s7 hpr6, hps7, sz_up zz1 (by decide), sz_up zz2 (by decide), add2_ne f1.low f2.low, fun pm hpm => ?_⟩
        have f1' : Fr A (t.1 * (n : Int)) t.2.toNat := by
          have h1 := f1
          rw [Nat.mul_one, show (n : Int) * ((1 : Nat) : Int) = n by simp] at h1
          exact h1
        have f3 := f1'.add f2
        have zz3 : Sz 3013 (frp (add2 A D)) := fr_sz (add2_sz zz1 zz2)
        have s8 := same_new (o := tupF (frp (add2 A D))) hpm
        have hpm8 := sq_new (K := K) (H := H7) (p := pm) (f := frp (add2 A D))
        generalize frp (add2 A D) = M at f3 zz3 s8 hpm8
        generalize upd H7 pm (tupF M) = H8 at s8 hpm8
        have s48 := s5.trans (s6.trans (s7.trans s8))
        refine ⟨_, rfl, _, rfl, p3, _, _, _, rfl, rfl, same_t s48 hT4, atI_nat (j := 1) rfl, z2, fun pt hpt => ?_⟩
        have s9 := same_new (o := .tup [.int top, .int 1]) hpt
        have hpt9 := upd_same (H := H8) (a := pt) (o := .tup [.int top, .int 1])
        generalize upd H8 pt (.tup [.int top, .int 1]) = H9 at s9 hpt9
        have szt : Sz 20 (top, 1) := ⟨by show top.natAbs < 2 ^ 20; omega, by show (1 : Int).natAbs < 2 ^ 20; decide⟩
        refine ⟨pm, pt, M, (top, 1), rfl, same_t s9 hpm8, SqT.of hpt9, sz_up zz3 (by decide), sz_up szt (by decide), ?_⟩
        have f4 := Fr.int top mpos
        have no : lessB M (top, 1) = false := decide_eq_false (mt (Fr.less f3 f4).mp (by
          rw [em, Int.mul_comm top]
          omega))
        rw [no]
        refine ⟨_, rfl, ite2 (fun h => (nomatch (show false = true from h))) (fun _ => ?_)⟩
        exact ⟨_, _, _, _, rfl, s04.trans (s48.trans s9)⟩
      · rintro σ H2 ⟨y5, y6, y7, y8, rfl, s2⟩
        exact q _ s2
end
end Mt
namespace Mt
open PySem PySem.Spec PyProof.Rows L2
section
variable {X : Cx}
/-- a thing that an expression gives, locked from there on -/
def tFrz (td : TE) : TE := fun σ H Q => td σ H fun x H1 => ∃ d u, x = .ref d ∧ H1 d = some u ∧ Mut (some u) ∧ ∀ od, Q x (upd H1 d (.frz od u))
theorem pe_frz {e : Expr} {td : TE} (he : PE X e td) : PE X e (tFrz td) := ⟨fun pins s σ H Q I h => thn (he.run pins s σ H _ I h) fun v s1 ⟨x, H1, I1, r1, d, u, e, hd, mu, q⟩ => by
  obtain ⟨od, I2⟩ := I1.lock hd mu
  exact ⟨x, _, I2, r1, q od⟩⟩
end
def spAsk (K : PySem.W.Frag) : Sp := fun vs H Q _ => ∃ (vc vw : V) (pn : Addr) (base : Int) (C : Chn) (W : List (Str × Int)) (ns : List Nat), vs = [vc, vw, .ref pn] ∧ Dp K H vc (dChn base C) ∧ ChnOk base C ∧ WAt K H vw W ∧ (W.map (·.1)).Nodup ∧ W.length ≤ 1000 ∧ (∀ e ∈ W, e.2.natAbs ≤ 99) ∧
  SqL K H pn (ns.map vN) ∧ (∀ n ∈ ns, n ≤ 1000) ∧ ∀ H', Same H H' → Q (.bl true) H'
theorem rdc_walk {C : Chn} {ks : List Nat} (z : 0 ∈ ks) (on : ∀ s ∈ ks, ∀ b ∈ rowOf C s, b.2.2 ∈ ks) {s : Nat} (h : RdC C s) : s ∈ ks := by
  induction h with
  | zero => exact z
  | step _ hb ih => exact on _ ih _ hb
theorem RateX.sum {base : Int} {C : Chn} {W : List (Str × Int)} {t : F2} {pots : List (Option F2)} {l m : List Br} {ks : List Nat} {h : Nat → Int} (x : RateX C W t pots l m ks h) (ok : ChnOk base C) (o1 : BOk C 0 l) (i1 : stA 0 l ∈ ks) (o2 : BOk (tiOf C W t ks h) (stA 0 l) m) (o3 : BOk C (stA 0 l) m) (e2 : stA (stA 0 l) m = stA 0 l) (ne : m ≠ []) :
    t.1 * (m.length : Int) = wsum W m * t.2 := by
  obtain ⟨l', m', e, f⟩ := (x.take ok o1 i1 o2 e2 ne).ring
  have rb : ringB C (l.map (·.1)) (m.map (·.1)) = some (l, m) := by
    unfold ringB
    rw [along_of ok ok.pos o1]
    have h2 := along_of ok (x.rc.lt _ i1) o3
    have ne2 : ¬ m.map (·.1) = [] := fun z => ne (List.map_eq_nil_iff.mp z)
    show (if m.map (·.1) = [] then none else match alongB C (stA 0 l) (m.map (·.1)) with | none => none | some m => if stA (stA 0 l) m = stA 0 l then some (l, m) else none) = _
    rw [if_neg ne2, h2]
    show (if stA (stA 0 l) m = stA 0 l then some (l, m) else none) = _
    rw [if_pos e2]
  rw [rb] at e
  injection Option.some.inj e with e1 e3
  subst e1
  subst e3
  have v := frv (n := (mul2 t (((m.map (·.1)).length : Int), 1)).1) (d := (mul2 t (((m.map (·.1)).length : Int), 1)).2) (mul2_ne x.low (low_int _))
  have v : (frp (mul2 t (((m.map (·.1)).length : Int), 1))).1 * (t.2 * 1) = (t.1 * ((m.map (·.1)).length : Int)) * (frp (mul2 t (((m.map (·.1)).length : Int), 1))).2 := v
  rw [f] at v
  have v : wsum W m * (t.2 * 1) = (t.1 * ((m.map (·.1)).length : Int)) * 1 := v
  rw [Int.mul_one, Int.mul_one, List.length_map] at v
  exact v.symm
/-- a third more or less is another pace -/
theorem third_ne {t : F2} (lt : Low t) {e : Int} (he : e = 1 ∨ e = -1) (z : t = frp (add2 t (e, 3))) : False := by
  have p := lt.pos
  have v := frv (n := (add2 t (e, 3)).1) (d := (add2 t (e, 3)).2) (by show t.2 * 3 ≠ 0; omega)
  have v : (frp (add2 t (e, 3))).1 * (t.2 * 3) = (t.1 * 3 + e * t.2) * (frp (add2 t (e, 3))).2 := v
  rw [← z] at v
  have z2 : e * (t.2 * t.2) = 0 := by grind
  have pp : 0 < t.2 * t.2 := Int.mul_pos (by omega) (by omega)
  rcases he with rfl | rfl <;> omega
theorem low_third {e : Int} (he : e = 1 ∨ e = -1) : Low (e, 3) := by
  rcases he with rfl | rfl <;> exact ⟨by decide, by decide⟩
section
variable {P : Program} {w : World} {K : PySem.W.Frag} {mg : Str → Option Value} {base : Heap}
set_option maxHeartbeats 2000000 in
theorem ok__law_asked (T : Txt K mg) (D_rate : Kept P w K mg base 4 "rate" ["chain", "worths"] (spRate K)) (D_judge_rate : Kept P w K mg base 4 "judge_rate" ["chain", "worths", "paper"] (spJRate K)) (D__law_plus : Kept P w K mg base 2 "_law_plus" ["a", "b"] (spBin K add2)) (D__law_ways_to : Kept P w K mg base 1 "_law_ways_to" ["chain"] (spWays K)) (D__law_best_ring : Kept P w K mg base 2 "_law_best_ring" ["chain", "worths", "states"] (spBestX K)) (D__law_rate_taken : Kept P w K mg base 3 "_law_rate_taken" ["chain", "worths", "paper"] (spTaken K)) (D__law_is_bool : Kept P w K mg base 1 "_law_is_bool" ["told", "due"] spIsBool) (D__law_is_paper : Kept P w K mg base 5 "_law_is_paper" ["paper"] (spIsPap K)) (D__law_lasso_walked : Kept P w K mg base 3 "_law_lasso_walked" ["chain", "worths", "paper"] (spLasso K)) (D__law_bounded : Kept P w K mg base 4 "_law_bounded" ["chain", "worths", "paper", "counts"] (spBdd K)) {f : Addr} {fd : FuncData} (F : FnP K "_law_asked" s__law_asked f fd) : FnOk P w K mg base CX0 6 f fd ["chain", "worths", "counts"] (spAsk K) := by
  refine F.ok sc__law_asked (fun vs H Q E h => ?_) (fun cdv A outer s H vs Q E hr h => ?_)
  · obtain ⟨vc, vw, pn, b, C, W, ns, rfl, _⟩ := h
    rfl
  · obtain ⟨vc, vw, pn, b, C, W, ns, rfl, hC, okC, hw, nd, wl, hW, hpn, n1000, q⟩ := h
    refine ⟨_, PSs.nox (pss_cons (ps_setLc (i := 3) (own := [("s", 4)]) (g := (gName 4)) (tt := tYes) rfl sc__law_asked.nd rfl rfl (sw_true rfl rfl rfl (by decide +kernel)) (pi_keys (pe_frz (pe_d D__law_ways_to (hr.mono (by decide)) (by rfl) (pa_cons (pv 0) pa_nil)))) (blkOk_by (N := N__law_asked) (sc := defScope s__law_asked) (by decide +kernel)) (fun _ _ _ _ _ => (pg_name (i := 4) sc__law_asked.nd rfl (Or.inl rfl))) (fun _ _ _ _ _ => pts_nil) (fun _ _ _ _ _ => (pv 4)))
      (pss_cons (ps_set (i := 5) sc__law_asked.nd rfl (Or.inl rfl) (pe_d D__law_best_ring (hr.mono (by decide)) (by rfl) (pa_cons (pv 0) (pa_cons (pv 1) (pa_cons (pv 3) pa_nil)))))
      (pss_cons (ps_set (i := 6) sc__law_asked.nd rfl (Or.inl rfl) (pe_d D_rate (hr.mono (by decide)) (by rfl) (pa_cons (pv 0) (pa_cons (pv 1) pa_nil))))
      (pss_cons (ps_if (PW.pt (pw_or (pt_not (pt_val (pe_d D__law_is_paper (hr.mono (by decide)) (by rfl) (pa_cons (pv 6) pa_nil)))) (pw_or (pt_cmpR (op_neD (hr.units)) (pe_ix ix_tup (pv 6) pe_int (fun _ _ => rfl)) (pe_ix ix_tup (pv 5) pe_int (fun _ _ => rfl)) (nomark _)) (pw_or1 (pt_not (pt_val (pe_d D__law_rate_taken (hr.mono (by decide)) (by rfl) (pa_cons (pv 0) (pa_cons (pv 1) (pa_cons (pv 6) pa_nil)))))))))) (pss_one (ps_ret pe_bl)) pss_nil)
      (pss_cons (ps_if (pt_not (pt_val (pe_d D__law_is_bool (hr.mono (by decide)) (by rfl) (pa_cons (pe_d D_judge_rate (hr.mono (by decide)) (by rfl) (pa_cons (pv 0) (pa_cons (pv 1) (pa_cons (pv 6) pa_nil)))) (pa_cons pe_bl pa_nil))))) (pss_one (ps_ret pe_bl)) pss_nil)
      (pss_cons (ps_for PassesOwn.never rfl (pi_list (pe_lst (pa_cons (pe_tup (pa_cons pe_int (pa_cons pe_int pa_nil))) (pa_cons (pe_tup (pa_cons (pe_un un_neg pe_int) (pa_cons pe_int pa_nil))) pa_nil)))) (pg_name (i := 7) sc__law_asked.nd rfl (Or.inl rfl)) (pss_cons (ps_set (i := 8) sc__law_asked.nd rfl (Or.inl rfl) (pe_op op_catA (pe_tup (pa_cons (pe_d D__law_plus (hr.mono (by decide)) (by rfl) (pa_cons (pe_ix ix_tup (pv 6) pe_int (fun _ _ => rfl)) (pa_cons (pv 7) pa_nil))) pa_nil)) (pe_slice sl_tupA (pv 6) (po_some pe_int) po_none)))
      (pss_one (ps_if (pt_not (pt_val (pe_d D__law_is_bool (hr.mono (by decide)) (by rfl) (pa_cons (pe_d D_judge_rate (hr.mono (by decide)) (by rfl) (pa_cons (pv 0) (pa_cons (pv 1) (pa_cons (pv 8) pa_nil)))) (pa_cons pe_bl pa_nil))))) (pss_one (ps_ret pe_bl)) pss_nil))))
      (pss_one (ps_ret (pe_and (pe_d D__law_lasso_walked (hr.mono (by decide)) (by rfl) (pa_cons (pv 0) (pa_cons (pv 1) (pa_cons (pv 6) pa_nil)))) (pe_one (pe_d D__law_bounded (hr.mono (by decide)) (by rfl) (pa_cons (pv 0) (pa_cons (pv 1) (pa_cons (pv 6) (pa_cons (pv 2) pa_nil))))))))))))))), ?_⟩
    have few := okC.few
    refine ⟨_, rfl, vc, b, C, rfl, hC, okC, fun H1 dW kvs ks s1 hdW0 hdW kd rc rdc => ?_⟩
    refine ⟨dW, .dK kvs, rfl, hdW, True.intro, fun od => ⟨dW, od, rfl, .inl ⟨kvs, upd_same, fun L hL => lc_it walk_keys (fun i H' => Same (upd H1 dW (.frz od (.dK kvs))) H' ∧ H' L = some (.lst ((ks.take i).map vN))) ⟨same_new hL, upd_same⟩ (fun i H' _ e => e.1 _ _ upd_same) ?_ ?_⟩⟩⟩
    · rintro i x H2 H2' hi ⟨s2, hL2⟩ ⟨rfl, key, v0, hkv, rfl⟩
      obtain ⟨st, hst, rfl⟩ := kd.at_ hkv
      refine ⟨rfl, _, rfl, _, hL2, by rw [List.length_map, List.length_take]; have := kd.few; exact line6 (by omega), same_mut s2 hL, ?_⟩
      rw [upd_same, take_snoc hst, List.map_append]
      rfl
    · rintro H2 ⟨s2, hL2⟩
      rw [kd.len, List.take_length] at hL2
      have h0 : H dW = none := hdW0
      have s02 : Same H H2 := fun a o ha => s2 _ _ (by
        have n : a ≠ dW := fun z => by rw [z, h0] at ha; cases ha
        rw [upd_ne n]
        exact s1 _ _ ha)
      have hw2 := hw.same s02
      refine ⟨_, rfl, _, rfl, _, rfl, vc, vw, L, b, C, W, ks, rfl, dp_same s02 _ _ hC, okC, hw2.s, nd, wl, hW, hL2, rc, fun H4 vb s4 bo => ?_⟩
      obtain ⟨pB, pp, st, pw, pace, rfl, hpB, hpp, lp, zp, stk, wpw, bp⟩ := bo
      have s04 := s02.trans s4
      refine ⟨_, rfl, _, rfl, vc, vw, b, C, W, rfl, dp_same s04 _ _ hC, okC, hw.same s04, nd, wl, hW, fun H5 vP t pots l m ks' h s5 hP x pok tz o1 i1 o2 e2 ne l100 m50 => ?_⟩
      have s05 := s04.trans s5
      have sP := BOk.short okC okC.pos o1
      have subT : ∀ s, rowOf (tiOf C W t ks' h) s ⊆ rowOf C s := fun s bb hbb => by
        rw [row_ti x.rc.lt] at hbb
        by_cases c : s ∈ ks'
        · rw [if_pos c] at hbb
          exact (List.mem_filter.mp hbb).1
        · rw [if_neg c] at hbb
          cases hbb
      have o3 := BOk.sub subT o2
      have sR := BOk.short okC (x.rc.lt _ i1) o3
      have w100 : ∀ w ∈ l.map (·.1), w.length ≤ 100 := fun w hw => by
        obtain ⟨bb, hb, rfl⟩ := List.mem_map.mp hw
        have := (sP bb hb).1
        omega
      have r100 : ∀ w ∈ m.map (·.1), w.length ≤ 100 := fun w hw => by
        obtain ⟨bb, hb, rfl⟩ := List.mem_map.mp hw
        have := (sR bb hb).1
        omega
      have et : t = pace := by
        have lx := x.low.pos
        have ly := lp.pos
        obtain ⟨s, hs, r, o, e, r1, z⟩ := x.rd
        obtain ⟨s', hs', r', o', e', r1', z'⟩ := bp.round
        have hsb : s ∈ ks := by
          obtain ⟨qq, oq, eq⟩ := x.reach s hs
          rw [← eq]
          exact rc.walk rc.zero oq
        have p1 := (pace_le (bp.no_more (rc.clo W)) (by omega) hsb o e r1 z).resolve_right (by omega)
        have p2 := (pace_le x.nm (by omega) (rdc_walk x.rc.zero x.rc.on (rdc s' hs')) o' e' r1' z').resolve_right (by omega)
        exact low_uniq x.low lp (Int.le_antisymm p1 p2)
      have tk := x.take okC o1 i1 o2 e2 ne
      have gt : gB (TakeP C W t pots (l.map (·.1)) (m.map (·.1))) = true := gB_t tk
      refine ⟨_, rfl, vP, t, pots, _, _, rfl, hP, pok, w100, r100, fun H6 s6 => ⟨_, rfl, ite2 (fun h => (nomatch (show false = true from h))) (fun _ => ?_)⟩⟩
      obtain ⟨pP, us, rfl, hpP, hus⟩ := dp_tup (id hP)
      obtain ⟨x0, _, rfl, hx0, hus⟩ := dpA_cons hus
      obtain ⟨x1, _, rfl, hx1, hus⟩ := dpA_cons hus
      obtain ⟨x2, _, rfl, hx2, hus⟩ := dpA_cons hus
      obtain ⟨x3, _, rfl, hx3, hus⟩ := dpA_cons hus
      cases dpA_nil hus
      have s06 := s05.trans s6
      refine ⟨_, rfl, pP, _, _, _, rfl, rfl, same_t s6 hpP, atI_nat (j := 0) rfl, ?_⟩
      refine ⟨_, rfl, pB, _, _, _, rfl, rfl, same_t (s5.trans s6) hpB, atI_nat (j := 0) rfl, ?_⟩
      refine ⟨dF t, dF pace, dp_same s6 _ _ hx0, dp_F (same_t (s5.trans s6) hpp), dF_sh _, dF_sh _, ?_⟩
      rw [← et, dF_eqv]
      refine ⟨_, rfl, ite2 (fun h => (nomatch (show false = true from h))) (fun _ => ?_)⟩
      have hw6 := hw.same s06
      have hC6 := dp_same s06 _ _ hC
      have hP6 : Dp K H6 (.ref pP) (dPap t pots (l.map (·.1)) (m.map (·.1))) := dp_same s6 _ _ hP
      refine ⟨_, rfl, _, rfl, _, rfl, vc, vw, .ref pP, b, C, W, t, pots, _, _, rfl, hC6, okC, hw6, nd, wl, hW, hP6, pok, fun H7 s7 => ?_⟩
      rw [gt]
      refine ⟨_, rfl, iteNT ?_⟩
      have s07 := s06.trans s7
      refine ⟨_, rfl, _, rfl, _, rfl, vc, vw, .ref pP, b, C, W, t, pots, _, _, rfl, dp_same s07 _ _ hC, okC, hw.same s07, nd, wl, hW, dp_same s7 _ _ hP6, pok, fun H8 s8 => ?_⟩
      rw [gt]
      refine ⟨_, _, rfl, ⟨_, rfl, iteNT ?_⟩⟩
      have s08 := s07.trans s8
      refine ⟨z2, fun p1 hp1 => ⟨_, rfl, z2, fun p2 hp2 => ⟨z2, fun Lm hLm => ⟨Lm, rfl, ⟨_, SqL.of upd_same⟩, ?_⟩⟩⟩⟩
      have sa := same_new (o := .tup [.int 1, .int 3]) hp1
      have ha := upd_same (H := H8) (a := p1) (o := .tup [.int 1, .int 3])
      generalize upd H8 p1 (.tup [.int 1, .int 3]) = H9 at sa ha hp2 hLm
      have sb := same_new (o := .tup [.int (-1), .int 3]) hp2
      have hb := upd_same (H := H9) (a := p2) (o := .tup [.int (-1), .int 3])
      generalize upd H9 p2 (.tup [.int (-1), .int 3]) = H10 at sb hb hLm
      have sc := same_new (o := .lst [.ref p1, .ref p2]) hLm
      have hL := upd_same (H := H10) (a := Lm) (o := .lst [.ref p1, .ref p2])
      generalize upd H10 Lm (.lst [.ref p1, .ref p2]) = H11 at sc hL
      have ha := SqT.of (K := K) (sc _ _ (sb _ _ ha))
      have hb := SqT.of (K := K) (sc _ _ hb)
      have key : ∀ (i : Nat) (y : V), [V.ref p1, .ref p2][i]? = some y → ∃ (p : Addr) (e : Int), y = .ref p ∧ SqT K H11 p (tupV (e, 3)) ∧ (e = 1 ∨ e = -1) := fun i y hy => by
        match i, hy with
        | 0, h => exact ⟨p1, 1, (Option.some.inj h).symm, ha, .inl rfl⟩
        | 1, h => exact ⟨p2, -1, (Option.some.inj h).symm, hb, .inr rfl⟩
        | i + 2, h => cases h
      have s611 := s7.trans (s8.trans (sa.trans (sb.trans sc)))
      have s011 := s06.trans s611
      obtain ⟨p0, rfl, hp0⟩ := f2_at hx0
      refine for_list (K := K) (a := Lm) (xs := [.ref p1, .ref p2]) (fun i σ H' => ∃ y7 y8 : Option V, σ = [some vc, some vw, some (.ref pn), some (.ref L), none, some (.ref pB), some (.ref pP), y7, y8] ∧ Same H11 H') ⟨_, _, rfl, Same.refl _⟩ (fun i σ H' _ ⟨_, _, _, s⟩ => SqL.of (s _ _ hL)) ?_ ?_
      · rintro i y σ H12 hi ⟨y7, y8, rfl, s12⟩
        obtain ⟨p, e, rfl, hpe, he⟩ := key i y hi
        have s612 := s611.trans s12
        have hpP12 := same_t (s6.trans s612) hpP
        have l3 := low_third he
        have z3 : Sz 2 (e, 3) := by rcases he with rfl | rfl <;> exact ⟨by decide, by decide⟩
        refine ⟨_, rfl, pP, _, _, _, rfl, rfl, hpP12, atI_nat (j := 0) rfl, _, rfl, p0, p, t, (e, 3), rfl, same_t (s6.trans s612) hp0, same_t s12 hpe, sz_up tz (by decide), sz_up z3 (by decide), add2_ne x.low l3, fun r hr' => ⟨z1, fun pt hpt => ?_⟩⟩
        have s13 := same_new (o := tupF (frp (add2 t (e, 3)))) hr'
        have hq := sq_new (K := K) (H := H12) (p := r) (f := frp (add2 t (e, 3)))
        have lt' : Low (frp (add2 t (e, 3))) := low_frp (add2_ne x.low l3)
        have zt' : Sz 1000 (frp (add2 t (e, 3))) := sz_up (fr_sz (add2_sz tz z3)) (by decide)
        have no := third_ne x.low he
        generalize frp (add2 t (e, 3)) = t' at s13 hq lt' zt' no hpt
        generalize upd H12 r (tupF t') = H13 at s13 hq hpt
        have s14 := same_new (o := .tup [.ref r]) hpt
        have hpt14 := upd_same (H := H13) (a := pt) (o := .tup [.ref r])
        generalize upd H13 pt (.tup [.ref r]) = H14 at s14 hpt14
        have s614 := s612.trans (s13.trans s14)
        have hpP14 := same_t (s6.trans s614) hpP
        refine ⟨_, rfl, _, rfl, noP ⟨pP, _, rfl, hpP14, fun h => absurd h.1 (by show ¬ HT.sIx 4 0 (some 1) = 0; decide), fun _ ps hps => ?_⟩⟩
        have ec : cutV [V.ref p0, x1, x2, x3] (some 1) none = [x1, x2, x3] := by
          rw [show (some 1 : Option Int) = some ((1 : Nat) : Int) from rfl, cut_from (by show 1 ≤ 4; decide)]
          rfl
        rw [ec]
        have s15 := same_new (o := .tup [x1, x2, x3]) hps
        have hps15 := upd_same (H := H14) (a := ps) (o := .tup [x1, x2, x3])
        generalize upd H14 ps (.tup [x1, x2, x3]) = H15 at s15 hps15
        have s615 := s614.trans s15
        have hc := cat_D (K := K) (H := H15) (ds := [dF t']) (es := [dPots pots, dWs (l.map (·.1)), dWs (m.map (·.1))]) (SqT.of (s15 _ _ hpt14)) (SqT.of hps15) (.cons (dp_F (same_t (s14.trans s15) hq)) .nil) (.cons (dp_same (s6.trans s615) _ _ hx1) (.cons (dp_same (s6.trans s615) _ _ hx2) (.cons (dp_same (s6.trans s615) _ _ hx3) .nil))) (by show 1 + 3 ≤ 1000; decide)
        refine catA_mono hc fun v H16 ⟨s16, hv⟩ => ?_
        have s616 := s615.trans s16
        have s016 := s06.trans s616
        refine ⟨_, rfl, _, rfl, _, rfl, vc, vw, v, b, C, W, t', pots, _, _, rfl, dp_same s016 _ _ hC, okC, hw.same s016, nd, wl, hW, hv, ⟨lt', zt', pok.pot, pok.l0, pok.l1, pok.l2⟩, fun H17 s17 => ?_⟩
        rw [gB_f fun z => no (TakeP.pace x.low lt' tk z)]
        refine ⟨_, _, rfl, ⟨_, rfl, iteNT ?_⟩⟩
        exact ⟨_, _, rfl, s12.trans (s13.trans (s14.trans (s15.trans (s16.trans s17))))⟩
      · rintro σ H12 ⟨y7, y8, rfl, s12⟩
        have s012 := s011.trans s12
        have sum := x.sum okC o1 i1 o2 o3 e2 ne
        have s612 := s611.trans s12
        refine ⟨_, rfl, _, rfl, _, rfl, vc, vw, .ref pP, b, C, W, t, pots, l, m, rfl, dp_same s012 _ _ hC, okC, (hw.same s012).s, nd, wl, hW, dp_same s612 _ _ hP6, x.low, sum, o1, o3, e2, ne, l100, m50, fun H13 s13 => ⟨true, rfl, ite2 (fun _ => ?_) (fun n => absurd rfl n)⟩⟩
        have s013 := s012.trans s13
        exact ⟨_, rfl, _, rfl, _, rfl, _, rfl, vc, vw, .ref pP, pn, b, C, W, t, pots, l, m, ks', h, ns, rfl, dp_same s013 _ _ hC, okC, hw.same s013, nd, wl, hW, dp_same (s612.trans s13) _ _ hP6, x, pok, same_l s013 hpn, n1000, fun H14 s14 => q _ (s013.trans s14)⟩
end
end Mt
namespace Mt
open PySem PySem.Spec PyProof.Rows L2
theorem pool_nd : POOL.Nodup := by decide +kernel
theorem nodup_move {α : Type} {l m : List α} {i : Nat} {z : α} (h : (l ++ m).Nodup) (e : l[i]? = some z) : (l.eraseIdx i ++ (m ++ [z])).Nodup := by
  have p : (l.eraseIdx i ++ (m ++ [z])).Perm (l ++ m) := by
    have p1 : (l.eraseIdx i ++ (m ++ [z])).Perm (z :: (l.eraseIdx i ++ m)) := by
      rw [← List.append_assoc]
      exact List.perm_append_singleton z _
    exact p1.trans ((erase_perm e).append_right m)
  exact p.nodup_iff.mpr h
theorem can_O : ∀ l : List (Option F2), PyData.canLayAll0 (l.map dO) = true
  | [] => rfl
  | none :: r => by
    show (true && PyData.canLayAll0 (r.map dO)) = true
    rw [can_O r]
    rfl
  | some f :: r => by
    show (PyData.canLay0 (dF f) && PyData.canLayAll0 (r.map dO)) = true
    rw [can_O r]
    rfl
theorem dep_O : ∀ l : List (Option F2), PyData.depthAll (l.map dO) ≤ 1
  | [] => by decide
  | none :: r => by
    show max 0 (PyData.depthAll (r.map dO)) ≤ 1
    have := dep_O r
    omega
  | some f :: r => by
    show max (PyData.depth (dF f)) (PyData.depthAll (r.map dO)) ≤ 1
    have := dep_O r
    have : PyData.depth (dF f) = 1 := rfl
    omega
theorem can_Ws : ∀ l : List (List Int), PyData.canLayAll0 (l.map dI) = true
  | [] => rfl
  | x :: r => by
    show (PyData.canLay0 (dI x) && PyData.canLayAll0 (r.map dI)) = true
    rw [dI_lay, can_Ws r]
    rfl
theorem dep_Ws : ∀ l : List (List Int), PyData.depthAll (l.map dI) ≤ 1
  | [] => by decide
  | x :: r => by
    show max (PyData.depthAll (x.map PyData.int) + 1) (PyData.depthAll (r.map dI)) ≤ 1
    rw [dI_dep]
    have := dep_Ws r
    omega
theorem dPap_sh (t : F2) (pots : List (Option F2)) (way ring : List (List Int)) : SeqAt.shaped (dPap t pots way ring) = true := by
  unfold SeqAt.shaped
  rw [Bool.and_eq_true]
  refine ⟨?_, decide_eq_true ?_⟩
  · show (PyData.canLay0 (dF t) && (PyData.canLayAll0 (pots.map dO) && (PyData.canLayAll0 (way.map dI) && (PyData.canLayAll0 (ring.map dI) && true)))) = true
    rw [can_O, can_Ws, can_Ws]
    rfl
  · show max (PyData.depth (dF t)) (max (PyData.depthAll (pots.map dO) + 1) (max (PyData.depthAll (way.map dI) + 1) (max (PyData.depthAll (ring.map dI) + 1) 0))) + 1 ≤ 64
    have := dep_O pots
    have := dep_Ws way
    have := dep_Ws ring
    have : PyData.depth (dF t) = 1 := rfl
    omega
def ngW (W : List (Str × Int)) : List (Str × Int) := W.map fun e => (e.1, -e.2)
theorem dPap_noL (pace : F2) (pots : List (Option F2)) (way ring : List (List Int)) : noL (dPap pace pots way ring) = true := by
  show (noL (dF pace) && (noLs (pots.map dO) && (noL (dWs way) && (noL (dWs ring) && true)))) = true
  rw [noLs_map dO pots fun o _ => dO_noL o, dWs_noL, dWs_noL]
  rfl
end Mt
namespace Mt
open PySem PySem.Spec PyProof.Rows L2
theorem RateX.short {base : Int} {C : Chn} {W : List (Str × Int)} {t : F2} {pots : List (Option F2)} {l m : List Br} {ks : List Nat} {h : Nat → Int} (x : RateX C W t pots l m ks h) (ok : ChnOk base C) (o1 : BOk C 0 l) (i1 : stA 0 l ∈ ks) (o2 : BOk (tiOf C W t ks h) (stA 0 l) m) :
    (∀ w ∈ l.map (·.1), w.length ≤ 100) ∧ ∀ w ∈ m.map (·.1), w.length ≤ 100 := by
  have sP := BOk.short ok ok.pos o1
  have o3 := BOk.sub (fun s bb hbb => by
    rw [row_ti x.rc.lt] at hbb
    by_cases c : s ∈ ks
    · rw [if_pos c] at hbb
      exact (List.mem_filter.mp hbb).1
    · rw [if_neg c] at hbb
      cases hbb) o2
  have sR := BOk.short ok (x.rc.lt _ i1) o3
  refine ⟨fun w hw => ?_, fun w hw => ?_⟩
  · obtain ⟨bb, hb, rfl⟩ := List.mem_map.mp hw
    have := (sP bb hb).1
    omega
  · obtain ⟨bb, hb, rfl⟩ := List.mem_map.mp hw
    have := (sR bb hb).1
    omega
section
variable {P : Program} {w : World} {K : PySem.W.Frag} {mg : Str → Option Value} {base : Heap}
set_option maxHeartbeats 4000000 in
theorem ok_law (T : Txt K mg) (D_rate : Kept P w K mg base 4 "rate" ["chain", "worths"] (spRate K)) (D__law_begin : Kept P w K mg base 1 "_law_begin" ["script"] (spBegin K)) (D__law_draw : Kept P w K mg base 1 "_law_draw" ["d", "many"] spDraw) (D__law_pop : Kept P w K mg base 2 "_law_pop" ["d", "row"] spPop) (D__law_rare : Kept P w K mg base 2 "_law_rare" ["d", "many"] spRare) (D__law_pool : Kept P w K mg base 1 "_law_pool" [] spPool) (D__law_rich_chain : Kept P w K mg base 5 "_law_rich_chain" ["d", "marks", "most"] (spRChain K)) (D__law_drawn_worths : Kept P w K mg base 3 "_law_drawn_worths" ["d", "marks"] (spWorths K)) (D__law_is_paper : Kept P w K mg base 5 "_law_is_paper" ["paper"] (spIsPap K)) (D__law_asked : Kept P w K mg base 6 "_law_asked" ["chain", "worths", "counts"] (spAsk K)) {f : Addr} {fd : FuncData} (F : FnP K "law" s_law f fd) : FnOk P w K mg base CX0 7 f fd ["script"] (spLaw K) := by
  refine F.ok sc_law (fun vs H Q E h => ?_) (fun cdv A outer s H vs Q E hr h => ?_)
  · obtain ⟨a, ns, rfl, _⟩ := h
    rfl
  · obtain ⟨a, ns, rfl, hS, hl, q⟩ := h
    refine ⟨_, PSs.nox (pss_cons (ps_set (i := 1) sc_law.nd rfl (Or.inr rfl) (pe_d D__law_begin (hr.mono (by decide)) (by rfl) (pa_cons (pv 0) pa_nil)))
      (pss_cons (ps_set (i := 2) sc_law.nd rfl (Or.inr rfl) (pe_d0 D__law_pool (hr.mono (by decide)) (by rfl)))
      (pss_cons (ps_setLc (i := 3) (own := [("k", 4)]) (g := (gName 4)) (tt := tYes) rfl sc_law.nd rfl rfl (sw_true rfl rfl rfl (by decide +kernel)) (pi_range1 (by rfl) T.b_range (pa_cons pe_int pa_nil)) (blkOk_by (N := N_law) (sc := defScope s_law) (by decide +kernel)) (fun _ _ _ _ _ => (pg_name (i := 4) sc_law.nd rfl (Or.inl rfl))) (fun _ _ _ _ _ => pts_nil) (fun _ _ _ _ _ => (pe_d D__law_pop (hr.mono (by decide)) (by rfl) (pa_cons (pv 1) (pa_cons (pv 2) pa_nil)))))
      (pss_cons (ps_set (i := 5) sc_law.nd rfl (Or.inl rfl) (pe_d D__law_rich_chain (hr.mono (by decide)) (by rfl) (pa_cons (pv 1) (pa_cons (pe_slice sl_list (pv 3) po_none (po_some pe_int)) (pa_cons pe_int pa_nil)))))
      (pss_cons (ps_set (i := 6) sc_law.nd rfl (Or.inl rfl) (pe_d D__law_drawn_worths (hr.mono (by decide)) (by rfl) (pa_cons (pv 1) (pa_cons (pv 3) pa_nil))))
      (pss_cons (ps_set (i := 7) sc_law.nd rfl (Or.inl rfl) (pe_listRg rfl rfl T.b_list (prg_1 rfl T.b_range (pe_d D__law_draw (hr.mono (by decide)) (by rfl) (pa_cons (pv 1) (pa_cons pe_int pa_nil))))))
      (Evl.pss_cut (ps_if (pt_val (pe_d D__law_rare (hr.mono (by decide)) (by rfl) (pa_cons (pv 1) (pa_cons pe_int pa_nil)))) (pss_one (ps_expr (pe_bm PySem.F.plainAttrs_list PySem.F.slot_list_append PySem.F.type_list_append mt_append (pv 7) (pa_cons (pe_op op_add pe_int (pe_d D__law_draw (hr.mono (by decide)) (by rfl) (pa_cons (pv 1) (pa_cons pe_int pa_nil)))) pa_nil)))) pss_nil)
      (pss_cons (ps_set (i := 8) sc_law.nd rfl (Or.inl rfl) (pe_d D_rate (hr.mono (by decide)) (by rfl) (pa_cons (pv 5) (pa_cons (pv 6) pa_nil))))
      (pss_cons (ps_if (pt_not (pt_val (pe_d D__law_asked (hr.mono (by decide)) (by rfl) (pa_cons (pv 5) (pa_cons (pv 6) (pa_cons (pv 7) pa_nil)))))) (pss_one (ps_ret pe_bl)) pss_nil)
      (pss_cons (ps_if (pt_not (pt_val (pe_d D__law_asked (hr.mono (by decide)) (by rfl) (pa_cons (pv 5) (pa_cons (pe_callTy (tupKK (K := K) rfl) (by rfl) T.b_tuple (by decide +kernel) (pa_cons (pe_lc (own := [("mark", 9), ("worth", 10)]) (g := (gTup K 2 (gCons (gName 9) (gCons (gName 10) gNil)))) (tt := tYes) rfl sc_law.nd (pi_tup (pv 6)) (blkOk_by (N := N_law) (sc := defScope s_law) (by decide +kernel)) (fun _ _ _ _ _ => (pg_tup rfl (pgs_cons (pg_name (i := 9) sc_law.nd rfl (Or.inl rfl)) (pgs_cons (pg_name (i := 10) sc_law.nd rfl (Or.inl rfl)) pgs_nil)))) (fun _ _ _ _ _ => pts_nil) (fun _ _ _ _ _ => (pe_tup (pa_cons (pv 9) (pa_cons (pe_un un_neg (pv 10)) pa_nil))))) pa_nil)) (pa_cons (pe_slice sl_list (pv 7) po_none (po_some pe_int)) pa_nil)))))) (pss_one (ps_ret pe_bl)) pss_nil)
      (pss_one (ps_ret (pe_and (pe_cmpR (op_eqD (hr.units)) (pe_d D_rate (hr.mono (by decide)) (by rfl) (pa_cons (pv 5) (pa_cons (pv 6) pa_nil))) (pv 8) (nomark _)) (pe_one (pe_d D__law_is_paper (hr.mono (by decide)) (by rfl) (pa_cons (pv 8) pa_nil)))))))))))))))), ?_⟩
    refine ⟨_, rfl, a, ns, rfl, hS, hl, fun S D H1 s1 D0 d => ?_⟩
    refine ⟨rfl, fun Nm hNm => ?_⟩
    have d2 := d.new (o := .lst (POOL.map V.str)) hNm
    have NmD := (d.free hNm).1
    have NmS := (d.free hNm).2
    have hN2 := upd_same (H := H1) (a := Nm) (o := .lst (POOL.map V.str))
    generalize upd H1 Nm (.lst (POOL.map V.str)) = H2 at d2 hN2
    refine ⟨_, rfl, by decide, by decide, fun Lm hLm => lc_range (lo := 0) (n := 4) (fun j H' => ∃ nms ms : List Str, DrawAt S D H' ∧ H' Nm = some (.lst (nms.map V.str)) ∧ H' Lm = some (.lst (ms.map V.str)) ∧ nms.length + j = 60 ∧ ms.length = j ∧ (nms ++ ms).Nodup)
      ⟨POOL, [], d2.new hLm, same_new hLm _ _ hN2, upd_same, by rw [pool_len], rfl, by rw [List.append_nil]; exact pool_nd⟩ ?_ ?_⟩
    · rintro j H4 hj ⟨nms, ms, d4, hN4, hM4, hl4, hm4, ho⟩
      have LmD := (d2.free hLm).1
      have LmS := (d2.free hLm).2
      have LmN : Lm ≠ Nm := (ne_of_none hN2 hLm).symm
      refine ⟨rfl, _, rfl, _, rfl, S, D, Nm, nms.map V.str, rfl, d4, NmD, hN4, by rw [List.length_map]; omega, by rw [List.length_map]; omega, fun H5 jx x g5 hx => ?_⟩
      rw [List.getElem?_map] at hx
      obtain ⟨z, hz, rfl⟩ := Option.map_eq_some_iff.mp hx
      have hjx := (List.getElem?_eq_some_iff.mp hz).1
      have ee : (nms.map V.str).eraseIdx jx = (nms.eraseIdx jx).map V.str := by
        first
          | exact List.eraseIdx_map ..
          | exact (List.map_eraseIdx ..).symm
          | simp [List.eraseIdx_eq_take_drop_succ]
      rw [ee]
      have hM5 := g5.2 _ _ hM4 LmD
      refine ⟨_, by rw [upd_ne LmN]; exact hM5, by rw [List.length_map]; exact line6 (by omega), nms.eraseIdx jx, ms ++ [z], (g5.1.upd NmD NmS).upd LmD LmS, by rw [upd_ne LmN.symm, upd_same], by rw [upd_same, List.map_append]; rfl, ?_, by rw [List.length_append, List.length_singleton, hm4], nodup_move ho hz⟩
      rw [List.length_eraseIdx_of_lt hjx]
      omega
    · rintro H4 ⟨nms, ms, d4, hN4, hM4, hl4, hm4, ho⟩
      have ndM : ms.Nodup := (List.nodup_append.mp ho).2.1
      have LmD := (d2.free hLm).1
      have ec : cutV (ms.map V.str) none (some 3) = (ms.take 3).map V.str := by
        rw [show (some 3 : Option Int) = some ((3 : Nat) : Int) from rfl, cut_to (by rw [List.length_map]; omega), ← List.map_take]
      refine ⟨_, rfl, _, rfl, noP ⟨_, rfl, Lm, _, rfl, SqL.of hM4, fun p3 hp3 => ?_⟩⟩
      rw [ec]
      have g5 := Go.new (o := .lst ((ms.take 3).map V.str)) d4 hp3
      have hp35 := upd_same (H := H4) (a := p3) (o := .lst ((ms.take 3).map V.str))
      have p3D := (d4.free hp3).1
      generalize upd H4 p3 (.lst ((ms.take 3).map V.str)) = H5 at g5 hp35
      refine ⟨S, D, p3, 8, ms.take 3, rfl, g5.1, p3D, hp35, by rw [List.length_take]; omega, by rw [List.length_take]; omega, by decide, by decide, fun H6 vc b C g6 hC ok => ?_⟩
      have g56 := g5.trans g6
      have hM6 := g56.2 _ _ hM4 LmD
      refine ⟨_, rfl, _, rfl, S, D, Lm, ms, rfl, g6.1, LmD, hM6, ndM, by omega, fun H7 vw W g7 hw nd hwl hW => ?_⟩
      have hC7 := dp_keep (Go.keepT g6.1 g7) _ _ (dChn_noL b C) hC
      have wl : W.length ≤ 1000 := by omega
      refine ⟨_, rfl, S, D, 13, rfl, divW_of (by decide) (by decide), g7.1, fun H8 v v0 v1 g8 => ?_⟩
      have eL : rgV 0 v = (List.range v.toNat).map vN := by
        unfold rgV
        rw [Int.sub_zero]
        refine List.map_congr_left fun i _ => ?_
        show V.int (0 + (i : Int)) = V.int (i : Int)
        rw [Int.zero_add]
      refine ⟨_, rfl, RgOk.of_le (by decide) (by omega) (by omega) (by omega), fun Lc hLc => ?_⟩
      rw [eL]
      have g9 := Go.new (o := .lst ((List.range v.toNat).map vN)) g8.1 hLc
      have hL9 := upd_same (H := H8) (a := Lc) (o := .lst ((List.range v.toNat).map vN))
      have LcD := (g8.1.free hLc).1
      generalize upd H8 Lc (.lst ((List.range v.toNat).map vN)) = H9 at g9 hL9
      have g79 := g8.trans g9
      have hC9 := dp_keep (Go.keepT g7.1 g79) _ _ (dChn_noL b C) hC7
      have hw9 := hw.go g7.1 g79
      refine ⟨fun σ' H' => ∃ ns : List Nat, σ' = [some (.ref a), some (.ref D), some (.ref Nm), some (.ref Lm), none, some vc, some vw, some (.ref Lc), none, none, none] ∧ DrawAt S D H' ∧ Dp K H' vc (dChn b C) ∧ WAt K H' vw W ∧ H' Lc = some (.lst (ns.map vN)) ∧ ∀ n ∈ ns, n ≤ 1000, ?_, ?_⟩
      · refine ⟨_, rfl, S, D, 9, rfl, by decide, by decide, g9.1, fun H10 bb g10 => ⟨bb, rfl, ?_⟩⟩
        have g710 := g79.trans g10
        have hC10 := dp_keep (Go.keepT g7.1 g710) _ _ (dChn_noL b C) hC7
        have hw10 := hw.go g7.1 g710
        have hL10 := g10.2 _ _ hL9 LcD
        have small : ∀ n ∈ List.range v.toNat, n ≤ 1000 := fun n hn => by
          have := List.mem_range.mp hn
          omega
        refine ite2 (fun _ => ?_) (fun _ => ⟨_, rfl, g10.1, hC10, hw10, hL10, small⟩)
        refine ⟨_, rfl, .inl ⟨rfl, _, SqL.of hL10⟩, _, rfl, S, D, 51, rfl, divW_of (by decide) (by decide), g10.1, fun H11 u u0 u1 g11 => ?_⟩
        have g711 := g710.trans g11
        have hL11 := g11.2 _ _ hL10 LcD
        have Lc7 : H7 Lc = none := g8.free g7.1 hLc
        have gU := goU (o := .lst ((List.range v.toNat ++ [(100 + u).toNat]).map vN)) Lc7 g7.1 g711
        have e1 : ((List.range v.toNat).map vN) ++ [V.int (100 + u)] = (List.range v.toNat ++ [(100 + u).toNat]).map vN := by
          rw [List.map_append]
          show _ = _ ++ [V.int (((100 + u).toNat : Nat) : Int)]
          rw [Int.toNat_of_nonneg (by omega)]
        refine ⟨_, _, rfl, rfl, Lc, _, _, rfl, rfl, hL11, line6 (by rw [List.length_map, List.length_range]; omega), ?_⟩
        rw [e1]
        refine ⟨_, rfl, gU.1, dp_keep (Go.keepT g7.1 gU) _ _ (dChn_noL b C) hC7, hw.go g7.1 gU, upd_same, fun n hn => ?_⟩
        rcases List.mem_append.mp hn with z | z
        · exact small n z
        · have := List.mem_singleton.mp z
          omega
      · rintro σ' H10 ⟨ns, rfl, d10, hC10, hw10, hL10, n1000⟩
        refine ⟨_, rfl, _, rfl, vc, vw, b, C, W, rfl, hC10, ok, hw10, nd, wl, hW, fun H11 vB t pots l m ks h s11 hP x pok tz o1 i1 o2 e2 ne l100 m50 => ?_⟩
        have hC11 := dp_same s11 _ _ hC10
        have hw11 := hw10.same s11
        have hL11 := s11 _ _ hL10
        refine ⟨_, rfl, _, rfl, _, rfl, vc, vw, Lc, b, C, W, ns, rfl, hC11, ok, hw11, nd, wl, hW, SqL.of hL11, n1000, fun H12 s12 => ⟨_, rfl, iteNT ?_⟩⟩
        have s1012 := s11.trans s12
        have hw12 := hw10.same s1012
        have hC12 := dp_same s1012 _ _ hC10
        have hL12 := s1012 _ _ hL10
        have hP12 := dp_same s12 _ _ hP
        obtain ⟨aw, ps, rfl, hk, hps, hpW⟩ := id hw12
        have psl : ps.length = W.length := by rw [← hpW, List.length_map]
        refine ⟨_, rfl, _, rfl, aw, rfl, ⟨_, hk.sqt⟩, fun M hM => lc_tup (K := K) (a := aw) (xs := ps.map fun p => V.ref p.1) (fun j H' => Same H12 H' ∧ ∃ qs : List SR.Ptr, H' M = some (.lst (qs.map fun p => V.ref p.1)) ∧ (∀ p ∈ qs, SqT K H' p.1 [.str p.2.1, .int p.2.2]) ∧ qs.map (·.2) = ngW ((ps.take j).map (·.2))) ⟨same_new hM, [], upd_same, fun _ h => absurd h List.not_mem_nil, rfl⟩ (fun j H' _ e => same_t e.1 hk.sqt) ?_ ?_⟩
        · rintro j x H14 hj ⟨s14, qs, hM14, hqs, eqs⟩
          rw [List.getElem?_map] at hj
          obtain ⟨pt, hpt, rfl⟩ := Option.map_eq_some_iff.mp hj
          have jl := (List.getElem?_eq_some_iff.mp hpt).1
          have ql : qs.length = j := by
            have := congrArg List.length eqs
            unfold ngW at this
            rw [List.length_map, List.length_map, List.length_map, List.length_take] at this
            omega
          refine ⟨_, _, rfl, same_t s14 (hps pt (List.mem_of_getElem? hpt)), rfl, _, _, rfl, _, _, rfl, rfl, rfl, ?_⟩
          refine ⟨_, rfl, _, rfl, _, rfl, by show 2 ≤ sizeLine; decide, fun pn hpn => ?_⟩
          have s15 := same_new (o := .tup [.str pt.2.1, .int (-pt.2.2)]) hpn
          have hpn15 := upd_same (H := H14) (a := pn) (o := .tup [.str pt.2.1, .int (-pt.2.2)])
          generalize upd H14 pn (.tup [.str pt.2.1, .int (-pt.2.2)]) = H15 at s15 hpn15
          have hM15 := s15 _ _ hM14
          have kM := keepT_nt (o := .lst ((qs.map fun p => V.ref p.1) ++ [.ref pn])) (nt_lst _) hM15
          refine ⟨_, hM15, by rw [List.length_map]; exact line6 (by omega), same_mut (s14.trans s15) hM, qs ++ [(pn, pt.2.1, -pt.2.2)], by rw [upd_same, List.map_append]; rfl, fun p hp => ?_, ?_⟩
          · rcases List.mem_append.mp hp with h | h
            · exact sqt_keep kM (same_t s15 (hqs p h))
            · rw [List.mem_singleton.mp h]
              exact sqt_keep kM (SqT.of hpn15)
          · rw [take_snoc hpt, List.map_append, List.map_append, eqs]
            unfold ngW
            rw [List.map_append]
            rfl
        · rintro H14 ⟨s14, qs, hM14, hqs, eqs⟩
          rw [List.length_map, List.take_length, hpW] at eqs
          refine ⟨M, _, rfl, SqL.of hM14, fun po oo hpo hoo => ?_⟩
          have s15 := same_new (o := .frz oo (.tup (qs.map fun p => V.ref p.1))) hpo
          have hpo15 := upd_same (H := H14) (a := po) (o := .frz oo (.tup (qs.map fun p => V.ref p.1)))
          generalize upd H14 po (.frz oo (.tup (qs.map fun p => V.ref p.1))) = H15 at s15 hpo15
          have hw15 : WAt K H15 (.ref po) (ngW W) := ⟨po, qs, rfl, ⟨oo, hpo15, hoo⟩, fun p hp => same_t s15 (hqs p hp), eqs⟩
          have s1215 := s14.trans s15
          have nd2 : ((ngW W).map (·.1)).Nodup := by
            unfold ngW
            rw [List.map_map]
            exact nd
          have ngl : (ngW W).length ≤ 1000 := by
            unfold ngW
            rw [List.length_map]
            omega
          have ngb : ∀ e ∈ ngW W, e.2.natAbs ≤ 99 := fun e he => by
            obtain ⟨e', he', rfl⟩ := List.mem_map.mp he
            have := hW e' he'
            show (-e'.2).natAbs ≤ 99
            omega
          have s1015 := s1012.trans s1215
          have hL15 := s1215 _ _ hL12
          refine ⟨_, rfl, noP ⟨_, rfl, Lc, _, rfl, SqL.of hL15, fun p3' hp3' => ?_⟩⟩
          have ec2 : cutV (ns.map vN) none (some 3) = (ns.take (min 3 ns.length)).map vN := by
            unfold cutV
            rw [HT.sIx_none, show (some 3 : Option Int) = some ((3 : Nat) : Int) from rfl, HT.sIx_nat, List.length_map, List.drop_zero, ← List.map_take]
            rfl
          rw [ec2]
          have s16 := same_new (o := .lst ((ns.take (min 3 ns.length)).map vN)) hp3'
          have hp316 := upd_same (H := H15) (a := p3') (o := .lst ((ns.take (min 3 ns.length)).map vN))
          generalize upd H15 p3' (.lst ((ns.take (min 3 ns.length)).map vN)) = H16 at s16 hp316
          have s1016 := s1015.trans s16
          refine ⟨vc, .ref po, p3', b, C, ngW W, ns.take (min 3 ns.length), rfl, dp_same s1016 _ _ hC10, ok, hw15.same s16, nd2, ngl, ngb, SqL.of hp316, fun n hn => n1000 n (List.mem_of_mem_take hn), fun H17 s17 => ⟨_, rfl, iteNT ?_⟩⟩
          have s1017 := s1016.trans s17
          have hw17 := hw10.same s1017
          refine ⟨_, rfl, _, rfl, vc, .ref aw, b, C, W, rfl, dp_same s1017 _ _ hC10, ok, hw17, nd, wl, hW, fun H18 v' t' pots' l' m' ks' h' s18 hP' x' _ _ _ _ _ _ _ _ _ => ?_⟩
          obtain ⟨rfl, rfl, rfl, rfl⟩ := RateIs.uniq ⟨ks, h, x⟩ ⟨ks', h', x'⟩
          have hP18 := dp_same (s1215.trans (s16.trans (s17.trans s18))) _ _ hP12
          refine ⟨_, rfl, _, _, hP', hP18, dPap_sh _ _ _ _, dPap_sh _ _ _ _, ?_⟩
          rw [SeqAt.eqv_refl _ (SeqAt.canLay_of_shaped (dPap_sh _ _ _ _))]
          obtain ⟨w100, r100⟩ := x.short ok o1 i1 o2
          exact ⟨true, rfl, ite2 (fun _ => ⟨_, rfl, vB, t, pots, _, _, rfl, hP18, pok, w100, r100, fun H19 _ => q _⟩) (fun n => absurd rfl n)⟩
end
end Mt
namespace Mt
open PySem PySem.Spec PyProof.Rows L2
set_option maxHeartbeats 4000000
def dd_distances : He.DefD := ⟨("distances", none), "distances", "distances", defArgs s_distances, defBody s_distances, defScope s_distances, [], []⟩
def dd_turned : He.DefD := ⟨("turned", none), "turned", "turned", defArgs s_turned, defBody s_turned, defScope s_turned, [], []⟩
def dd_longest : He.DefD := ⟨("longest", none), "longest", "longest", defArgs s_longest, defBody s_longest, defScope s_longest, [], []⟩
def dd_branches_along : He.DefD := ⟨("branches_along", none), "branches_along", "branches_along", defArgs s_branches_along, defBody s_branches_along, defScope s_branches_along, [], []⟩
def dd_ring_along : He.DefD := ⟨("ring_along", none), "ring_along", "ring_along", defArgs s_ring_along, defBody s_ring_along, defScope s_ring_along, [], []⟩
def dd_ring_of : He.DefD := ⟨("ring_of", none), "ring_of", "ring_of", defArgs s_ring_of, defBody s_ring_of, defScope s_ring_of, [], []⟩
def dd_way_to : He.DefD := ⟨("way_to", none), "way_to", "way_to", defArgs s_way_to, defBody s_way_to, defScope s_way_to, [], []⟩
def dd_make_fraction : He.DefD := ⟨("make_fraction", none), "make_fraction", "make_fraction", defArgs s_make_fraction, defBody s_make_fraction, defScope s_make_fraction, [], []⟩
def dd_sum_of : He.DefD := ⟨("sum_of", none), "sum_of", "sum_of", defArgs s_sum_of, defBody s_sum_of, defScope s_sum_of, [], []⟩
def dd_product_of : He.DefD := ⟨("product_of", none), "product_of", "product_of", defArgs s_product_of, defBody s_product_of, defScope s_product_of, [], []⟩
def dd_is_less : He.DefD := ⟨("is_less", none), "is_less", "is_less", defArgs s_is_less, defBody s_is_less, defScope s_is_less, [], []⟩
def dd_least_of : He.DefD := ⟨("least_of", none), "least_of", "least_of", defArgs s_least_of, defBody s_least_of, defScope s_least_of, [], []⟩
def dd_greatest_of : He.DefD := ⟨("greatest_of", none), "greatest_of", "greatest_of", defArgs s_greatest_of, defBody s_greatest_of, defScope s_greatest_of, [], []⟩
def dd_worth_of : He.DefD := ⟨("worth_of", none), "worth_of", "worth_of", defArgs s_worth_of, defBody s_worth_of, defScope s_worth_of, [], []⟩
def dd_greatest : He.DefD := ⟨("greatest", none), "greatest", "greatest", defArgs s_greatest, defBody s_greatest, defScope s_greatest, [], []⟩
def dd_worth_rows : He.DefD := ⟨("worth_rows", none), "worth_rows", "worth_rows", defArgs s_worth_rows, defBody s_worth_rows, defScope s_worth_rows, [], []⟩
def dd_rate : He.DefD := ⟨("rate", none), "rate", "rate", defArgs s_rate, defBody s_rate, defScope s_rate, [], []⟩
def dd_greatest_mean : He.DefD := ⟨("greatest_mean", none), "greatest_mean", "greatest_mean", defArgs s_greatest_mean, defBody s_greatest_mean, defScope s_greatest_mean, [], []⟩
def dd_heights_of : He.DefD := ⟨("heights_of", none), "heights_of", "heights_of", defArgs s_heights_of, defBody s_heights_of, defScope s_heights_of, [], []⟩
def dd_tight_branches : He.DefD := ⟨("tight_branches", none), "tight_branches", "tight_branches", defArgs s_tight_branches, defBody s_tight_branches, defScope s_tight_branches, [], []⟩
def dd_best_ring : He.DefD := ⟨("best_ring", none), "best_ring", "best_ring", defArgs s_best_ring, defBody s_best_ring, defScope s_best_ring, [], []⟩
def dd_judge_rate : He.DefD := ⟨("judge_rate", none), "judge_rate", "judge_rate", defArgs s_judge_rate, defBody s_judge_rate, defScope s_judge_rate, [], []⟩
def dd_is_bound : He.DefD := ⟨("is_bound", none), "is_bound", "is_bound", defArgs s_is_bound, defBody s_is_bound, defScope s_is_bound, [], []⟩
def dd_walk : He.DefD := ⟨("walk", none), "walk", "walk", defArgs s_walk, defBody s_walk, defScope s_walk, [], []⟩
def dd_branch_at : He.DefD := ⟨("branch_at", none), "branch_at", "branch_at", defArgs s_branch_at, defBody s_branch_at, defScope s_branch_at, [], []⟩
def dd__law_begin : He.DefD := ⟨("_law_begin", none), "_law_begin", "_law_begin", defArgs s__law_begin, defBody s__law_begin, defScope s__law_begin, [], []⟩
def dd__law_draw : He.DefD := ⟨("_law_draw", none), "_law_draw", "_law_draw", defArgs s__law_draw, defBody s__law_draw, defScope s__law_draw, [], []⟩
def dd__law_pick : He.DefD := ⟨("_law_pick", none), "_law_pick", "_law_pick", defArgs s__law_pick, defBody s__law_pick, defScope s__law_pick, [], []⟩
def dd__law_pop : He.DefD := ⟨("_law_pop", none), "_law_pop", "_law_pop", defArgs s__law_pop, defBody s__law_pop, defScope s__law_pop, [], []⟩
def dd__law_rare : He.DefD := ⟨("_law_rare", none), "_law_rare", "_law_rare", defArgs s__law_rare, defBody s__law_rare, defScope s__law_rare, [], []⟩
def dd__law_pool : He.DefD := ⟨("_law_pool", none), "_law_pool", "_law_pool", defArgs s__law_pool, defBody s__law_pool, defScope s__law_pool, [], []⟩
def dd__law_is_int : He.DefD := ⟨("_law_is_int", none), "_law_is_int", "_law_is_int", defArgs s__law_is_int, defBody s__law_is_int, defScope s__law_is_int, [], []⟩
def dd__law_is_ints : He.DefD := ⟨("_law_is_ints", none), "_law_is_ints", "_law_is_ints", defArgs s__law_is_ints, defBody s__law_is_ints, defScope s__law_is_ints, [], []⟩
def dd__law_frac : He.DefD := ⟨("_law_frac", none), "_law_frac", "_law_frac", defArgs s__law_frac, defBody s__law_frac, defScope s__law_frac, [], []⟩
def dd__law_plus : He.DefD := ⟨("_law_plus", none), "_law_plus", "_law_plus", defArgs s__law_plus, defBody s__law_plus, defScope s__law_plus, [], []⟩
def dd__law_minus : He.DefD := ⟨("_law_minus", none), "_law_minus", "_law_minus", defArgs s__law_minus, defBody s__law_minus, defScope s__law_minus, [], []⟩
def dd__law_times : He.DefD := ⟨("_law_times", none), "_law_times", "_law_times", defArgs s__law_times, defBody s__law_times, defScope s__law_times, [], []⟩
def dd__law_less : He.DefD := ⟨("_law_less", none), "_law_less", "_law_less", defArgs s__law_less, defBody s__law_less, defScope s__law_less, [], []⟩
def dd__law_is_frac : He.DefD := ⟨("_law_is_frac", none), "_law_is_frac", "_law_is_frac", defArgs s__law_is_frac, defBody s__law_is_frac, defScope s__law_is_frac, [], []⟩
def dd__law_is_fracs : He.DefD := ⟨("_law_is_fracs", none), "_law_is_fracs", "_law_is_fracs", defArgs s__law_is_fracs, defBody s__law_is_fracs, defScope s__law_is_fracs, [], []⟩
def dd__law_words : He.DefD := ⟨("_law_words", none), "_law_words", "_law_words", defArgs s__law_words, defBody s__law_words, defScope s__law_words, [], []⟩
def dd__law_worth : He.DefD := ⟨("_law_worth", none), "_law_worth", "_law_worth", defArgs s__law_worth, defBody s__law_worth, defScope s__law_worth, [], []⟩
def dd__law_wide_shown : He.DefD := ⟨("_law_wide_shown", none), "_law_wide_shown", "_law_wide_shown", defArgs s__law_wide_shown, defBody s__law_wide_shown, defScope s__law_wide_shown, [], []⟩
def dd__law_wide_chain : He.DefD := ⟨("_law_wide_chain", none), "_law_wide_chain", "_law_wide_chain", defArgs s__law_wide_chain, defBody s__law_wide_chain, defScope s__law_wide_chain, [], []⟩
def dd__law_rich_chain : He.DefD := ⟨("_law_rich_chain", none), "_law_rich_chain", "_law_rich_chain", defArgs s__law_rich_chain, defBody s__law_rich_chain, defScope s__law_rich_chain, [], []⟩
def dd__law_drawn_worths : He.DefD := ⟨("_law_drawn_worths", none), "_law_drawn_worths", "_law_drawn_worths", defArgs s__law_drawn_worths, defBody s__law_drawn_worths, defScope s__law_drawn_worths, [], []⟩
def dd__law_ways_to : He.DefD := ⟨("_law_ways_to", none), "_law_ways_to", "_law_ways_to", defArgs s__law_ways_to, defBody s__law_ways_to, defScope s__law_ways_to, [], []⟩
def dd__law_best_ring : He.DefD := ⟨("_law_best_ring", none), "_law_best_ring", "_law_best_ring", defArgs s__law_best_ring, defBody s__law_best_ring, defScope s__law_best_ring, [], []⟩
def dd__law_along : He.DefD := ⟨("_law_along", none), "_law_along", "_law_along", defArgs s__law_along, defBody s__law_along, defScope s__law_along, [], []⟩
def dd__law_rate_taken : He.DefD := ⟨("_law_rate_taken", none), "_law_rate_taken", "_law_rate_taken", defArgs s__law_rate_taken, defBody s__law_rate_taken, defScope s__law_rate_taken, [], []⟩
def dd__law_is_bool : He.DefD := ⟨("_law_is_bool", none), "_law_is_bool", "_law_is_bool", defArgs s__law_is_bool, defBody s__law_is_bool, defScope s__law_is_bool, [], []⟩
def dd__law_is_paper : He.DefD := ⟨("_law_is_paper", none), "_law_is_paper", "_law_is_paper", defArgs s__law_is_paper, defBody s__law_is_paper, defScope s__law_is_paper, [], []⟩
def dd__law_lasso_walked : He.DefD := ⟨("_law_lasso_walked", none), "_law_lasso_walked", "_law_lasso_walked", defArgs s__law_lasso_walked, defBody s__law_lasso_walked, defScope s__law_lasso_walked, [], []⟩
def dd__law_bounded : He.DefD := ⟨("_law_bounded", none), "_law_bounded", "_law_bounded", defArgs s__law_bounded, defBody s__law_bounded, defScope s__law_bounded, [], []⟩
def dd__law_asked : He.DefD := ⟨("_law_asked", none), "_law_asked", "_law_asked", defArgs s__law_asked, defBody s__law_asked, defScope s__law_asked, [], []⟩
def dd_law : He.DefD := ⟨("law", none), "law", "law", defArgs s_law, defBody s_law, defScope s_law, [], []⟩
def dds : List He.DefD := [dd_distances, dd_turned, dd_longest, dd_branches_along, dd_ring_along, dd_ring_of, dd_way_to, dd_make_fraction, dd_sum_of, dd_product_of, dd_is_less, dd_least_of, dd_greatest_of, dd_worth_of, dd_greatest, dd_worth_rows, dd_rate, dd_greatest_mean, dd_heights_of, dd_tight_branches, dd_best_ring, dd_judge_rate, dd_is_bound, dd_walk, dd_branch_at, dd__law_begin, dd__law_draw, dd__law_pick, dd__law_pop, dd__law_rare, dd__law_pool, dd__law_is_int, dd__law_is_ints, dd__law_frac, dd__law_plus, dd__law_minus, dd__law_times, dd__law_less, dd__law_is_frac, dd__law_is_fracs, dd__law_words, dd__law_worth, dd__law_wide_shown, dd__law_wide_chain, dd__law_rich_chain, dd__law_drawn_worths, dd__law_ways_to, dd__law_best_ring, dd__law_along, dd__law_rate_taken, dd__law_is_bool, dd__law_is_paper, dd__law_lasso_walked, dd__law_bounded, dd__law_asked, dd_law]
def fas : List He.Fa := [.glo "distances", .glo "turned", .glo "longest", .glo "branches_along", .glo "ring_along", .glo "ring_of", .glo "way_to", .glo "make_fraction", .glo "sum_of", .glo "product_of", .glo "is_less", .glo "least_of", .glo "greatest_of", .glo "worth_of", .glo "greatest", .glo "worth_rows", .glo "rate", .glo "greatest_mean", .glo "heights_of", .glo "tight_branches", .glo "best_ring", .glo "judge_rate", .glo "is_bound", .glo "walk", .glo "branch_at", .glo "_law_begin", .glo "_law_draw", .glo "_law_pick", .glo "_law_pop", .glo "_law_rare", .glo "_law_pool", .glo "_law_is_int", .glo "_law_is_ints", .glo "_law_frac", .glo "_law_plus", .glo "_law_minus", .glo "_law_times", .glo "_law_less", .glo "_law_is_frac", .glo "_law_is_fracs", .glo "_law_words", .glo "_law_worth", .glo "_law_wide_shown", .glo "_law_wide_chain", .glo "_law_rich_chain", .glo "_law_drawn_worths", .glo "_law_ways_to", .glo "_law_best_ring", .glo "_law_along", .glo "_law_rate_taken", .glo "_law_is_bool", .glo "_law_is_paper", .glo "_law_lasso_walked", .glo "_law_bounded", .glo "_law_asked", .glo "law", .free "int", .free "abs", .free "len", .free "isinstance", .free "bool", .free "tuple", .free "list", .free "range", .free "sum", .free "all", .free "any", .free "sorted", .free "zip", .free "dict", .free "max", .free "min", .free "enumerate"]
def exM (K : PySem.W.Frag) : Bool := He.eqO (PySem.W.nsIn K mainGlobals "gcd") (some (some (.builtin "math.gcd")))
abbrev R : PySem.W.OpenRow := PySem.W.OpenLaw.row PySem.Challenge.rw_meantrace_k80_whole_rates
abbrev hk : PySem.W.Hook := hookM 4 fas dds exM
def ob (s : PySem.W.SharedT) : AlM := obsM 4 fas dds exM (HandSHeadRun.getT s)
theorem ob_eq (s : PySem.W.SharedT) : ob s = hk.obs s.abs := obsM_eq (HandSHeadRun.getT_eq s)
def names : List PySem.Str := (["distances", "turned", "longest", "branches_along", "ring_along", "ring_of", "way_to", "MeanError", "Dry", "make_fraction", "sum_of", "product_of", "is_less", "least_of", "greatest_of", "worth_of", "greatest", "worth_rows", "rate", "greatest_mean", "heights_of", "tight_branches", "best_ring", "judge_rate", "is_bound"] : List PySem.Str) ++ (["walk", "branch_at", "_law_begin", "_law_draw", "_law_pick", "_law_pop", "_law_rare", "_law_pool", "_law_is_int", "_law_is_ints", "_law_frac", "_law_plus", "_law_minus", "_law_times", "_law_less", "_law_is_frac", "_law_is_fracs", "_law_words", "_law_worth", "_law_wide_shown", "_law_wide_chain", "_law_rich_chain", "_law_drawn_worths", "_law_ways_to", "_law_best_ring"] : List PySem.Str) ++ (["_law_along", "_law_rate_taken", "_law_is_bool", "_law_is_paper", "_law_lasso_walked", "_law_bounded", "_law_asked"] : List PySem.Str)
theorem run (w : World) : HandSHeadRun.RunEqI R (PySem.W.view R.prog [0, 66]) hk ob 3000 names w := by
  unfold HandSHeadRun.RunEqI; kernel_rfl
theorem facts {P : Program} {w : World} {K : PySem.W.Frag} {h : Heap} {mg : Str → Option Value} {f : Addr} (X : K.In h) (G : h.Ns mainGlobals mg) (hfa : mg ("law" : Str) = some (.ref f)) (c : SaysM fas dds exM K) :
    ∃ fd : FuncData, (∀ (s : Shared) (v : Value), BindsTo s fd ⟨[v], []⟩ [("script", v)]) ∧ ∀ base : Heap, K.In base → base.Ns mainGlobals mg → FnOk P w K mg base CX0 7 f fd ["script"] (spLaw K) := by
  obtain ⟨fd, F⟩ := c.1.def_ 55 (d := dd_law) rfl
  have e := hfa.symm.trans (He.glo_ok X G (c.1.fact 55 (f := .glo "law") rfl))
  cases e
  have T : Txt K mg := ⟨He.free_ok X G (c.1.fact 56 (f := .free "int") rfl), He.free_ok X G (c.1.fact 57 (f := .free "abs") rfl), He.free_ok X G (c.1.fact 58 (f := .free "len") rfl), He.free_ok X G (c.1.fact 59 (f := .free "isinstance") rfl), He.free_ok X G (c.1.fact 60 (f := .free "bool") rfl), He.free_ok X G (c.1.fact 61 (f := .free "tuple") rfl), He.free_ok X G (c.1.fact 62 (f := .free "list") rfl), He.free_ok X G (c.1.fact 63 (f := .free "range") rfl), He.free_ok X G (c.1.fact 64 (f := .free "sum") rfl), He.free_ok X G (c.1.fact 65 (f := .free "all") rfl), He.free_ok X G (c.1.fact 66 (f := .free "any") rfl), He.free_ok X G (c.1.fact 67 (f := .free "sorted") rfl), He.free_ok X G (c.1.fact 68 (f := .free "zip") rfl), He.free_ok X G (c.1.fact 69 (f := .free "dict") rfl), He.free_ok X G (c.1.fact 70 (f := .free "max") rfl), He.free_ok X G (c.1.fact 71 (f := .free "min") rfl), He.free_ok X G (c.1.fact 72 (f := .free "enumerate") rfl), PySem.W.mg_of X G (He.eqO_ok c.2)⟩
  have b := FunD.bindsA (ps := ["script"]) F fun _ _ _ _ _ _ us hl => match us, hl with | [_], _ => rfl
  refine ⟨fd, fun s v => b s [v] rfl, fun base _ _ => ?_⟩
  have D_distances : Kept P w K mg base 1 "distances" ["nexts", "begins"] (spDist K) := kept_of (st := s_distances) X G (c.1.def_ 0 (d := dd_distances) rfl) (c.1.fact 0 (f := .glo "distances") rfl) (fun _ _ _ _ _ _ us hl => match us, hl with | [_, _], _ => rfl) (fun f fd F => ok_distances T F)
  have D_turned : Kept P w K mg base 1 "turned" ["nexts"] (spTurned K) := kept_of (st := s_turned) X G (c.1.def_ 1 (d := dd_turned) rfl) (c.1.fact 1 (f := .glo "turned") rfl) (fun _ _ _ _ _ _ us hl => match us, hl with | [_], _ => rfl) (fun f fd F => ok_turned T F)
  have D_longest : Kept P w K mg base 1 "longest" ["nexts"] (spLong K) := kept_of (st := s_longest) X G (c.1.def_ 2 (d := dd_longest) rfl) (c.1.fact 2 (f := .glo "longest") rfl) (fun _ _ _ _ _ _ us hl => match us, hl with | [_], _ => rfl) (fun f fd F => ok_longest T F)
  have D_branches_along : Kept P w K mg base 1 "branches_along" ["rows", "state", "blocks"] (spAlongG K) := kept_of (st := s_branches_along) X G (c.1.def_ 3 (d := dd_branches_along) rfl) (c.1.fact 3 (f := .glo "branches_along") rfl) (fun _ _ _ _ _ _ us hl => match us, hl with | [_, _, _], _ => rfl) (fun f fd F => ok_branches_along T F)
  have D_ring_of : Kept P w K mg base 1 "ring_of" ["picked", "state"] (spRing K) := kept_of (st := s_ring_of) X G (c.1.def_ 5 (d := dd_ring_of) rfl) (c.1.fact 5 (f := .glo "ring_of") rfl) (fun _ _ _ _ _ _ us hl => match us, hl with | [_, _], _ => rfl) (fun f fd F => ok_ring_of T F)
  have D_make_fraction : Kept P w K mg base 1 "make_fraction" ["n", "d"] spFrac := kept_of (st := s_make_fraction) X G (c.1.def_ 7 (d := dd_make_fraction) rfl) (c.1.fact 7 (f := .glo "make_fraction") rfl) (fun _ _ _ _ _ _ us hl => match us, hl with | [_, _], _ => rfl) (fun f fd F => ok_make_fraction T F)
  have D_is_less : Kept P w K mg base 1 "is_less" ["a", "b"] (spLess K) := kept_of (st := s_is_less) X G (c.1.def_ 10 (d := dd_is_less) rfl) (c.1.fact 10 (f := .glo "is_less") rfl) (fun _ _ _ _ _ _ us hl => match us, hl with | [_, _], _ => rfl) (fun f fd F => ok_is_less T F)
  have D_worth_of : Kept P w K mg base 1 "worth_of" ["worths", "shown"] (spWorthOf K) := kept_of (st := s_worth_of) X G (c.1.def_ 13 (d := dd_worth_of) rfl) (c.1.fact 13 (f := .glo "worth_of") rfl) (fun _ _ _ _ _ _ us hl => match us, hl with | [_, _], _ => rfl) (fun f fd F => ok_worth_of T F)
  have D_heights_of : Kept P w K mg base 1 "heights_of" ["rows", "states"] (spHeights K) := kept_of (st := s_heights_of) X G (c.1.def_ 18 (d := dd_heights_of) rfl) (c.1.fact 18 (f := .glo "heights_of") rfl) (fun _ _ _ _ _ _ us hl => match us, hl with | [_, _], _ => rfl) (fun f fd F => ok_heights_of T F)
  have D_tight_branches : Kept P w K mg base 1 "tight_branches" ["branches", "row", "heights", "state"] (spTight K) := kept_of (st := s_tight_branches) X G (c.1.def_ 19 (d := dd_tight_branches) rfl) (c.1.fact 19 (f := .glo "tight_branches") rfl) (fun _ _ _ _ _ _ us hl => match us, hl with | [_, _, _, _], _ => rfl) (fun f fd F => ok_tight_branches T F)
  have D_branch_at : Kept P w K mg base 1 "branch_at" ["row", "tape", "at"] (spBranch K) := kept_of (st := s_branch_at) X G (c.1.def_ 24 (d := dd_branch_at) rfl) (c.1.fact 24 (f := .glo "branch_at") rfl) (fun _ _ _ _ _ _ us hl => match us, hl with | [_, _, _], _ => rfl) (fun f fd F => ok_branch_at T F)
  have D__law_begin : Kept P w K mg base 1 "_law_begin" ["script"] (spBegin K) := kept_of (st := s__law_begin) X G (c.1.def_ 25 (d := dd__law_begin) rfl) (c.1.fact 25 (f := .glo "_law_begin") rfl) (fun _ _ _ _ _ _ us hl => match us, hl with | [_], _ => rfl) (fun f fd F => ok__law_begin T F)
  have D__law_draw : Kept P w K mg base 1 "_law_draw" ["d", "many"] spDraw := kept_of (st := s__law_draw) X G (c.1.def_ 26 (d := dd__law_draw) rfl) (c.1.fact 26 (f := .glo "_law_draw") rfl) (fun _ _ _ _ _ _ us hl => match us, hl with | [_, _], _ => rfl) (fun f fd F => ok__law_draw T F)
  have D__law_pool : Kept P w K mg base 1 "_law_pool" [] spPool := kept_of (st := s__law_pool) X G (c.1.def_ 30 (d := dd__law_pool) rfl) (c.1.fact 30 (f := .glo "_law_pool") rfl) (fun _ _ _ _ _ _ us hl => match us, hl with | [], _ => rfl) (fun f fd F => ok__law_pool T F)
  have D__law_is_int : Kept P w K mg base 1 "_law_is_int" ["thing"] spIsInt := kept_of (st := s__law_is_int) X G (c.1.def_ 31 (d := dd__law_is_int) rfl) (c.1.fact 31 (f := .glo "_law_is_int") rfl) (fun _ _ _ _ _ _ us hl => match us, hl with | [_], _ => rfl) (fun f fd F => ok__law_is_int T F)
  have D__law_frac : Kept P w K mg base 1 "_law_frac" ["n", "d"] spFrac := kept_of (st := s__law_frac) X G (c.1.def_ 33 (d := dd__law_frac) rfl) (c.1.fact 33 (f := .glo "_law_frac") rfl) (fun _ _ _ _ _ _ us hl => match us, hl with | [_, _], _ => rfl) (fun f fd F => ok__law_frac T F)
  have D__law_less : Kept P w K mg base 1 "_law_less" ["a", "b"] (spLess K) := kept_of (st := s__law_less) X G (c.1.def_ 37 (d := dd__law_less) rfl) (c.1.fact 37 (f := .glo "_law_less") rfl) (fun _ _ _ _ _ _ us hl => match us, hl with | [_, _], _ => rfl) (fun f fd F => ok__law_less T F)
  have D__law_worth : Kept P w K mg base 1 "_law_worth" ["worths", "shown"] (spLWorth K) := kept_of (st := s__law_worth) X G (c.1.def_ 41 (d := dd__law_worth) rfl) (c.1.fact 41 (f := .glo "_law_worth") rfl) (fun _ _ _ _ _ _ us hl => match us, hl with | [_, _], _ => rfl) (fun f fd F => ok__law_worth T F)
  have D__law_ways_to : Kept P w K mg base 1 "_law_ways_to" ["chain"] (spWays K) := kept_of (st := s__law_ways_to) X G (c.1.def_ 46 (d := dd__law_ways_to) rfl) (c.1.fact 46 (f := .glo "_law_ways_to") rfl) (fun _ _ _ _ _ _ us hl => match us, hl with | [_], _ => rfl) (fun f fd F => ok__law_ways_to T F)
  have D__law_is_bool : Kept P w K mg base 1 "_law_is_bool" ["told", "due"] spIsBool := kept_of (st := s__law_is_bool) X G (c.1.def_ 50 (d := dd__law_is_bool) rfl) (c.1.fact 50 (f := .glo "_law_is_bool") rfl) (fun _ _ _ _ _ _ us hl => match us, hl with | [_, _], _ => rfl) (fun f fd F => ok__law_is_bool T F)
  have D_ring_along : Kept P w K mg base 2 "ring_along" ["rows", "way", "ring"] (spRAlongG K) := kept_of (st := s_ring_along) X G (c.1.def_ 4 (d := dd_ring_along) rfl) (c.1.fact 4 (f := .glo "ring_along") rfl) (fun _ _ _ _ _ _ us hl => match us, hl with | [_, _, _], _ => rfl) (fun f fd F => ok_ring_along T D_branches_along F)
  have D_way_to : Kept P w K mg base 2 "way_to" ["rows", "goal"] (spWayTo K) := kept_of (st := s_way_to) X G (c.1.def_ 6 (d := dd_way_to) rfl) (c.1.fact 6 (f := .glo "way_to") rfl) (fun _ _ _ _ _ _ us hl => match us, hl with | [_, _], _ => rfl) (fun f fd F => ok_way_to T D_distances D_turned F)
  have D_sum_of : Kept P w K mg base 2 "sum_of" ["a", "b"] (spBin K add2) := kept_of (st := s_sum_of) X G (c.1.def_ 8 (d := dd_sum_of) rfl) (c.1.fact 8 (f := .glo "sum_of") rfl) (fun _ _ _ _ _ _ us hl => match us, hl with | [_, _], _ => rfl) (fun f fd F => ok_sum_of T D_make_fraction F)
  have D_product_of : Kept P w K mg base 2 "product_of" ["a", "b"] (spBin K mul2) := kept_of (st := s_product_of) X G (c.1.def_ 9 (d := dd_product_of) rfl) (c.1.fact 9 (f := .glo "product_of") rfl) (fun _ _ _ _ _ _ us hl => match us, hl with | [_, _], _ => rfl) (fun f fd F => ok_product_of T D_make_fraction F)
  have D_least_of : Kept P w K mg base 2 "least_of" ["fractions"] (spExt K fun g f => lessB g f) := kept_of (st := s_least_of) X G (c.1.def_ 11 (d := dd_least_of) rfl) (c.1.fact 11 (f := .glo "least_of") rfl) (fun _ _ _ _ _ _ us hl => match us, hl with | [_], _ => rfl) (fun f fd F => ok_least_of T D_is_less F)
  have D_greatest_of : Kept P w K mg base 2 "greatest_of" ["fractions"] (spExt K fun g f => lessB f g) := kept_of (st := s_greatest_of) X G (c.1.def_ 12 (d := dd_greatest_of) rfl) (c.1.fact 12 (f := .glo "greatest_of") rfl) (fun _ _ _ _ _ _ us hl => match us, hl with | [_], _ => rfl) (fun f fd F => ok_greatest_of T D_is_less F)
  have D_worth_rows : Kept P w K mg base 2 "worth_rows" ["chain", "worths"] (spWRows K) := kept_of (st := s_worth_rows) X G (c.1.def_ 15 (d := dd_worth_rows) rfl) (c.1.fact 15 (f := .glo "worth_rows") rfl) (fun _ _ _ _ _ _ us hl => match us, hl with | [_, _], _ => rfl) (fun f fd F => ok_worth_rows T D_worth_of F)
  have D_walk : Kept P w K mg base 2 "walk" ["chain", "tape", "ticks"] (spWalk K) := kept_of (st := s_walk) X G (c.1.def_ 23 (d := dd_walk) rfl) (c.1.fact 23 (f := .glo "walk") rfl) (fun _ _ _ _ _ _ us hl => match us, hl with | [_, _, _], _ => rfl) (fun f fd F => ok_walk T D_branch_at F)
  have D__law_pick : Kept P w K mg base 2 "_law_pick" ["d", "row"] (spPick K) := kept_of (st := s__law_pick) X G (c.1.def_ 27 (d := dd__law_pick) rfl) (c.1.fact 27 (f := .glo "_law_pick") rfl) (fun _ _ _ _ _ _ us hl => match us, hl with | [_, _], _ => rfl) (fun f fd F => ok__law_pick T D__law_draw F)
  have D__law_pop : Kept P w K mg base 2 "_law_pop" ["d", "row"] spPop := kept_of (st := s__law_pop) X G (c.1.def_ 28 (d := dd__law_pop) rfl) (c.1.fact 28 (f := .glo "_law_pop") rfl) (fun _ _ _ _ _ _ us hl => match us, hl with | [_, _], _ => rfl) (fun f fd F => ok__law_pop T D__law_draw F)
  have D__law_rare : Kept P w K mg base 2 "_law_rare" ["d", "many"] spRare := kept_of (st := s__law_rare) X G (c.1.def_ 29 (d := dd__law_rare) rfl) (c.1.fact 29 (f := .glo "_law_rare") rfl) (fun _ _ _ _ _ _ us hl => match us, hl with | [_, _], _ => rfl) (fun f fd F => ok__law_rare T D__law_draw F)
  have D__law_is_ints : Kept P w K mg base 2 "_law_is_ints" ["row"] (spIsInts K) := kept_of (st := s__law_is_ints) X G (c.1.def_ 32 (d := dd__law_is_ints) rfl) (c.1.fact 32 (f := .glo "_law_is_ints") rfl) (fun _ _ _ _ _ _ us hl => match us, hl with | [_], _ => rfl) (fun f fd F => ok__law_is_ints T D__law_is_int F)
  have D__law_plus : Kept P w K mg base 2 "_law_plus" ["a", "b"] (spBin K add2) := kept_of (st := s__law_plus) X G (c.1.def_ 34 (d := dd__law_plus) rfl) (c.1.fact 34 (f := .glo "_law_plus") rfl) (fun _ _ _ _ _ _ us hl => match us, hl with | [_, _], _ => rfl) (fun f fd F => ok__law_plus T D__law_frac F)
  have D__law_minus : Kept P w K mg base 2 "_law_minus" ["a", "b"] (spBin K sub2) := kept_of (st := s__law_minus) X G (c.1.def_ 35 (d := dd__law_minus) rfl) (c.1.fact 35 (f := .glo "_law_minus") rfl) (fun _ _ _ _ _ _ us hl => match us, hl with | [_, _], _ => rfl) (fun f fd F => ok__law_minus T D__law_frac F)
  have D__law_times : Kept P w K mg base 2 "_law_times" ["a", "b"] (spBin K mul2) := kept_of (st := s__law_times) X G (c.1.def_ 36 (d := dd__law_times) rfl) (c.1.fact 36 (f := .glo "_law_times") rfl) (fun _ _ _ _ _ _ us hl => match us, hl with | [_, _], _ => rfl) (fun f fd F => ok__law_times T D__law_frac F)
  have D__law_words : Kept P w K mg base 2 "_law_words" ["d", "base", "many"] (spWords K) := kept_of (st := s__law_words) X G (c.1.def_ 40 (d := dd__law_words) rfl) (c.1.fact 40 (f := .glo "_law_words") rfl) (fun _ _ _ _ _ _ us hl => match us, hl with | [_, _, _], _ => rfl) (fun f fd F => ok__law_words T D__law_draw F)
  have D__law_best_ring : Kept P w K mg base 2 "_law_best_ring" ["chain", "worths", "states"] (spBestX K) := kept_of (st := s__law_best_ring) X G (c.1.def_ 47 (d := dd__law_best_ring) rfl) (c.1.fact 47 (f := .glo "_law_best_ring") rfl) (fun _ _ _ _ _ _ us hl => match us, hl with | [_, _, _], _ => rfl) (fun f fd F => ok__law_best_ring T D__law_frac D__law_less D__law_worth F)
  have D__law_along : Kept P w K mg base 2 "_law_along" ["chain", "worths", "start", "blocks"] (spLAlong K) := kept_of (st := s__law_along) X G (c.1.def_ 48 (d := dd__law_along) rfl) (c.1.fact 48 (f := .glo "_law_along") rfl) (fun _ _ _ _ _ _ us hl => match us, hl with | [_, _, _, _], _ => rfl) (fun f fd F => ok__law_along T D__law_worth F)
  have D_greatest : Kept P w K mg base 3 "greatest" ["chain", "worths", "n"] (spGreat K) := kept_of (st := s_greatest) X G (c.1.def_ 14 (d := dd_greatest) rfl) (c.1.fact 14 (f := .glo "greatest") rfl) (fun _ _ _ _ _ _ us hl => match us, hl with | [_, _, _], _ => rfl) (fun f fd F => ok_greatest T D_worth_rows F)
  have D_greatest_mean : Kept P w K mg base 3 "greatest_mean" ["rows", "many"] (spMean K) := kept_of (st := s_greatest_mean) X G (c.1.def_ 17 (d := dd_greatest_mean) rfl) (c.1.fact 17 (f := .glo "greatest_mean") rfl) (fun _ _ _ _ _ _ us hl => match us, hl with | [_, _], _ => rfl) (fun f fd F => ok_greatest_mean T D_make_fraction D_least_of D_greatest_of F)
  have D_best_ring : Kept P w K mg base 3 "best_ring" ["rows", "tight", "states"] (spBestR K) := kept_of (st := s_best_ring) X G (c.1.def_ 20 (d := dd_best_ring) rfl) (c.1.fact 20 (f := .glo "best_ring") rfl) (fun _ _ _ _ _ _ us hl => match us, hl with | [_, _, _], _ => rfl) (fun f fd F => ok_best_ring T D_longest D_ring_of D_way_to F)
  have D_is_bound : Kept P w K mg base 3 "is_bound" ["row", "speed", "potentials", "potential"] (spBound K) := kept_of (st := s_is_bound) X G (c.1.def_ 22 (d := dd_is_bound) rfl) (c.1.fact 22 (f := .glo "is_bound") rfl) (fun _ _ _ _ _ _ us hl => match us, hl with | [_, _, _, _], _ => rfl) (fun f fd F => ok_is_bound T D_sum_of D_is_less F)
  have D__law_is_frac : Kept P w K mg base 3 "_law_is_frac" ["thing"] (spIsFr K) := kept_of (st := s__law_is_frac) X G (c.1.def_ 38 (d := dd__law_is_frac) rfl) (c.1.fact 38 (f := .glo "_law_is_frac") rfl) (fun _ _ _ _ _ _ us hl => match us, hl with | [_], _ => rfl) (fun f fd F => ok__law_is_frac T D__law_is_ints D__law_frac F)
  have D__law_wide_shown : Kept P w K mg base 3 "_law_wide_shown" ["d", "marks"] (spShown K) := kept_of (st := s__law_wide_shown) X G (c.1.def_ 42 (d := dd__law_wide_shown) rfl) (c.1.fact 42 (f := .glo "_law_wide_shown") rfl) (fun _ _ _ _ _ _ us hl => match us, hl with | [_, _], _ => rfl) (fun f fd F => ok__law_wide_shown T D__law_pick F)
  have D__law_drawn_worths : Kept P w K mg base 3 "_law_drawn_worths" ["d", "marks"] (spWorths K) := kept_of (st := s__law_drawn_worths) X G (c.1.def_ 45 (d := dd__law_drawn_worths) rfl) (c.1.fact 45 (f := .glo "_law_drawn_worths") rfl) (fun _ _ _ _ _ _ us hl => match us, hl with | [_, _], _ => rfl) (fun f fd F => ok__law_drawn_worths T D__law_draw D__law_pick F)
  have D__law_rate_taken : Kept P w K mg base 3 "_law_rate_taken" ["chain", "worths", "paper"] (spTaken K) := kept_of (st := s__law_rate_taken) X G (c.1.def_ 49 (d := dd__law_rate_taken) rfl) (c.1.fact 49 (f := .glo "_law_rate_taken") rfl) (fun _ _ _ _ _ _ us hl => match us, hl with | [_, _, _], _ => rfl) (fun f fd F => ok__law_rate_taken T D__law_plus D__law_times D__law_less D__law_worth D__law_along F)
  have D__law_lasso_walked : Kept P w K mg base 3 "_law_lasso_walked" ["chain", "worths", "paper"] (spLasso K) := kept_of (st := s__law_lasso_walked) X G (c.1.def_ 52 (d := dd__law_lasso_walked) rfl) (c.1.fact 52 (f := .glo "_law_lasso_walked") rfl) (fun _ _ _ _ _ _ us hl => match us, hl with | [_, _, _], _ => rfl) (fun f fd F => ok__law_lasso_walked T D_walk D__law_frac D__law_worth F)
  have D_rate : Kept P w K mg base 4 "rate" ["chain", "worths"] (spRate K) := kept_of (st := s_rate) X G (c.1.def_ 16 (d := dd_rate) rfl) (c.1.fact 16 (f := .glo "rate") rfl) (fun _ _ _ _ _ _ us hl => match us, hl with | [_, _], _ => rfl) (fun f fd F => ok_rate T D_distances D_make_fraction D_worth_rows D_greatest_mean D_heights_of D_tight_branches D_best_ring F)
  have D_judge_rate : Kept P w K mg base 4 "judge_rate" ["chain", "worths", "paper"] (spJRate K) := kept_of (st := s_judge_rate) X G (c.1.def_ 21 (d := dd_judge_rate) rfl) (c.1.fact 21 (f := .glo "judge_rate") rfl) (fun _ _ _ _ _ _ us hl => match us, hl with | [_, _, _], _ => rfl) (fun f fd F => ok_judge_rate T D_ring_along D_product_of D_worth_of D_worth_rows D_is_bound F)
  have D__law_is_fracs : Kept P w K mg base 4 "_law_is_fracs" ["row"] (spIsFrs K) := kept_of (st := s__law_is_fracs) X G (c.1.def_ 39 (d := dd__law_is_fracs) rfl) (c.1.fact 39 (f := .glo "_law_is_fracs") rfl) (fun _ _ _ _ _ _ us hl => match us, hl with | [_], _ => rfl) (fun f fd F => ok__law_is_fracs T D__law_is_frac F)
  have D__law_wide_chain : Kept P w K mg base 4 "_law_wide_chain" ["d", "base", "states", "marks"] (spWChain K) := kept_of (st := s__law_wide_chain) X G (c.1.def_ 43 (d := dd__law_wide_chain) rfl) (c.1.fact 43 (f := .glo "_law_wide_chain") rfl) (fun _ _ _ _ _ _ us hl => match us, hl with | [_, _, _, _], _ => rfl) (fun f fd F => ok__law_wide_chain T D__law_draw D__law_words D__law_wide_shown F)
  have D__law_bounded : Kept P w K mg base 4 "_law_bounded" ["chain", "worths", "paper", "counts"] (spBdd K) := kept_of (st := s__law_bounded) X G (c.1.def_ 53 (d := dd__law_bounded) rfl) (c.1.fact 53 (f := .glo "_law_bounded") rfl) (fun _ _ _ _ _ _ us hl => match us, hl with | [_, _, _, _], _ => rfl) (fun f fd F => ok__law_bounded T D_greatest D__law_is_ints D__law_plus D__law_minus D__law_times D__law_less F)
  have D__law_rich_chain : Kept P w K mg base 5 "_law_rich_chain" ["d", "marks", "most"] (spRChain K) := kept_of (st := s__law_rich_chain) X G (c.1.def_ 44 (d := dd__law_rich_chain) rfl) (c.1.fact 44 (f := .glo "_law_rich_chain") rfl) (fun _ _ _ _ _ _ us hl => match us, hl with | [_, _, _], _ => rfl) (fun f fd F => ok__law_rich_chain T D__law_draw D__law_rare D__law_wide_chain F)
  have D__law_is_paper : Kept P w K mg base 5 "_law_is_paper" ["paper"] (spIsPap K) := kept_of (st := s__law_is_paper) X G (c.1.def_ 51 (d := dd__law_is_paper) rfl) (c.1.fact 51 (f := .glo "_law_is_paper") rfl) (fun _ _ _ _ _ _ us hl => match us, hl with | [_], _ => rfl) (fun f fd F => ok__law_is_paper T D__law_is_ints D__law_is_frac D__law_is_fracs F)
  have D__law_asked : Kept P w K mg base 6 "_law_asked" ["chain", "worths", "counts"] (spAsk K) := kept_of (st := s__law_asked) X G (c.1.def_ 54 (d := dd__law_asked) rfl) (c.1.fact 54 (f := .glo "_law_asked") rfl) (fun _ _ _ _ _ _ us hl => match us, hl with | [_, _, _], _ => rfl) (fun f fd F => ok__law_asked T D_rate D_judge_rate D__law_plus D__law_ways_to D__law_best_ring D__law_rate_taken D__law_is_bool D__law_is_paper D__law_lasso_walked D__law_bounded F)
  exact ok_law T D_rate D__law_begin D__law_draw D__law_pop D__law_rare D__law_pool D__law_rich_chain D__law_drawn_worths D__law_is_paper D__law_asked F
end Mt
open PySem PySem.W PySem.Calls PyProof.Rows
set_option maxHeartbeats 0 in
theorem PySem.Challenge.cw_meantrace_k80_whole_rates_holds : PySem.Challenge.rw_meantrace_k80_whole_rates.Holds := by
  w_on; o_law
  refine HandSHeadRun.head_imp (r := OpenLaw.row PySem.Challenge.rw_meantrace_k80_whole_rates) (q := view (OpenLaw.row PySem.Challenge.rw_meantrace_k80_whole_rates).prog [0, 66]) (H := Mt.hk) (ob := Mt.ob) (M := 3000) (loose := Mt.names) (d := HandSHeadRun.topDef (OpenLaw.row PySem.Challenge.rw_meantrace_k80_whole_rates).prog 66) (kwd := []) Mt.ob_eq
     Mt.run (by kernel_rfl) (by kernel_rfl) (by kernel_rfl) (by rfl) (by first | assumption | decide +kernel) (by decide +kernel) ⟨rfl, rfl, rfl, rfl, rfl, by decide +kernel⟩ ?hw ?hc
  case hw => w_witness2
  case hc =>
    refine L2.walk_ofE (l := PySem.Challenge.rw_meantrace_k80_whole_rates) (n := 63) (k := 7) (x := "script") (CX := L2.CX0) rfl (by decide) (by kernel_rfl) ⟨rfl, by decide, by decide⟩ ?F (fun _ _ _ _ z => z)
    intro w mg fa h Y G hmg0
    obtain ⟨K, KX, c⟩ := Y
    have hmg : mg ("law" : PySem.Str) = some (.ref fa) := by
      have e : (HandSHeadRun.topDef (OpenLaw.row PySem.Challenge.rw_meantrace_k80_whole_rates).prog 66).name = ("law" : PySem.Str) := by kernel_rfl
      rw [← e]
      exact hmg0
    obtain ⟨fd, hb, hF⟩ := Mt.facts (P := (PySem.Challenge.rw_meantrace_k80_whole_rates).prog) (w := w) KX G hmg c
    exact ⟨K, fd, Mt.spLaw K, KX, hb, fun H a ns hl hO hS => ⟨a, ns, rfl, hS, hl, fun _ => rfl⟩, hF⟩
