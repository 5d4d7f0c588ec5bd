import PyProof.Rows.All
import KE.KDictDisplayH
import HandS.Deep
import Wide.All
import OpenK.AllK
import Wide.FinOn
import KE.KStateDown
import HandS.ForMost
import HandS.Wide
import HandS.IsInst
import HandS.Walk
import HandS.Style
import HandS.Evl
import HandS.StrMore
import HandS.Exc
import HandS.WordsExc
import HandS.Defaults
import HandS.Head0
import HandS.Head1
import HandS.Head2
import HandS.HeadEnd
import HandS.HeadHook1
import HandS.HeadHook2
import HandS.Gcd
import HandS.Head3
import HandS.Star
import HandS.RaiseMore
import HandS.AnyAll
import HandS.Conv
import HandS.More
import HandS.Small
import HandS.HeadHook3
import HandS.HeadHook4
import HandS.HeadWalk
import HandS.EndTab
import PyProof.GenCompT
import PyProof.TupleOfGen
import PyProof.WalksPairs
import KE.KTupSum
import KE.DataMinMax
import HandS.SortKw
import HandS.TupAny
import KE.KDictKeyed
import KE.SortData
import KE.KDictSum
import KE.KDictPairs
import HandS.Zip
import HandS.DictComp
import HandS.Property
import HandS.HeadNt
import PySem.Challenge.RW_meantrace_k76_whole_claims
set_option Elab.async false
set_option linter.all false
set_option maxRecDepth 100000
/-! Our own words over the hand layer: defs of the top by name, the draws' state, heaps that go on. -/
namespace Mt
open PySem PySem.Spec PyProof.Rows L2
section
variable {P : Program} {w : World} {K : PySem.W.Frag} {mg : Str → Option Value} {base : Heap}
abbrev FnP (K : PySem.W.Frag) (x : Str) (st : Stmt) (f : Addr) (fd : FuncData) : Prop := FunD K x x (defArgs st) (defBody st) (defScope st) [] [] f fd
/-- a def that keeps its promise -/
def Kept (P : Program) (w : World) (K : PySem.W.Frag) (mg : Str → Option Value) (base : Heap) (k : Nat) (x : Str) (ps : List Str) (sp : Sp) : Prop :=
  ∃ f fd, FnOk P w K mg base CX0 k f fd ps sp ∧ mg x = some (.ref f) ∧ PySem.W.keepIn K (.ref f) = true ∧ Binds K fd ps []
/-- what the head tells: facts by names, defs, one more word of one's own -/
abbrev AlM : Type := He.AlD × Bool
def obsM (n : Nat) (fa : List He.Fa) (fn : List He.DefD) (ex : PySem.W.Frag → Bool) (g : Addr → Option Obj) : AlM := (He.obsDG n fa fn g, ex (He.frG g (He.asD g n)))
def SaysM (fa : List He.Fa) (fn : List He.DefD) (ex : PySem.W.Frag → Bool) (K : PySem.W.Frag) : Prop := He.SaysD fa fn K ∧ ex K = true
def hookM (n : Nat) (fa : List He.Fa) (fn : List He.DefD) (ex : PySem.W.Frag → Bool) : PySem.W.Hook where
  α := AlM
  obs := fun s => obsM n fa fn ex s.heap.get?
  val := fun _ => (He.valD fn, true)
  says := fun _ h => ∃ K : PySem.W.Frag, K.In h ∧ SaysM fa fn ex K
  of := fun _ _ e => ⟨_, He.frG_in, congrArg (fun z : AlM => z.1) e, congrArg (fun z : AlM => z.2) e⟩
  keeps := fun _ _ _ ⟨K, hK, c⟩ k => ⟨K, PySem.W.Frag.In.keeps hK k, c⟩
theorem obsM_eq {n : Nat} {fa : List He.Fa} {fn : List He.DefD} {ex : PySem.W.Frag → Bool} {g : Addr → Option Obj} {s : Shared} (h : ∀ a, g a = s.heap.get? a) : obsM n fa fn ex g = (hookM n fa fn ex).obs s := by
  have e : g = s.heap.get? := funext h
  rw [e] <;> rfl
theorem kept_of {h : Heap} (X : K.In h) (G : h.Ns mainGlobals mg) {x : Str} {ps : List Str} {st : Stmt} {k : Nat} {sp : Sp}
    (hd : ∃ fd, FnP K x st (He.ga K x) fd) (hg : (He.Fa.glo x).ok K = true)
    (hb : ∀ (kV doc pm : Value) (an : Option Addr) (cdv ct : Value) (us : List Value), us.length = ps.length → bindArgs (PySem.W.fnOf x x (defArgs st) (defBody st) (defScope st) .none kV doc pm an cdv ct) ⟨us, []⟩ = pure (ps.zip us))
    (ok : ∀ f fd, FnP K x st f fd → FnOk P w K mg base CX0 k f fd ps sp) : Kept P w K mg base k x ps sp := by
  obtain ⟨fd, F⟩ := hd
  exact ⟨_, fd, ok _ fd F, He.glo_ok X G hg, F.kp, F.bindsN hb⟩
end
section
variable {X : Cx}
theorem pe_d {k : Nat} {x : Str} {ps : List Str} {sp : Sp} {e : Expr} {es : List Expr} {t : TA} {p pos : Pos} (D : Kept X.prog X.w X.K X.mg X.base k x ps sp) (hr : Room k X.A) (hg : Gl X x) (ha : PA X (e :: es) t)
    (hdb : (x == ("__debug__" : Str)) = false := by decide) (he : starEach (e :: es) X.env = (false, eval e X.env) :: starEach es X.env := by rfl) (hpl : (backTo pos (starEach es X.env)).any (·.1) = false := by rfl) :
    PE X (.Call (.Name x p) (e :: es) [] pos) (tCall sp [] E0 t) := by
  obtain ⟨f, fd, F, g, kp, b⟩ := D
  exact pe_call F hr hg g kp b .nil pass0 ha hdb he hpl
theorem pe_d0 {k : Nat} {x : Str} {ps : List Str} {sp : Sp} {p pos : Pos} (D : Kept X.prog X.w X.K X.mg X.base k x ps sp) (hr : Room k X.A) (hg : Gl X x) (hdb : (x == ("__debug__" : Str)) = false := by decide) :
    PE X (.Call (.Name x p) [] [] pos) (tCall sp [] E0 tNil) := by
  obtain ⟨f, fd, F, g, kp, b⟩ := D
  exact pe_call0 F hr hg g kp b .nil pass0 hdb
/-- a text of the module; an object of the module -/
theorem pe_gs {x z : Str} {pos : Pos} (h : ∃ t, X.mg x = some (.str z t)) (hg : Gl X x) (hd : (x == ("__debug__" : Str)) = false := by decide) : PE X (.Name x pos) (tC (.str z)) := by
  obtain ⟨t, h⟩ := h
  exact pe_glob hg h ⟨_, rfl⟩ hd
/-- xs[i] op= e reads xs[i] -/
theorem get_list : PGet X (rIxL X.K) := by
  intro pins s σ H o i ov iv Q I ro ri h
  obtain ⟨p, xs, i, z, rfl, rfl, hq, he, q⟩ := h
  cases ro
  obtain ⟨t, rfl⟩ := ri
  obtain ⟨its, r, pl, hz⟩ := I.list hq
  obtain ⟨j, h1, h2, h3, h4, h5⟩ := atI_get he
  obtain ⟨w, ew, rw'⟩ := r.get h2
  have hl := r.length
  have hn := line63
  have fin : EP X pins σ Q w s := ⟨z, H, I, rw', q⟩
  by_cases h0 : 0 ≤ i
  · have hj : i.toNat = j := by
      rw [seqIndex_of h0 h5] at h1
      exact Option.some.inj h1
    exact wpAny_mono (wpAny_getItem_list (Q := fun r s' => r = w ∧ EP X pins σ Q r s') pl.isList h0 (by omega) (by rw [hj]; simpa using ew) ⟨rfl, fin⟩) (fun _ _ q => q.2) (fun _ _ q => q)
  · have hj : (i + (its.toArray.size : Int)).toNat = j := by
      rw [seqIndex_neg (by omega) h4] at h1
      rw [List.size_toArray, ← hl]
      exact Option.some.inj h1
    exact wpAny_mono (wpAny_getItem_list_neg (Q := fun r s' => r = w ∧ EP X pins σ Q r s') pl.isList (by omega) (by rw [List.size_toArray] <;> omega) (by omega) (by rw [hj]; simpa using ew) ⟨rfl, fin⟩) (fun _ _ q => q.2) (fun _ _ q => q)
end

/-! ### the draws: [cells, place, rest, seed] at D -/
structure DrawAt (S D : Addr) (H : Hp) : Prop where
  ne : S ≠ D
  cells : ∃ cs : List Int, H S = some (.lst (cs.map V.int))
  at_ : ∃ i r c : Int, 0 ≤ i ∧ H D = some (.lst [.ref S, .int i, .int r, .int c])
/-- all else that is tracked stays -/
def Keep (D : Addr) (H H' : Hp) : Prop := ∀ b o, H b = some o → b ≠ D → H' b = some o
def Go (S D : Addr) (H H' : Hp) : Prop := DrawAt S D H' ∧ Keep D H H'
theorem Keep.refl {D : Addr} {H : Hp} : Keep D H H := fun _ _ h _ => h
theorem Keep.trans {D : Addr} {H H1 H2 : Hp} (a : Keep D H H1) (b : Keep D H1 H2) : Keep D H H2 := fun x o h n => b x o (a x o h n) n
theorem Go.trans {S D : Addr} {H H1 H2 : Hp} (a : Go S D H H1) (b : Go S D H1 H2) : Go S D H H2 := ⟨b.1, a.2.trans b.2⟩
theorem Keep.set {D : Addr} {H H' : Hp} {o : HO} (k : Keep D H H') : Keep D H (upd H' D o) := fun b u h n => by
  rw [upd_ne n]
  exact k b u h n
theorem DrawAt.set {S D : Addr} {H : Hp} (d : DrawAt S D H) {i r c : Int} (h : 0 ≤ i) : DrawAt S D (upd H D (.lst [.ref S, .int i, .int r, .int c])) :=
  ⟨d.ne, d.cells.imp fun cs h => by rw [upd_ne d.ne]; exact h, ⟨i, r, c, h, upd_same⟩⟩
theorem DrawAt.new {S D p : Addr} {H : Hp} {o : HO} (d : DrawAt S D H) (h : H p = none) : DrawAt S D (upd H p o) := by
  obtain ⟨cs, h1⟩ := d.cells
  obtain ⟨i, r, c, h0, h2⟩ := d.at_
  exact ⟨d.ne, ⟨cs, by rw [upd_ne (ne_of_none h1 h)]; exact h1⟩, ⟨i, r, c, h0, by rw [upd_ne (ne_of_none h2 h)]; exact h2⟩⟩
theorem Keep.new {D p : Addr} {H : Hp} {o : HO} (h : H p = none) : Keep D H (upd H p o) := fun b u e _ => by
  rw [upd_ne (ne_of_none e h)]
  exact e
theorem Go.new {S D p : Addr} {H : Hp} {o : HO} (d : DrawAt S D H) (h : H p = none) : Go S D H (upd H p o) := ⟨d.new h, Keep.new h⟩
theorem Go.same {S D : Addr} {H H' : Hp} (d : DrawAt S D H) (h : Same H H') : Go S D H H' := by
  obtain ⟨cs, h1⟩ := d.cells
  obtain ⟨i, r, c, h0, h2⟩ := d.at_
  exact ⟨⟨d.ne, ⟨cs, h _ _ h1⟩, ⟨i, r, c, h0, h _ _ h2⟩⟩, fun b o e _ => h b o e⟩
theorem Go.refl {S D : Addr} {H : Hp} (d : DrawAt S D H) : Go S D H H := ⟨d, Keep.refl⟩
/-- a fresh place stays fresh when looked at from behind -/
theorem DrawAt.free {S D p : Addr} {H : Hp} (d : DrawAt S D H) (h : H p = none) : p ≠ D ∧ p ≠ S := by
  obtain ⟨cs, h1⟩ := d.cells
  obtain ⟨i, r, c, h0, h2⟩ := d.at_
  exact ⟨(ne_of_none h2 h).symm, (ne_of_none h1 h).symm⟩
theorem Go.free {S D p : Addr} {H H' : Hp} (g : Go S D H H') (d : DrawAt S D H) (h : H' p = none) : H p = none := by
  cases q : H p with
  | none => rfl
  | some o =>
    by_cases e : p = D
    · exact absurd e (g.1.free h).1
    · rw [g.2 p o q e] at h
      cases h
def spDraw : Sp := fun vs H Q _ => ∃ (S D : Addr) (many : Int), vs = [.ref D, .int many] ∧ CDivW 0 many ∧ DrawAt S D H ∧ ∀ H' v, 0 ≤ v → v < many → Go S D H H' → Q (.int v) H'
end Mt
/-! ### {k: v for x in xs}, the keys tuples -/
namespace DCT
open PySem PySem.Spec PyProof.Rows L2
section
variable {X : Cx} {pins : List (Addr × Obj)} {σ : L2.St} {H H' : Hp} {s : Shared} {D : Addr} {y v : V} {u r : Value}
/-- a pair goes into the dict that a block fills -/
theorem put_in {E : Value → Shared → Prop} {Q : Unit → Shared → Prop} (room : X.A.units < cLine) (I : Inv X pins σ H s) (p : DPut H D y v H') (hy : RelV y u) (hv : RelV v r) (q : ∀ s2, Inv X pins σ H' s2 → Q () s2) : wpAny (model X.prog X.w) X.A (dictSet D u r) Q E s := by
  rcases p with ⟨kvs, k, hD, rfl, few, rfl⟩ | ⟨kvs, k, b, hD, rfl, hb, few, rfl⟩
  · exact d_dictSet I hD few hy hv q
  · obtain rfl : u = Value.ref b := hy
    obtain ⟨z, nosys, ps, rel, dd⟩ := dt_of I.hok hD
    have small : ps.length ≤ sizeLine := by
      rw [← Paired.length rel]
      exact z
    have small2 : (putK kvs k v).length ≤ sizeLine := by
      have := length_putK kvs k v
      omega
    refine wpAny_dictSet_heap (hsz := small) (show (tupleKind (mixKind X.prog X.w)).room X.A from room) (key_of I.hok hb) dd fun h2 dd2 same => q _ ?_
    obtain ⟨o, es, ep, ho, c1, c2, c3, _, c4⟩ := dd2
    refine d_write I (by rw [hD]; exact True.intro) same ⟨o, ho⟩ ⟨small2, nosys, _, (rel.put k hb hv).keeps fun c ys ec => ?_, o, es, ep, ho, c1, c2, c3, c4⟩
    rw [upd_ne (ne_of ec hD (fun z => nomatch z))]
    exact ec
end
section
variable {X : Cx}
/-- as tDc, without tests, keys of any form that DPut knows -/
def tDcT (wi : TI) (g : TG) (tk tv : TE) (vs : List Nat) : TE := fun σ H Q => wi σ H fun J H1 => ∀ D, H1 D = none →
  ∃ W : Nat → Nat → Hp → Prop, (∃ m, W 0 m (upd H1 D (.dT []))) ∧ ∀ i m H, W i m H →
    (J.stop i H ∧ Q (.ref D) H) ∨ (J.go i H ∧ ∃ Nx : Hp → Prop, (∀ H2, Nx H2 → ∃ m2, m2 < m ∧ W (i + 1) m2 H2) ∧
      ∀ x H2, J.yld i H x H2 → g x (wipe σ vs) H2 fun σ3 H3 => wipe σ3 vs = wipe σ vs ∧ tk σ3 H3 fun y H4 => tv σ3 H4 fun z H5 => ∃ H6, DPut H5 D y z H6 ∧ Nx H6)
abbrev BX (X : Cx) (scope : Scope) (q : Shared × Hp × Addr × List (Str × Addr) × List Addr) : Cx := X.blk q.1 q.2.1 scope (compEnvC scope q.2.2.2.1 q.2.2.1 X.env) q.2.2.2.2
theorem run_dcT {pins : List (Addr × Obj)} {σ : L2.St} {H : Hp} {s : Shared} {Q : VK} {kx vx tg iter : Expr} {scope : Scope} {own : List (Str × Nat)} {pos pos2 : Pos} {wi : TI} {g : TG} {tk tv : TE} {use : Option (Value → Sem Unit)} {Qf : Value → Shared → Prop}
    (calm : X.calm = true) (nd : X.N.Nodup) (I : Inv X pins σ H s) (hi : PI X tg iter wi) (ok : BlkOk X.N X.env.scope scope own) (room : X.A.units < cLine)
    (pg : ∀ q, PG (BX X scope q) tg g) (pk : ∀ q, PE (BX X scope q) kx tk) (pv : ∀ q, PE (BX X scope q) vx tv) (plain : ∀ x, foldedSetIterable iter X.env x = pure x) (h : tDcT wi g tk tv (own.map (·.2)) σ H Q)
    (done : ∀ D L s2 m H2, Inv X pins σ H2 s2 → Q (.ref D) H2 → s2.heap.Ns L m → FpOk X pins H2 L → compPost (model X.prog X.w) X.A X.xe use Qf (.ref D) L (.ok .next) s2) :
    wpAny (model X.prog X.w) X.A (comprehension (.DictComp kx vx [⟨tg, iter, [], 0⟩] scope pos) scope X.env pos2 newDict false (eval iter X.env) use) Qf X.xe s := by
  have lk : ∀ y ∈ scope.names, y.2 = .free → ∃ c, X.env.cells.lookup y.1 = some c := fun y hy e => (ok.free y hy e).elim (fun k => I.ok.has _ (.inl k)) (fun k => I.ok.has _ (.inr k))
  refine wpAny_comprehension_free (use := use) rfl plain (closure_ok lk) ok.kind (fun y hy e => by rw [ok.uniq y hy, e]) (thn (hi.run pins s σ H _ I h) fun _ s1 h1 => thn h1 fun _ s2 h2 => ?_)
  obtain ⟨it, fp, tn, J, H2, rfl, I2, T, st2, f2, fill⟩ := h2
  refine wpAny_newObj_type (newEnv_comp ?_)
  obtain ⟨W, ⟨m0, w0⟩, turn⟩ := fill _ (I2.hok.fresh (Nat.le_refl _))
  obtain ⟨D, eD⟩ : ∃ D, D = s2.heap.objs.size := ⟨_, rfl⟩
  obtain ⟨hp, ehp⟩ : ∃ hp, hp = s2.heap.push { cls := .type "dict", data := .dict #[] } := ⟨_, rfl⟩
  rw [← eD] at w0 turn ⊢
  rw [← ehp]
  -- the empty dict stands
  have old : ∀ b o, s2.heap.get? b = some o → hp.get? b = some o := fun b o e => by
    rw [ehp]
    exact Heap.get?_push_of_some _ e
  have big : hp.objs.size = D + 1 := by rw [ehp, Heap.size_push, eD]
  have I3 : Inv X pins σ (upd H2 D (.dT [])) { s2 with heap := hp } := by
    subst eD ehp
    exact I2.laid (t' := s2.toks) (fun b o e => Heap.get?_push_of_some _ e) (Nat.le_refl _) (dt_empty s2.heap I2.big)
  have low : ∀ b ∈ fp, b < D := fun b hb => by
    obtain ⟨o, e, _⟩ := T.obj _ _ st2 b hb
    rw [eD]
    exact Heap.lt_size e
  have f3 : ∀ b ∈ fp, FpOk X pins (upd H2 D (.dT [])) b ∧ b < ({ s2 with heap := hp } : Shared).heap.objs.size := fun b hb => by
    have lb := low b hb
    refine ⟨⟨?_, (f2 b hb).2⟩, ?_⟩
    · rw [upd_ne (Nat.ne_of_lt lb)]
      exact (f2 b hb).1
    · show b < hp.objs.size
      rw [big]
      exact Nat.lt_succ_of_lt lb
  have st3 : tn 0 hp := T.keep _ _ _ st2 fun b _ o e => old b o e
  obtain ⟨s3, es3⟩ : ∃ s3 : Shared, s3 = { s2 with heap := hp } := ⟨_, rfl⟩
  have eh3 : s3.heap = hp := by rw [es3]
  rw [← es3] at I3 f3
  obtain ⟨H3, eH3⟩ : ∃ H3, H3 = upd H2 D (.dT []) := ⟨_, rfl⟩
  rw [← eH3] at I3 f3 w0
  have gone : ∀ b ∈ fp, H3 b = none := fun b hb => (f3 b hb).1.1
  have I4 := block_start I3 ok nd f3
  obtain ⟨cl, ecl⟩ : ∃ cl, cl = cellsFrom (s3.heap.objs.size + 1) scope.names (cloFrom X.env.cells scope.names []) := ⟨_, rfl⟩
  have kg := pg (s3, H3, s3.heap.objs.size, cl, fp)
  have kk := pk (s3, H3, s3.heap.objs.size, cl, fp)
  have kv := pv (s3, H3, s3.heap.objs.size, cl, fp)
  rw [← ecl] at I4
  obtain ⟨ce, ece⟩ : ∃ ce, ce = compEnvC scope cl s3.heap.objs.size X.env := ⟨_, rfl⟩
  have ceL : ce.locals = s3.heap.objs.size := by rw [ece]; rfl
  obtain ⟨s4, es4⟩ : ∃ s4 : Shared, s4 = { s3 with heap := pushCells (hp.push { cls := .type "dict", data := .dict #[] }) scope.names } := ⟨_, rfl⟩
  obtain ⟨B, eB⟩ : ∃ B, B = X.blk s3 H3 scope ce fp := ⟨_, rfl⟩
  have kg : PG B tg g := by
    rw [eB, ece]
    exact kg
  have kk : PE B kx tk := by
    rw [eB, ece]
    exact kk
  have kv : PE B vx tv := by
    rw [eB, ece]
    exact kv
  have J4 : Inv B [] (wipe σ (own.map (·.2))) H3 s4 := by
    rw [eB, ece, es4]
    rw [← eh3]
    exact I4
  have tn4 : tn 0 s4.heap := T.keep _ _ _ st3 fun b _ o e => by
    rw [es4]
    exact pushCells_keeps _ _ _ _ (Heap.get?_push_of_some _ e)
  have back : ∀ (H5 : Hp) (s6 : Shared) (σ5 : L2.St), Inv B [] σ5 H5 s6 → Inv X pins σ H5 s6 ∧ ∃ m, s6.heap.Ns s3.heap.objs.size m ∧ FpOk X pins H5 s3.heap.objs.size := fun H5 s6 σ5 I6 => by
    subst eB
    have nC : H5 s3.heap.objs.size = none := by
      have z : H5 ce.locals = none := I6.free
      rwa [ceL] at z
    obtain ⟨m, hn, _⟩ := I6.loc
    have hn : s6.heap.Ns ce.locals m := hn
    rw [ceL] at hn
    exact ⟨I3.call' (ch := fp) I6.os I6.base I6.hok I6.bare fun b hb => ⟨(f3 b hb).1.2.2.2.1, (f3 b hb).1.2.1, (f3 b hb).1.2.2.2.2.1, (f3 b hb).1.2.2.2.2.2⟩, m, hn, I3.fpOk (Nat.le_refl _) nC⟩
  have go4 : codeAny (model X.prog X.w) X.A (.compLoop (.DictComp kx vx [⟨tg, iter, [], 0⟩] scope pos) 0 (.ref it) (.ref D) ce) (compPost (model X.prog X.w) X.A X.xe use Qf (.ref D) s3.heap.objs.size) s4 := by
    subst eB
    refine compLoop_anyD (fun n s' => ∃ i H', Inv (X.blk s3 H3 scope ce fp) [] (wipe σ (own.map (·.2))) H' s' ∧ tn i s'.heap ∧ (∀ b ∈ fp, H' b = none) ∧ W i n H') ?_ m0 ⟨0, H3, J4, tn4, gone, w0⟩
    rintro n s5 ⟨i, H5, I5, st5, n5, w5⟩
    have stay : ∀ {σ' : L2.St} {K' : Hp} {s' : Shared}, Inv (X.blk s3 H3 scope ce fp) [] σ' K' s' → (∀ b ∈ fp, K' b = none) → ∀ b ∈ fp, FpOk (X.blk s3 H3 scope ce fp) [] K' b := fun {σ' K' s'} I' hn b hb =>
      ⟨hn b hb, (I'.ok.exf b hb).1, I'.ok.exfs b hb, .inl hb, (I'.ok.exf b hb).2, fun p hp => by simp at hp⟩
    rcases turn i n H5 w5 with ⟨stop, qq⟩ | ⟨go, Nx, hNx, step⟩
    · refine thnF (T.done (X.blk s3 H3 scope ce fp) rfl rfl rfl calm i [] s5 _ H5 (fun _ _ => False) I5 (stay I5 n5) st5 stop) fun r s6 ⟨er, I6⟩ => ?_
      subst er
      obtain ⟨I7, m, hn, free⟩ := back _ _ _ I6
      exact done D _ s6 m H5 I7 qq hn free
    · refine thnF (T.item (X.blk s3 H3 scope ce fp) rfl rfl rfl calm i [] s5 _ H5 (fun _ _ => False) I5 (stay I5 n5) st5 go) fun r s6 ⟨u, er, h6⟩ => ?_
      subst er
      refine thnF h6 fun _ s7 ⟨x, H7, I7, r7, y7, st7, n7⟩ => ?_
      have P7 := I7.pinned (stay I7 n7) (T.obj _ _ st7)
      refine thnF (kg.run _ s7 _ H7 x u _ P7 r7 (step x H7 y7)) fun _ s8 ⟨σ8, H8, I8, hw8, q8⟩ => ?_
      simp only [List.forIn_nil]
      refine wpAny_pure ?_
      simp only [if_true]
      refine thnF (kk.run _ s8 σ8 H8 _ I8 q8) fun k9 s9 ⟨yk, H9, I9, r9, q9⟩ => ?_
      refine thnF (kv.run _ s9 σ8 H9 _ I9 q9) fun v10 s10 ⟨yv, H10, I10, r10, H11, put, nx⟩ => ?_
      refine put_in (X := X.blk s3 H3 scope ce fp) room I10 put r9 r10 fun s11 I11 => ?_
      obtain ⟨m2, lt, w2⟩ := hNx H11 nx
      have pinned : ∀ b ∈ fp, ∀ o, s7.heap.get? b = some o → s11.heap.get? b = some o ∧ H11 b = none := fun b hb o e => by
        have z := I11.pin (b, o) (List.mem_append_right _ (List.mem_append_right _ (mem_pinsAt hb e)))
        exact ⟨z.1, z.2.1⟩
      refine ⟨m2, lt, i + 1, H11, (I11.unpinned (pins := [])).weak (by rw [← hw8, wipe_length]) (fun j v e => ?_), T.keep _ _ _ st7 fun b hb o e => (pinned b hb o e).1, fun b hb => ?_, w2⟩
      · rw [← hw8] at e
        exact (wipe_some e).1
      · obtain ⟨o, e, _⟩ := T.obj _ _ st7 b hb
        exact (pinned b hb o e).2
  have fin := codeAny_compStart_dict go4 (T.self X.A 0 _ _ _ tn4 go4)
  subst es4 es3 ece ecl
  exact fin
theorem pe_dcT {kx vx tg iter : Expr} {scope : Scope} {own : List (Str × Nat)} {pos : Pos} {wi : TI} {g : TG} {tk tv : TE} (calm : X.calm = true) (nd : X.N.Nodup) (hi : PI X tg iter wi) (ok : BlkOk X.N X.env.scope scope own) (room : X.A.units < cLine)
    (pg : ∀ q, PG (BX X scope q) tg g) (pk : ∀ q, PE (BX X scope q) kx tk) (pv : ∀ q, PE (BX X scope q) vx tv) (plain : ∀ x, foldedSetIterable iter X.env x = pure x := by intro _; rfl) :
    PE X (.DictComp kx vx [⟨tg, iter, [], 0⟩] scope pos) (tDcT wi g tk tv (own.map (·.2))) := by
  refine ⟨fun pins s σ H Q I h => ?_⟩
  rw [arm_eval_DictComp]
  refine run_dcT calm nd I hi ok room pg pk pv plain h fun D L s2 m H2 I2 q hn free => ⟨m, hn, fun h2 sb => ?_⟩
  obtain ⟨c0, c1, c2, c3, c4, c5⟩ := free
  exact ⟨.ref D, H2, I2.turned (t' := s2.toks) (fun b o hb e => (sb.2 b hb).trans e) c0 c1 c3 c4 c5, rfl, q⟩
theorem swaps {kx vx : Expr} {gs : List Comprehension} {scope : Scope} {pos py : Pos} {y : Str} {l : Nat} {env : Env} (fn : env.scope.kind = .function) (loc : env.scope.names.lookup y = some .local) (line : (py.line == pos.line) = true)
    (no : (scope.names.any fun (n, k) => n == y && (k == .local || k == .cell)) = false) : swapsWith (.DictComp kx vx gs scope pos) (some (.Name y py)) l env = pure true := by
  have e1 : env.blockKind = .function := by
    unfold Env.blockKind
    rw [fn]
    rfl
  have e2 : env.kindOf y = some .local := loc
  unfold swapsWith
  simp only [e1, e2, no, Expr.pos, line]
  rfl
/-- name = {..}, a local -/
theorem ps_setDcT {i : Nat} {y : Str} {py : Pos} {kx vx tg iter : Expr} {scope : Scope} {own : List (Str × Nat)} {pos spos : Pos} {wi : TI} {g : TG} {tk tv : TE} (calm : X.calm = true) (nd : X.N.Nodup) (hy : X.N[i]? = some y) (loc : X.env.scope.names.lookup y = some .local)
    (sw : swapsWith (.DictComp kx vx [⟨tg, iter, [], 0⟩] scope pos) (some (.Name y py)) spos.line X.env = pure true) (hi : PI X tg iter wi) (ok : BlkOk X.N X.env.scope scope own) (room : X.A.units < cLine)
    (pg : ∀ q, PG (BX X scope q) tg g) (pk : ∀ q, PE (BX X scope q) kx tk) (pv : ∀ q, PE (BX X scope q) vx tv) (plain : ∀ x, foldedSetIterable iter X.env x = pure x := by intro _; rfl) :
    PS X (.Assign [.Name y py] (.DictComp kx vx [⟨tg, iter, [], 0⟩] scope pos) spos) (tAsg (tDcT wi g tk tv (own.map (·.2))) (gName i)) := by
  refine ⟨fun pins s σ H E I h => ?_⟩
  rw [exec_Assign_Name_used _ _ _ _ sw]
  refine wpAny_bind (wpAny_standAt (wpAny_bind ?_))
  have h : tDcT wi g tk tv (own.map (·.2)) σ H (fun x H1 => gName i x σ H1 E.nx) := h
  have r := run_dcT (use := some (assign (.Name y py) X.env)) (Qf := fun _ s2 => SP X pins E .next s2) (pos := pos) (pos2 := firstIterPos [⟨tg, iter, [], 0⟩] pos) calm nd I hi ok room pg pk pv plain h fun D L s2 m H2 I2 q hn free => by
    show wpAny _ _ (assign (.Name y py) X.env (.ref D)) _ _ _
    refine wpAny_assign_Name (store_ok2 (v := V.ref D) I2 nd hy (.inl loc) rfl (fun s3 I3 ⟨a, sb, ha⟩ => ?_) (.inr loc))
    obtain ⟨c0, c1, c2, c3, c4, c5⟩ := free
    have La : L ≠ a := ha.elim (fun z => by rw [z]; exact c1) (fun z e => c4 y a z e.symm)
    exact ⟨m, hn.sameBut sb La, fun h4 sb4 => ⟨_, H2, I3.turned (t' := s3.toks) (fun b o hb e => (sb4.2 b hb).trans e) c0 c1 c3 c4 c5, q⟩⟩
  exact wpAny_bind (thn r fun _ s2 hq => wpAny_pure (wpAny_pure hq))
end
end DCT
/-! ### sorted of tuples, any length; dict(pairs); tuple() with its object known -/
namespace SR
open PySem PySem.Spec PyProof.Rows L2
section
variable {prog : Program} {w : World} {A : Around} {s : Shared}
theorem sorts_single {v : Value} {as : List Addr} (r : Reads s.heap v (.tuple []) as) : PySem.W.SortsAt prog w A s (PySem.W.dataKind s.heap [.tuple []]) [v] := by
  have hal : PySem.W.AllAlike [PyData.tuple []] := fun d hd d' hd' => by
    rw [List.mem_singleton.mp hd, List.mem_singleton.mp hd']
    rfl
  refine ⟨fun u hu => ?_, tuples' true, fun E x y a b Q ha hb hq => ?_, fun h2 => absurd h2 (by simp)⟩
  · rw [List.mem_singleton.mp hu]
    exact ⟨_, PySem.W.dataKind_some hal List.mem_cons_self r⟩
  · obtain ⟨d, as1, hd, ra, rfl⟩ := PySem.W.dataKind_inv ha
    obtain ⟨d', as2, hd', rb, rfl⟩ := PySem.W.dataKind_inv hb
    rw [List.mem_singleton.mp hd] at ra hq
    rw [List.mem_singleton.mp hd'] at rb hq
    have hq' : Q (PySem.W.dataLt (.tuple []) (.tuple [])) s := hq
    rw [PySem.W.dataLt_tuple] at hq'
    cases ra with
    | @tuple l o xs n _ _ h1 h2 h3 h4 =>
      cases rb with
      | @tuple l' o' xs' n' _ _ k1 k2 k3 k4 =>
        have n1 : xs.toList = [] := by
          cases hx : xs.toList with
          | nil => rfl
          | cons z t => rw [hx] at h4; cases h4
        have n2 : xs'.toList = [] := by
          cases hx : xs'.toList with
          | nil => rfl
          | cons z t => rw [hx] at k4; cases k4
        refine PySem.W.kat_lt h1 h3 k1 k3 ?_
        rw [n1, n2]
        have e1 : xs.size = 0 := by rw [← Array.length_toList, n1]; rfl
        have e2 : xs'.size = 0 := by rw [← Array.length_toList, n2]; rfl
        show Q (decide (xs.size < xs'.size)) s
        rw [e1, e2]
        exact hq'
end
section
variable {X : Cx}
/-- what a list of tuples of data holds, when it can be sorted -/
def SrtOk (ds : List PyData) : Prop := PySem.W.AllAlike ds ∧ (PySem.W.Sortable ds ∨ ds = [.tuple []]) ∧ ∀ d ∈ ds, d.depth ≤ 8
def rSrt (K : PySem.W.Frag) : List V → Hp → VK → Prop := fun vs H Q => ∃ (a : Addr) (bs : List (V × PyData)), vs = [V.ref a] ∧ SqL K H a (bs.map (·.1)) ∧ (∀ b ∈ bs, Dp K H b.1 b.2) ∧ SrtOk (bs.map (·.2)) ∧
  ∀ (ys : List (V × PyData)) (p : Addr), ys.Perm bs → H p = none → Q (.ref p) (upd H p (.lst (ys.map (·.1))))
theorem each_vals {bs : List (V × PyData)} {us : List Value} (r : Vals (bs.map (·.1)) us) : PySem.W.EachIs (fun v (b : V × PyData) => RelV b.1 v) us bs := by
  induction bs generalizing us with
  | nil =>
    cases r
    exact .nil
  | cons b t ih =>
    cases r with
    | cons h r => exact .cons h (ih r)
theorem vals_each {bs : List (V × PyData)} {us : List Value} (e : PySem.W.EachIs (fun v (b : V × PyData) => RelV b.1 v) us bs) : Vals (bs.map (·.1)) us := by
  induction e with
  | nil => exact .nil
  | cons h t ih => exact .cons h ih
theorem each_reads {pins : List (Addr × Obj)} {σ : L2.St} {H : Hp} {s : Shared} (I : Inv X pins σ H s) {bs : List (V × PyData)} {us : List Value} (e : PySem.W.EachIs (fun v (b : V × PyData) => RelV b.1 v) us bs) (h : ∀ b ∈ bs, Dp X.K H b.1 b.2) :
    PySem.W.EachIs (fun v (b : V × PyData) => ∃ as, Reads s.heap v b.2 as) us bs := by
  induction e with
  | nil => exact .nil
  | @cons v b us bs r t ih => exact .cons (Dp.reads I b.2 b.1 v (h b List.mem_cons_self) r) (ih fun x hx => h x (List.mem_cons_of_mem _ hx))
theorem cr_srt (hu : X.A.units + 64 < cLine) : CallR X (.builtin "sorted") (rSrt X.K) := by
  intro pins s σ H vs us Q I r q
  obtain ⟨a, bs, rfl, hs, hd, ⟨hal, hk, hdep⟩, q⟩ := q
  rw [Vals.ref1 r]
  obtain ⟨its, rv, hl, hz⟩ := I.list hs
  rw [List.length_map] at hz
  have e := each_vals rv
  have er := each_reads I e hd
  have fin : ∀ out : List Value, out.length = bs.length → PySem.W.EachIs (fun v (b : V × PyData) => RelV b.1 v) out (bs.mergeSort (PySem.W.dataLe false (·.2))) → EP X pins σ Q (.ref (s.heap.objs.size + 1)) { s with heap := sortedAll s.heap its (List.toArray out) } := fun out ho1 ho2 => by
    obtain ⟨ep, he'⟩ := PyProof.Rows.sortedAll_at s.heap its out.toArray
    have hp : (bs.mergeSort (PySem.W.dataLe false (·.2))).Perm bs := List.mergeSort_perm _ _
    exact ⟨.ref _, upd H (s.heap.objs.size + 1) (.lst ((bs.mergeSort (PySem.W.dataLe false (·.2))).map (·.1))), I.laid (t' := s.toks) (fun _ _ => PyProof.Rows.sortedAll_old) (Nat.le_succ _)
      ⟨by rw [List.length_map, hp.length_eq]; exact hz, out, ep, vals_each ho2, he'⟩, rfl, q _ _ hp (I.hok.fresh (Nat.le_succ _))⟩
  rcases hk with hk | h1
  · exact PySem.W.sorted_data (bs := bs) (enc := (·.2)) (R := fun v b => RelV b.1 v) hl.isList e er hal hk hz (fun b hb => by
      have := hdep b.2 (List.mem_map.mpr ⟨b, hb, rfl⟩)
      omega) fin
  · have hlen : its.length = bs.length := e.length
    match its, bs, e, er, hlen, h1, fin, hl, hz with
    | [u], [b], e, er, _, h1, fin, hl, hz =>
      have hb : b.2 = .tuple [] := by
        have : [b.2] = [PyData.tuple []] := h1
        exact (List.cons.inj this).1
      obtain ⟨as, rd⟩ : ∃ as, Reads s.heap u (.tuple []) as := by
        cases er with
        | cons h _ =>
          rw [hb] at h
          exact h
      have rd' : Reads (PySem.W.sortingHeap (PySem.W.copyHeap s.heap [u]) (s.heap.objs.size + 1) [u]) u (.tuple []) as := PyProof.Rows.Reads.keeps (fun _ _ => PySem.W.sorting_copy_old) rd
      have er' : PySem.W.EachIs (fun v (b : V × PyData) => ∃ as, Reads (PySem.W.sortingHeap (PySem.W.copyHeap s.heap [u]) (s.heap.objs.size + 1) [u]) v b.2 as) [u] [b] := .cons ⟨as, by rw [hb]; exact rd'⟩ .nil
      refine PySem.W.sorted_vals (κ := PySem.W.dataKind (PySem.W.sortingHeap (PySem.W.copyHeap s.heap [u]) (s.heap.objs.size + 1) [u]) [.tuple []]) hl.isList (sorts_single (s := { s with heap := PySem.W.sortingHeap (PySem.W.copyHeap s.heap [u]) (s.heap.objs.size + 1) [u] }) rd') hz ?_
      refine fin _ (by rw [PySem.W.sortVals_length false rfl]; rfl) ?_
      have := PySem.W.sortVals_data (h' := PySem.W.sortingHeap (PySem.W.copyHeap s.heap [u]) (s.heap.objs.size + 1) [u]) false e er' hal
      rw [show List.map (fun x : V × PyData => x.2) [b] = [PyData.tuple []] from h1] at this
      exact this
    | [], [], _, _, _, h1, _, _, _ => exact absurd h1 (by simp)
    | [], _ :: _, _, _, hlen, _, _, _, _ => exact absurd hlen (by simp)
    | _ :: _, [], _, _, hlen, _, _, _, _ => exact absurd hlen (by simp)
    | [_], _ :: _ :: _, _, _, hlen, _, _, _, _ => exact absurd hlen (by simp)
    | _ :: _ :: _, [_], _, _, hlen, _, _, _, _ => exact absurd hlen (by simp)
    | _ :: _ :: _, _ :: _ :: _, _, _, _, h1, _, _, _ => exact absurd h1 (by simp)
/-- a tuple whose object is known, one without attributes of its own -/
def TupK (H : Hp) (a : Addr) (ys : List V) : Prop := ∃ o : Obj, H a = some (.frz o (.tup ys)) ∧ o.dict = none
theorem TupK.sqt {K : PySem.W.Frag} {H : Hp} {a : Addr} {ys : List V} (h : TupK H a ys) : SqT K H a ys := let ⟨o, h, _⟩ := h; .inl (.inr ⟨o, h⟩)
theorem cr_tupleK : CallR X (.type "tuple") (fun xs H Q => ∃ p ys, xs = [.ref p] ∧ SqL X.K H p ys ∧ ∀ l (o : Obj), H l = none → o.dict = none → Q (.ref l) (upd H l (.frz o (.tup ys)))) := by
  intro pins s σ H xs us Q I r h
  obtain ⟨p, ys, rfl, hq, q⟩ := h
  rw [Vals.ref1 r]
  obtain ⟨its, r', pl, hz⟩ := I.list hq
  have hlen := r'.length
  refine call_tuple_list pl.isList (fun h' kp => ?_) (by simp only [List.size_toArray] <;> omega)
  have I1 : Inv X pins σ H { s with heap := h' } := I.kept (t' := s.toks) kp
  have I2 : Inv X pins σ (upd H h'.objs.size (.frz { cls := .type "tuple", data := .seq its.toArray } (.tup ys))) { s with heap := h'.push { cls := .type "tuple", data := .seq its.toArray } } :=
    I1.laid (t' := s.toks) (fun b o e => Heap.get?_push_of_some _ e) (Nat.le_refl _) (show ObjOk X.prog X.w _ _ _ (.frz _ (.tup ys)) from ⟨Heap.get?_push_size _ rfl, hz, its, r', IsTup.new _ _⟩)
  exact ⟨.ref h'.objs.size, _, I2, rfl, q _ _ (I1.hok.fresh (Nat.le_refl _)) rfl⟩
def tTupK (t : TA) : TE := fun σ H Q => t σ H fun xs H1 => xs.length ≤ sizeLine ∧ ∀ p (o : Obj), H1 p = none → o.dict = none → Q (.ref p) (upd H1 p (.frz o (.tup xs)))
theorem pe_tupK {es : List Expr} {t : TA} {pos : Pos} {x1} (h : PA X es t) : PE X (.Tuple es x1 pos) (tTupK t) := by
  refine ⟨fun pins s σ H Q I hq => ?_⟩
  refine wpAny_Tuple_spliced (thn (h.run pos pins s σ H _ I hq) fun us s1 ⟨xs, H1, I1, r, z, q⟩ => ⟨by rw [← r.length]; exact z, ?_⟩)
  have hf : H1 s1.heap.objs.size = none := I1.hok.fresh (Nat.le_refl _)
  exact ⟨.ref s1.heap.objs.size, upd H1 s1.heap.objs.size (.frz { cls := .type "tuple", data := .seq us.toArray } (.tup xs)), I1.laid (t' := s1.toks) (fun b u e => Heap.get?_push_of_some _ e) (Nat.le_refl _)
    ⟨Heap.get?_push_size _ rfl, z, us, r, ⟨_, Heap.get?_push_size _ rfl, rfl, _, rfl⟩⟩, rfl, q _ _ hf rfl⟩
/-- dict(t): t a tuple of pairs of a text and an int -/
abbrev Ptr : Type := Addr × Str × Int
def rDictT (K : PySem.W.Frag) : List V → Hp → VK → Prop := fun vs H Q => ∃ (a : Addr) (ps : List Ptr), vs = [V.ref a] ∧ TupK H a (ps.map fun p => V.ref p.1) ∧ (∀ p ∈ ps, SqT K H p.1 [.str p.2.1, .int p.2.2]) ∧
  ∀ q, H q = none → Q (.ref q) (upd H q (.dK (mergeK [] (ps.map fun p => ((.inr p.2.1 : L2.Key), V.int p.2.2)))))
def PairV (h : Heap) (p : Ptr) (q : Value × Value) : Prop := PairAt h p.1 q.1 q.2 ∧ RelV (.str p.2.1) q.1 ∧ RelV (.int p.2.2) q.2
theorem pairs_ex {pins : List (Addr × Obj)} {σ : L2.St} {H : Hp} {s : Shared} (I : Inv X pins σ H s) : ∀ {ps : List Ptr}, (∀ p ∈ ps, SqT X.K H p.1 [.str p.2.1, .int p.2.2]) → ∃ qs : List (Value × Value), Paired (PairV s.heap) ps qs
  | [], _ => ⟨[], .nil⟩
  | p :: r, h => by
    obtain ⟨qs, hq⟩ := pairs_ex I (ps := r) fun x hx => h x (List.mem_cons_of_mem _ hx)
    obtain ⟨its, rv, pl, _⟩ := I.tuple (h p List.mem_cons_self)
    obtain ⟨u1, u2, rfl, r1, r2⟩ := Vals.two rv
    exact ⟨(u1, u2) :: qs, .cons ⟨.inl pl, r1, r2⟩ hq⟩
theorem cr_dictT (hcalm : X.calm = true) : CallR X (.type "dict") (rDictT X.K) := by
  intro pins s σ H vs us Q I r q
  obtain ⟨a, ps, rfl, ⟨o, ha, hod⟩, hp, q⟩ := q
  rw [Vals.ref1 r]
  obtain ⟨hoa, hz, its, rv, ⟨o', e1, e2, n, e3⟩⟩ := I.hok a _ ha
  rw [hoa] at e1
  cases e1
  obtain ⟨qs, hq⟩ := pairs_ex I hp
  have hl : ps.length = qs.length := Paired.length hq
  have hil := rv.length
  rw [List.length_map] at hil hz
  let Ts : Nat → Addr := fun j => (ps[j]?.map (·.1)).getD 0
  have hT : ∀ j p, ps[j]? = some p → Ts j = p.1 := fun j p e => by
    show (ps[j]?.map (·.1)).getD 0 = p.1
    rw [e]
    rfl
  have hitem : PairItems s.heap its.toArray Ts qs := by
    refine ⟨by rw [List.size_toArray]; omega, fun j k v e => ?_⟩
    have hj : j < ps.length := by
      have := (List.getElem?_eq_some_iff.mp e).1
      omega
    have ej : ps[j]? = some ps[j] := List.getElem?_eq_getElem hj
    obtain ⟨b, hb, h1, _, _⟩ := paired_get hq ej
    rw [e] at hb
    cases hb
    have em : (ps.map fun p => V.ref p.1)[j]? = some (V.ref ps[j].1) := by rw [List.getElem?_map, ej]; rfl
    obtain ⟨u, hu, ru⟩ := rv.get em
    cases ru
    exact ⟨by rw [List.getElem?_toArray, hT j _ ej]; exact hu, by rw [hT j _ ej]; exact h1⟩
  let kvs : List (L2.Key × Value) := (ps.zip qs).map fun z => (.inr z.1.2.1, z.2.2)
  have hkv : KV (ps.map fun p => ((.inr p.2.1 : L2.Key), V.int p.2.2)) kvs := by
    have go : ∀ {ps : List Ptr} {qs : List (Value × Value)}, Paired (PairV s.heap) ps qs → KV (ps.map fun p => ((.inr p.2.1 : L2.Key), V.int p.2.2)) ((ps.zip qs).map fun z => (.inr z.1.2.1, z.2.2)) := fun {ps qs} h => by
      induction h with
      | nil => exact .nil
      | cons h t ih => exact .cons ⟨rfl, h.2.2⟩ ih
    exact go hq
  have hhave : PairsHave (mixKind X.prog X.w) qs.length (PairRel qs) kvs := by
    refine ⟨by show ((ps.zip qs).map _).length = _; rw [List.length_map, List.length_zip]; omega, fun i key v e => ?_⟩
    have hj : i < ps.length := by
      have := (List.getElem?_eq_some_iff.mp e).1
      omega
    have ej : ps[i]? = some ps[i] := List.getElem?_eq_getElem hj
    obtain ⟨b, hb, _, h2, _⟩ := paired_get hq ej
    have e' : qs[i]? = some (key, v) := e
    rw [e'] at hb
    cases hb
    refine ⟨.inr ps[i].2.1, ?_, ?_⟩
    · show ((ps.zip qs).map _)[i]? = _
      rw [List.getElem?_map, show (ps.zip qs)[i]? = some (ps[i], (key, v)) from List.getElem?_zip_eq_some.mpr ⟨ej, e'⟩]
      rfl
    · obtain ⟨t, rfl⟩ := h2
      exact mixKind_str _ _ _ _
  refine call_dict_pairs (PairArg.tuple a its.toArray Ts qs) (I.ok.hd hcalm) ⟨⟨o, n, hoa, e2, hod, e3⟩, hitem⟩ hhave (by rw [← hl]; exact hz) fun h' tk hd' hk => ?_
  have hm : (s.heap.objs.size == sysModules) = false := beq_eq_false_iff_ne.mpr (Nat.ne_of_gt I.big)
  have rel := KV.merge hkv (.nil : KV [] [])
  exact ⟨.ref s.heap.objs.size, _, I.laid (t' := tk) (fun b u e => hk b u List.not_mem_nil e) (Nat.le_refl _) (dk_new (by
    have := length_mergeK (ps.map fun p => ((.inr p.2.1 : L2.Key), V.int p.2.2)) []
    rw [List.length_map] at this
    exact Nat.le_trans this (by show 0 + ps.length ≤ sizeLine; omega)) hm rel hd'), rfl, q _ (I.hok.fresh (Nat.le_refl _))⟩
end
end SR
namespace Mt
open PySem PySem.Spec PyProof.Rows L2
def topS (i : Nat) : Stmt := PySem.Challenge.pw_meantrace_k76_whole_claims.main.body.getD i (.Pass ⟨0, 0, 0, 0⟩)
abbrev s_branches_along : Stmt := topS 1
abbrev N_branches_along : List Str := ["rows", "state", "blocks", "found", "block", "fitting", "branch"]
theorem sc_branches_along : FnScope N_branches_along ["rows", "state", "blocks"] (defScope s_branches_along) := ⟨rfl, rfl, rfl, by decide +kernel, rfl, by decide +kernel, by decide +kernel⟩
abbrev s_place_behind : Stmt := topS 3
abbrev N_place_behind : List Str := ["watch", "place", "shown", "row", "mark", "to"]
theorem sc_place_behind : FnScope N_place_behind ["watch", "place", "shown"] (defScope s_place_behind) := ⟨rfl, rfl, rfl, by decide +kernel, rfl, by decide +kernel, by decide +kernel⟩
abbrev s_decide : Stmt := topS 6
abbrev N_decide : List Str := ["chain", "watch", "bad", "walks", "layer", "further", "state", "place", "digits", "shown", "target", "pair"]
theorem sc_decide : FnScope N_decide ["chain", "watch"] (defScope s_decide) := ⟨rfl, rfl, rfl, by decide +kernel, rfl, by decide +kernel, by decide +kernel⟩
abbrev s_judge_holds : Stmt := topS 7
abbrev N_judge_holds : List Str := ["chain", "watch", "pairs", "known", "pair", "state", "place", "_", "shown", "target"]
theorem sc_judge_holds : FnScope N_judge_holds ["chain", "watch", "pairs"] (defScope s_judge_holds) := ⟨rfl, rfl, rfl, by decide +kernel, rfl, by decide +kernel, by decide +kernel⟩
abbrev s_judge_breaks : Stmt := topS 8
abbrev N_judge_breaks : List Str := ["chain", "watch", "blocks", "branches", "watcher", "branch"]
theorem sc_judge_breaks : FnScope N_judge_breaks ["chain", "watch", "blocks"] (defScope s_judge_breaks) := ⟨rfl, rfl, rfl, by decide +kernel, rfl, by decide +kernel, by decide +kernel⟩
abbrev s_walk : Stmt := topS 13
abbrev N_walk : List Str := ["chain", "tape", "ticks", "rows", "state", "read", "told", "_", "digits", "shown"]
theorem sc_walk : FnScope N_walk ["chain", "tape", "ticks"] (defScope s_walk) := ⟨rfl, rfl, rfl, by decide +kernel, rfl, by decide +kernel, by decide +kernel⟩
abbrev s_branch_at : Stmt := topS 14
abbrev N_branch_at : List Str := ["row", "tape", "at", "branch"]
theorem sc_branch_at : FnScope N_branch_at ["row", "tape", "at"] (defScope s_branch_at) := ⟨rfl, rfl, rfl, by decide +kernel, rfl, by decide +kernel, by decide +kernel⟩
abbrev s__law_begin : Stmt := topS 16
abbrev N__law_begin : List Str := ["script", "cell"]
theorem sc__law_begin : FnScope N__law_begin ["script"] (defScope s__law_begin) := ⟨rfl, rfl, rfl, by decide +kernel, rfl, by decide +kernel, by decide +kernel⟩
abbrev s__law_draw : Stmt := topS 17
abbrev N__law_draw : List Str := ["d", "many", "found", "size", "cell"]
theorem sc__law_draw : FnScope N__law_draw ["d", "many"] (defScope s__law_draw) := ⟨rfl, rfl, rfl, by decide +kernel, rfl, by decide +kernel, by decide +kernel⟩
abbrev s__law_pick : Stmt := topS 18
abbrev N__law_pick : List Str := ["d", "row"]
theorem sc__law_pick : FnScope N__law_pick ["d", "row"] (defScope s__law_pick) := ⟨rfl, rfl, rfl, by decide +kernel, rfl, by decide +kernel, by decide +kernel⟩
abbrev s__law_pop : Stmt := topS 19
abbrev N__law_pop : List Str := ["d", "row"]
theorem sc__law_pop : FnScope N__law_pop ["d", "row"] (defScope s__law_pop) := ⟨rfl, rfl, rfl, by decide +kernel, rfl, by decide +kernel, by decide +kernel⟩
abbrev s__law_rare : Stmt := topS 20
abbrev N__law_rare : List Str := ["d", "many"]
theorem sc__law_rare : FnScope N__law_rare ["d", "many"] (defScope s__law_rare) := ⟨rfl, rfl, rfl, by decide +kernel, rfl, by decide +kernel, by decide +kernel⟩
abbrev s__law_pool : Stmt := topS 21
abbrev N__law_pool : List Str := ["text"]
theorem sc__law_pool : FnScope N__law_pool [] (defScope s__law_pool) := ⟨rfl, rfl, rfl, by decide +kernel, rfl, by decide +kernel, by decide +kernel⟩
abbrev s__law_is_int : Stmt := topS 22
abbrev N__law_is_int : List Str := ["thing"]
theorem sc__law_is_int : FnScope N__law_is_int ["thing"] (defScope s__law_is_int) := ⟨rfl, rfl, rfl, by decide +kernel, rfl, by decide +kernel, by decide +kernel⟩
abbrev s__law_words : Stmt := topS 23
abbrev N__law_words : List Str := ["d", "base", "many", "words", "k", "at", "word", "digit"]
theorem sc__law_words : FnScope N__law_words ["d", "base", "many"] (defScope s__law_words) := ⟨rfl, rfl, rfl, by decide +kernel, rfl, by decide +kernel, by decide +kernel⟩
abbrev s__law_leaves : Stmt := topS 24
abbrev N__law_leaves : List Str := ["chain", "n", "most", "found", "step", "fresh", "digits", "shown", "state", "more", "marks", "there"]
theorem sc__law_leaves : FnScope N__law_leaves ["chain", "n", "most"] (defScope s__law_leaves) := ⟨rfl, rfl, rfl, by decide +kernel, rfl, by decide +kernel, by decide +kernel⟩
abbrev s__law_watch_step : Stmt := topS 25
abbrev N__law_watch_step : List Str := ["watch", "state", "shown", "mark", "to"]
theorem sc__law_watch_step : FnScope N__law_watch_step ["watch", "state", "shown"] (defScope s__law_watch_step) := ⟨rfl, rfl, rfl, by decide +kernel, rfl, by decide +kernel, by decide +kernel⟩
abbrev s__law_drawn_watch : Stmt := topS 26
abbrev N__law_drawn_watch : List Str := ["d", "marks", "many", "rows", "k", "left", "row", "most", "j", "share", "bad"]
theorem sc__law_drawn_watch : FnScope N__law_drawn_watch ["d", "marks", "many"] (defScope s__law_drawn_watch) := ⟨rfl, rfl, rfl, by decide +kernel, rfl, by decide +kernel, by decide +kernel⟩
abbrev s__law_some_watch : Stmt := topS 27
abbrev N__law_some_watch : List Str := ["d", "marks", "most", "way", "one", "other", "n", "steps", "k"]
theorem sc__law_some_watch : FnScope N__law_some_watch ["d", "marks", "most"] (defScope s__law_some_watch) := ⟨rfl, rfl, rfl, by decide +kernel, rfl, by decide +kernel, by decide +kernel⟩
abbrev s__law_ladder : Stmt := topS 28
abbrev N__law_ladder : List Str := ["d", "base", "states", "marks", "rows", "s", "words", "up", "row", "k", "shown", "there"]
theorem sc__law_ladder : FnScope N__law_ladder ["d", "base", "states", "marks"] (defScope s__law_ladder) := ⟨rfl, rfl, rfl, by decide +kernel, rfl, by decide +kernel, by decide +kernel⟩
abbrev s__law_wide_shown : Stmt := topS 29
abbrev N__law_wide_shown : List Str := ["d", "marks", "k"]
theorem sc__law_wide_shown : FnScope N__law_wide_shown ["d", "marks"] (defScope s__law_wide_shown) := ⟨rfl, rfl, rfl, by decide +kernel, rfl, by decide +kernel, by decide +kernel⟩
abbrev s__law_wide_chain : Stmt := topS 30
abbrev N__law_wide_chain : List Str := ["d", "base", "states", "marks", "rows", "s", "row", "word"]
theorem sc__law_wide_chain : FnScope N__law_wide_chain ["d", "base", "states", "marks"] (defScope s__law_wide_chain) := ⟨rfl, rfl, rfl, by decide +kernel, rfl, by decide +kernel, by decide +kernel⟩
abbrev s__law_some_chain : Stmt := topS 31
abbrev N__law_some_chain : List Str := ["d", "marks", "most", "base", "states"]
theorem sc__law_some_chain : FnScope N__law_some_chain ["d", "marks", "most"] (defScope s__law_some_chain) := ⟨rfl, rfl, rfl, by decide +kernel, rfl, by decide +kernel, by decide +kernel⟩
abbrev s__law_met_pairs : Stmt := topS 32
abbrev N__law_met_pairs : List Str := ["chain", "watch", "starts", "found", "known", "pair", "k", "state", "here", "digits", "shown", "there"]
theorem sc__law_met_pairs : FnScope N__law_met_pairs ["chain", "watch", "starts"] (defScope s__law_met_pairs) := ⟨rfl, rfl, rfl, by decide +kernel, rfl, by decide +kernel, by decide +kernel⟩
abbrev s__law_spared : Stmt := topS 33
abbrev N__law_spared : List Str := ["d", "chain", "watch", "met", "pair", "one"]
theorem sc__law_spared : FnScope N__law_spared ["d", "chain", "watch"] (defScope s__law_spared) := ⟨rfl, rfl, rfl, by decide +kernel, rfl, by decide +kernel, by decide +kernel⟩
abbrev s__law_same : Stmt := topS 34
abbrev N__law_same : List Str := ["told", "due", "k"]
theorem sc__law_same : FnScope N__law_same ["told", "due"] (defScope s__law_same) := ⟨rfl, rfl, rfl, by decide +kernel, rfl, by decide +kernel, by decide +kernel⟩
abbrev s__law_is_bool : Stmt := topS 35
abbrev N__law_is_bool : List Str := ["told", "due"]
theorem sc__law_is_bool : FnScope N__law_is_bool ["told", "due"] (defScope s__law_is_bool) := ⟨rfl, rfl, rfl, by decide +kernel, rfl, by decide +kernel, by decide +kernel⟩
abbrev s__law_far : Stmt := topS 36
abbrev N__law_far : List Str := ["chain", "watch", "found", "s", "one", "step", "fresh", "pair"]
theorem sc__law_far : FnScope N__law_far ["chain", "watch"] (defScope s__law_far) := ⟨rfl, rfl, rfl, by decide +kernel, rfl, by decide +kernel, by decide +kernel⟩
abbrev s__law_leads : Stmt := topS 37
abbrev N__law_leads : List Str := ["chain", "watch", "state", "here", "found", "digits", "shown", "there"]
theorem sc__law_leads : FnScope N__law_leads ["chain", "watch", "state", "here", "found"] (defScope s__law_leads) := ⟨rfl, rfl, rfl, by decide +kernel, rfl, by decide +kernel, by decide +kernel⟩
abbrev s__law_least : Stmt := topS 38
abbrev N__law_least : List Str := ["chain", "watch", "far", "state", "here", "blocks", "step", "digits", "shown", "there", "later"]
theorem sc__law_least : FnScope N__law_least ["chain", "watch", "far"] (defScope s__law_least) := ⟨rfl, rfl, rfl, by decide +kernel, rfl, by decide +kernel, by decide +kernel⟩
abbrev s__law_due : Stmt := topS 39
abbrev N__law_due : List Str := ["chain", "watch", "far"]
theorem sc__law_due : FnScope N__law_due ["chain", "watch"] (defScope s__law_due) := ⟨rfl, rfl, rfl, by decide +kernel, rfl, by decide +kernel, by decide +kernel⟩
abbrev s__law_judged : Stmt := topS 40
abbrev N__law_judged : List Str := ["chain", "watch", "due", "pairs", "blocks"]
theorem sc__law_judged : FnScope N__law_judged ["chain", "watch", "due"] (defScope s__law_judged) := ⟨rfl, rfl, rfl, by decide +kernel, rfl, by decide +kernel, by decide +kernel⟩
abbrev s__law_replayed : Stmt := topS 41
abbrev N__law_replayed : List Str := ["chain", "watch", "blocks", "watcher", "state", "block", "branch", "one"]
theorem sc__law_replayed : FnScope N__law_replayed ["chain", "watch", "blocks"] (defScope s__law_replayed) := ⟨rfl, rfl, rfl, by decide +kernel, rfl, by decide +kernel, by decide +kernel⟩
abbrev s__law_met_by_walk : Stmt := topS 42
abbrev N__law_met_by_walk : List Str := ["d", "chain", "watch", "pairs", "tape", "k", "n", "told", "watcher", "shown"]
theorem sc__law_met_by_walk : FnScope N__law_met_by_walk ["d", "chain", "watch"] (defScope s__law_met_by_walk) := ⟨rfl, rfl, rfl, by decide +kernel, rfl, by decide +kernel, by decide +kernel⟩
abbrev s__law_all_walks : Stmt := topS 43
abbrev N__law_all_walks : List Str := ["chain", "watch", "due", "size", "leaves", "n", "more", "broken_ones", "digits", "rows", "state", "watcher", "shown"]
theorem sc__law_all_walks : FnScope N__law_all_walks ["chain", "watch", "due"] (defScope s__law_all_walks) := ⟨rfl, rfl, rfl, by decide +kernel, rfl, by decide +kernel, by decide +kernel⟩
abbrev s_law : Stmt := topS 44
abbrev N_law : List Str := ["script", "d", "names", "marks", "k", "chain", "most", "watch", "due", "many", "other"]
theorem sc_law : FnScope N_law ["script"] (defScope s_law) := ⟨rfl, rfl, rfl, by decide +kernel, rfl, by decide +kernel, by decide +kernel⟩
structure Txt (K : PySem.W.Frag) (mg : Str → Option Value) : Prop where
  b_int : mg "int" = none
  b_abs : mg "abs" = none
  b_len : mg "len" = none
  b_isinstance : mg "isinstance" = none
  b_bool : mg "bool" = none
  b_tuple : mg "tuple" = none
  b_list : mg "list" = none
  b_range : mg "range" = none
  b_sorted : mg "sorted" = none
  b_min : mg "min" = none
  b_all : mg "all" = none
  b_str : mg "str" = none
theorem upd_upd {H : Hp} {p : Addr} {a b : HO} : upd (upd H p a) p b = upd H p b := by
  funext x
  unfold upd
  split <;> rfl
theorem take_map_succ {α β : Type} {f : α → β} {l : List α} {i : Nat} {c : α} (h : l[i]? = some c) : (l.take i).map f ++ [f c] = (l.take (i + 1)).map f := by
  rw [List.take_add_one, h, List.map_append]
  rfl
theorem divW_of {n : Int} (h : 0 < n) (h2 : n < 2 ^ 64) : CDivW 0 n := wide_div h (b := 64) (by omega) (by decide) (by decide)
theorem getV {ns : List Int} {i : Nat} {x : V} (h : (ns.map V.int)[i]? = some x) : ∃ z, x = .int z ∧ ns[i]? = some z := by
  rw [List.getElem?_map] at h
  cases e : ns[i]? with
  | none =>
    rw [e] at h
    cases h
  | some z =>
    rw [e] at h
    exact ⟨z, (Option.some.inj h).symm, rfl⟩
def spBegin (K : PySem.W.Frag) : Sp := fun vs H Q _ => ∃ (a : Addr) (ns : List Int), vs = [.ref a] ∧ SqL K H a (ns.map V.int) ∧ ns.length ≤ 63 ∧ ∀ S D H', Same H H' → H D = none → DrawAt S D H' → Q (.ref D) H'
/-- a text or a list, what it holds -/
def Row (K : PySem.W.Frag) (H : Hp) (v : V) (xs : List V) : Prop := (∃ z : Str, v = .str z ∧ xs = z.cps.toList.map fun c => .str ⟨#[c]⟩) ∨ (∃ p, v = .ref p ∧ SqL K H p xs) ∨ ∃ p, v = .ref p ∧ SqT K H p xs
def spPick (K : PySem.W.Frag) : Sp := fun vs H Q _ => ∃ (S D : Addr) (r : V) (xs : List V), vs = [.ref D, r] ∧ DrawAt S D H ∧ (∀ H', Go S D H H' → Row K H' r xs) ∧ 0 < xs.length ∧ xs.length ≤ 100000 ∧ ∀ H' x, x ∈ xs → Go S D H H' → Q x H'

theorem same_new {H : Hp} {p : Addr} {o : HO} (h : H p = none) : Same H (upd H p o) := fun b x e => by
  rw [upd_ne (ne_of_none e h)]
  exact e
/-- a change at a place that H does not know -/
theorem same_mut {H H' : Hp} {p : Addr} {o : HO} (s : Same H H') (h : H p = none) : Same H (upd H' p o) := fun b u e => by
  rw [upd_ne (ne_of_none e h)]
  exact s b u e
theorem iteNT {A B : Prop} (h : B) : if (!true) = true then A else B := iteF h
theorem line5 {n : Nat} (h : n ≤ 100000) : n ≤ sizeLine := Nat.le_trans h (by decide)
theorem line6 {n : Nat} (h : n < 100000) : n < sizeLine := Nat.lt_of_lt_of_le h (by decide)
/-! ### data as it stands in the heap -/
def KeepT (H H' : Hp) : Prop := ∀ p xs, Rd H p (.tup xs) → Rd H' p (.tup xs)
theorem KeepT.of_same {H H' : Hp} (s : Same H H') : KeepT H H' := fun p xs h => by
  rcases h with h | ⟨o, h⟩
  · exact .inl (s _ _ h)
  · exact .inr ⟨o, s _ _ h⟩
theorem KeepT.trans {H H1 H2 : Hp} (a : KeepT H H1) (b : KeepT H1 H2) : KeepT H H2 := fun p xs h => b p xs (a p xs h)
mutual
def noL : PyData → Bool
  | .list _ => false
  | .dict _ => false
  | .tuple ds => noLs ds
  | _ => true
def noLs : List PyData → Bool
  | [] => true
  | d :: ds => noL d && noLs ds
end
theorem sqt_keep {K : PySem.W.Frag} {H H' : Hp} {a : Addr} {xs : List V} (k : KeepT H H') (h : SqT K H a xs) : SqT K H' a xs := by
  rcases h with h | h
  · exact .inl (k _ _ h)
  · exact .inr h
mutual
theorem dp_keep {K : PySem.W.Frag} {H H' : Hp} (k : KeepT H H') : ∀ (d : PyData) (v : V), noL d = true → Dp K H v d → Dp K H' v d
  | .none, _, _, h => by
    cases h
    exact .non
  | .bool b, _, _, h => by
    cases h
    exact .bl b
  | .int i, _, _, h => by
    cases h
    exact .int i
  | .str x, _, _, h => by
    cases h
    exact .str x
  | .list ds, _, n, _ => by
    have n2 : false = true := n
    cases n2
  | .dict ds, _, n, _ => by
    have n2 : false = true := n
    cases n2
  | .tuple ds, _, n, h => by
    cases h with
    | tup h1 h2 => exact .tup (sqt_keep k h1) (dpA_keep k ds _ n h2)
theorem dpA_keep {K : PySem.W.Frag} {H H' : Hp} (k : KeepT H H') : ∀ (ds : List PyData) (xs : List V), noLs ds = true → DpAll K H xs ds → DpAll K H' xs ds
  | [], _, _, h => by
    cases h
    exact .nil
  | d :: ds, _, n, h => by
    cases h with
    | cons h1 h2 =>
      have n2 : (noL d && noLs ds) = true := n
      rw [Bool.and_eq_true] at n2
      exact .cons (dp_keep k d _ n2.1 h1) (dpA_keep k ds _ n2.2 h2)
end
theorem dp_tup {K : PySem.W.Frag} {H : Hp} {v : V} {ds : List PyData} (h : Dp K H v (.tuple ds)) : ∃ a xs, v = .ref a ∧ SqT K H a xs ∧ DpAll K H xs ds := by
  cases h with
  | tup h1 h2 => exact ⟨_, _, rfl, h1, h2⟩
theorem dp_str {K : PySem.W.Frag} {H : Hp} {v : V} {z : Str} (h : Dp K H v (.str z)) : v = .str z := by
  cases h
  rfl
theorem dp_int {K : PySem.W.Frag} {H : Hp} {v : V} {z : Int} (h : Dp K H v (.int z)) : v = .int z := by
  cases h
  rfl
theorem dp_non {K : PySem.W.Frag} {H : Hp} {v : V} (h : Dp K H v .none) : v = .non := by
  cases h
  rfl
theorem dpA_nil {K : PySem.W.Frag} {H : Hp} {xs : List V} (h : DpAll K H xs []) : xs = [] := by
  cases h
  rfl
theorem dpA_cons {K : PySem.W.Frag} {H : Hp} {xs : List V} {d : PyData} {ds : List PyData} (h : DpAll K H xs (d :: ds)) : ∃ x r, xs = x :: r ∧ Dp K H x d ∧ DpAll K H r ds := by
  cases h with
  | cons h1 h2 => exact ⟨_, _, rfl, h1, h2⟩
theorem dpA_len {K : PySem.W.Frag} {H : Hp} : ∀ {ds : List PyData} {xs : List V}, DpAll K H xs ds → xs.length = ds.length
  | [], _, h => by rw [dpA_nil h]; rfl
  | d :: ds, _, h => by
    obtain ⟨x, r, rfl, _, h2⟩ := dpA_cons h
    rw [List.length_cons, List.length_cons, dpA_len h2]
theorem dpA_at {K : PySem.W.Frag} {H : Hp} : ∀ {ds : List PyData} {xs : List V} {i : Nat} {x : V}, DpAll K H xs ds → xs[i]? = some x → ∃ d, ds[i]? = some d ∧ Dp K H x d
  | [], _, i, x, h, e => by
    rw [dpA_nil h] at e
    simp at e
  | d :: ds, _, 0, x, h, e => by
    obtain ⟨y, r, rfl, h1, h2⟩ := dpA_cons h
    have e2 : y = x := Option.some.inj e
    subst e2
    exact ⟨d, rfl, h1⟩
  | d :: ds, _, i + 1, x, h, e => by
    obtain ⟨y, r, rfl, h1, h2⟩ := dpA_cons h
    obtain ⟨d', h3, h4⟩ := dpA_at (i := i) (x := x) h2 (by simpa using e)
    exact ⟨d', by simpa using h3, h4⟩
theorem noLs_map {α : Type} (f : α → PyData) : ∀ l : List α, (∀ x ∈ l, noL (f x) = true) → noLs (l.map f) = true
  | [], _ => rfl
  | x :: r, h => by
    show (noL (f x) && noLs (r.map f)) = true
    rw [h x List.mem_cons_self, noLs_map f r fun y hy => h y (List.mem_cons_of_mem _ hy)]
    rfl
theorem keepT_new {H : Hp} {L : Addr} {o : HO} (h : H L = none) : KeepT H (upd H L o) := KeepT.of_same (same_new h)
theorem ixT {X : Cx} {K : PySem.W.Frag} (h : X.K = K) : IxR X (rIxT K) := h ▸ ix_tup
theorem isiT {X : Cx} {K : PySem.W.Frag} (h : X.K = K) : CallR X (.builtin "isinstance") (rIsi K) := h ▸ call_isi
theorem map_at {α : Type} {f : α → PyData} {l : List α} {i : Nat} {d : PyData} (h : (l.map f)[i]? = some d) : ∃ x, l[i]? = some x ∧ f x = d := by
  rw [List.getElem?_map] at h
  cases e : l[i]? with
  | none =>
    rw [e] at h
    cases h
  | some x =>
    rw [e] at h
    exact ⟨x, rfl, Option.some.inj h⟩
theorem dpA_snoc {K : PySem.W.Frag} {H : Hp} : ∀ {ds : List PyData} {xs : List V} {x : V} {d : PyData}, DpAll K H xs ds → Dp K H x d → DpAll K H (xs ++ [x]) (ds ++ [d])
  | [], _, _, _, h, hx => by
    rw [dpA_nil h]
    exact .cons hx .nil
  | d0 :: ds, _, _, _, h, hx => by
    obtain ⟨y, r, rfl, h1, h2⟩ := dpA_cons h
    exact .cons h1 (dpA_snoc h2 hx)
theorem sqt_ty {K : PySem.W.Frag} {H : Hp} {a : Addr} {xs : List V} (h : SqT K H a xs) : TyX K H (.ref a) (.type "tuple") := by
  rcases h with (h | ⟨o, h⟩) | ⟨o, its, n, hk, hc, _⟩
  · exact .base (.tup h)
  · exact .fTuple h
  · exact .kTuple hk hc
theorem same_l {K : PySem.W.Frag} {H H' : Hp} {a : Addr} {xs : List V} (e : Same H H') (h : SqL K H a xs) : SqL K H' a xs := e.seq h
theorem same_t {K : PySem.W.Frag} {H H' : Hp} {a : Addr} {xs : List V} (e : Same H H') (h : SqT K H a xs) : SqT K H' a xs := by
  rcases h with (h | ⟨o, h⟩) | h
  · exact .inl (.inl (e _ _ h))
  · exact .inl (.inr ⟨o, e _ _ h⟩)
  · exact .inr h
theorem Paired.at {α β : Type} {R : α → β → Prop} : ∀ {xs : List α} {ys : List β} {i : Nat} {x : α}, Paired R xs ys → xs[i]? = some x → ∃ y, ys[i]? = some y ∧ R x y
  | _, _, _, _, .nil, e => by simp at e
  | _, _, 0, _, .cons r _, e => by
    have e : _ = _ := Option.some.inj e
    subst e
    exact ⟨_, rfl, r⟩
  | _, _, i + 1, x, .cons _ t, e => by
    obtain ⟨y, h1, h2⟩ := Paired.at (i := i) (x := x) t (by simpa using e)
    exact ⟨y, by simpa using h1, h2⟩
/-! ### promises -/
def spIsInt : Sp := fun vs H Q _ => ∃ i : Int, vs = [.int i] ∧ Q (.bl true) H
def spIsInts (K : PySem.W.Frag) : Sp := fun vs H Q _ => ∃ (p : Addr) (ns : List Int), vs = [.ref p] ∧ H p = some (.tup (ns.map V.int)) ∧ ns.length ≤ 100 ∧ ∀ H', Same H H' → Q (.bl true) H'
def spLaw (K : PySem.W.Frag) : Sp := fun vs H Q _ => ∃ (a : Addr) (ns : List Int), vs = [.ref a] ∧ SqL K H a (ns.map V.int) ∧ ns.length ≤ 63 ∧ ∀ H', Q (.bl true) H'
theorem all_true {α : Type} (l : List α) : (l.map fun _ => true).all id = true := by
  rw [List.all_map]
  exact List.all_eq_true.mpr fun _ _ => rfl
def NT (o : HO) : Prop := (∀ xs, o ≠ .tup xs) ∧ ∀ ob u, o ≠ .frz ob u
theorem nt_lst (l : List V) : NT (.lst l) := ⟨fun _ e => (nomatch e), fun _ _ e => (nomatch e)⟩
theorem nt_dk (l : List (Key × V)) : NT (.dK l) := ⟨fun _ e => (nomatch e), fun _ _ e => (nomatch e)⟩
theorem DrawAt.upd {S D L : Addr} {H : Hp} {o : HO} (d : DrawAt S D H) (n1 : L ≠ D) (n2 : L ≠ S) : DrawAt S D (upd H L o) := by
  obtain ⟨cs, h1⟩ := d.cells
  obtain ⟨i, r, c, h0, h2⟩ := d.at_
  exact ⟨d.ne, ⟨cs, by rw [upd_ne n2.symm]; exact h1⟩, ⟨i, r, c, h0, by rw [upd_ne n1.symm]; exact h2⟩⟩
/-- the draws, and one thing F that may change -/
structure StF (S D F : Addr) (H : Hp) : Prop where
  dr : DrawAt S D H
  nS : F ≠ S
  fl : ∃ o, H F = some o ∧ NT o
def GoL (S D F : Addr) (H H' : Hp) : Prop := StF S D F H' ∧ ∀ b o, H b = some o → b ≠ D → b ≠ F → H' b = some o
section
variable {S D F L p : Addr} {H H1 H2 H' : Hp} {o : HO} {K : PySem.W.Frag}
theorem StF.of_draw (d : DrawAt S D H) : StF S D D H := ⟨d, d.ne.symm, let ⟨_, _, _, _, h⟩ := d.at_; ⟨_, h, nt_lst _⟩⟩
theorem StF.free (st : StF S D F H) (h : H p = none) : p ≠ D ∧ p ≠ S ∧ p ≠ F := by
  obtain ⟨o, hF, _⟩ := st.fl
  exact ⟨(st.dr.free h).1, (st.dr.free h).2, (ne_of_none hF h).symm⟩
theorem GoL.refl (st : StF S D F H) : GoL S D F H H := ⟨st, fun _ _ h _ _ => h⟩
theorem GoL.trans (a : GoL S D F H H1) (b : GoL S D F H1 H2) : GoL S D F H H2 := ⟨b.1, fun x o h n m => b.2 x o (a.2 x o h n m) n m⟩
theorem GoL.of_go (st : StF S D F H) (g : Go S D H H') : GoL S D F H H' := by
  refine ⟨⟨g.1, st.nS, ?_⟩, fun b o h n _ => g.2 b o h n⟩
  obtain ⟨o, hF, nt⟩ := st.fl
  by_cases e : F = D
  · rw [e]
    obtain ⟨_, _, _, _, h⟩ := g.1.at_
    exact ⟨_, h, nt_lst _⟩
  · exact ⟨o, g.2 F _ hF e, nt⟩
theorem GoL.to_go (g : GoL S D D H H') : Go S D H H' := ⟨g.1.dr, fun b o h n => g.2 b o h n n⟩
theorem GoL.mut (st : StF S D F H) (g : GoL S D F H H') (h : H L = none) : GoL S D F H (upd H' L o) := by
  obtain ⟨n1, n2, n3⟩ := st.free h
  obtain ⟨u, hF, nt⟩ := g.1.fl
  exact ⟨⟨g.1.dr.upd n1 n2, st.nS, ⟨u, by rw [upd_ne n3.symm]; exact hF, nt⟩⟩, fun b v hb m1 m2 => by
    rw [upd_ne (ne_of_none hb h)]
    exact g.2 b v hb m1 m2⟩
theorem GoL.new (st : StF S D F H) (h : H p = none) : GoL S D F H (upd H p o) := GoL.mut st (GoL.refl st) h
theorem GoL.setF (nD : F ≠ D) (nt : NT o) (g : GoL S D F H H') : GoL S D F H (upd H' F o) :=
  ⟨⟨g.1.dr.upd nD g.1.nS, g.1.nS, ⟨o, upd_same, nt⟩⟩, fun b v hb m1 m2 => by
    rw [upd_ne m2]
    exact g.2 b v hb m1 m2⟩
theorem GoL.back (st : StF S D F H) (g : GoL S D F H H') (h : H' p = none) : H p = none := by
  cases q : H p with
  | none => rfl
  | some u =>
    obtain ⟨n1, n2, n3⟩ := g.1.free h
    rw [g.2 p u q n1 n3] at h
    cases h
theorem nt_not {xs : List V} (nt : NT o) (h : H p = some o) (r : Rd H L (.tup xs)) : L ≠ p := fun e => by
  subst e
  rcases r with r | ⟨ob, r⟩
  · rw [h] at r
    exact nt.1 _ (Option.some.inj r)
  · rw [h] at r
    exact nt.2 _ _ (Option.some.inj r)
theorem GoL.keepT (st : StF S D F H) (g : GoL S D F H H') : KeepT H H' := fun p xs r => by
  obtain ⟨_, _, _, _, hD⟩ := st.dr.at_
  obtain ⟨o, hF, nt⟩ := st.fl
  have n1 := nt_not (nt_lst _) hD r
  have n2 := nt_not nt hF r
  rcases r with r | ⟨o, r⟩
  · exact .inl (g.2 _ _ r n1 n2)
  · exact .inr ⟨o, g.2 _ _ r n1 n2⟩
theorem Go.keepT (d : DrawAt S D H) (g : Go S D H H') : KeepT H H' := GoL.keepT (StF.of_draw d) (GoL.of_go (StF.of_draw d) g)
theorem keepT_nt {o2 : HO} (nt : NT o2) (h : H L = some o2) : KeepT H (upd H L o) := fun p xs r => by
  have n := nt_not nt h r
  rcases r with r | ⟨o, r⟩
  · exact .inl (by rw [upd_ne n]; exact r)
  · exact .inr ⟨o, by rw [upd_ne n]; exact r⟩
theorem noLs_of {α : Type} {f : α → PyData} (h : ∀ a, noL (f a) = true) (l : List α) : noLs (l.map f) = true := noLs_map f l fun a _ => h a
end
/-- a list that is being filled -/
structure BL (K : PySem.W.Frag) (S D F L : Addr) (H0 H : Hp) {α : Type} (f : α → PyData) (as : List α) : Prop where
  g : GoL S D F H0 H
  l : ∃ zs, H L = some (.lst zs) ∧ DpAll K H zs (as.map f)
section
variable {S D F L : Addr} {H0 H H1 : Hp} {K : PySem.W.Frag} {α : Type} {f : α → PyData} {as : List α}
theorem BL.nil (st : StF S D F H0) (h : H0 L = none) : BL K S D F L H0 (upd H0 L (.lst [])) f [] := ⟨GoL.new st h, [], upd_same, .nil⟩
theorem BL.go (st : StF S D F H0) (hL : H0 L = none) (hn : ∀ a, noL (f a) = true) (b : BL K S D F L H0 H f as) (g : GoL S D F H H1) : BL K S D F L H0 H1 f as := by
  obtain ⟨zs, h1, h2⟩ := b.l
  obtain ⟨n1, n2, n3⟩ := st.free hL
  exact ⟨b.g.trans g, zs, g.2 _ _ h1 n1 n3, dpA_keep (GoL.keepT b.g.1 g) _ _ (noLs_of hn as) h2⟩
theorem BL.add (st : StF S D F H0) (hL : H0 L = none) (hn : ∀ a, noL (f a) = true) {a : α} {x : V} {zs : List V} (g : GoL S D F H0 H) (h1 : H L = some (.lst zs)) (h2 : DpAll K H zs (as.map f)) (hx : Dp K H x (f a)) :
    BL K S D F L H0 (upd H L (.lst (zs ++ [x]))) f (as ++ [a]) := by
  have k := keepT_nt (o := .lst (zs ++ [x])) (nt_lst _) h1
  refine ⟨GoL.mut st g hL, zs ++ [x], upd_same, ?_⟩
  rw [List.map_append]
  exact dpA_snoc (dpA_keep k _ _ (noLs_of hn as) h2) (dp_keep k _ _ (hn a) hx)
theorem BL.len (b : BL K S D F L H0 H f as) : ∃ zs, H L = some (.lst zs) ∧ DpAll K H zs (as.map f) ∧ zs.length = as.length := by
  obtain ⟨zs, h1, h2⟩ := b.l
  exact ⟨zs, h1, h2, by have := dpA_len h2; rw [List.length_map] at this; exact this⟩
theorem GoL.drop {H' : Hp} (g : GoL S D F H H') (h : H F = none) : Go S D H H' := ⟨g.1.dr, fun b o hb n => g.2 b o hb n (ne_of_none hb h)⟩
end
theorem snoc_str (l : List Str) (z : Str) : l.map V.str ++ [V.str z] = (l ++ [z]).map V.str := by
  rw [List.map_append]
  rfl
theorem int_noL (p : Int) : noL (.int p) = true := rfl
theorem str_noL (p : Str) : noL (.str p) = true := rfl
/-! ### promises of the small draws -/
def spPop : Sp := fun vs H Q _ => ∃ (S D p : Addr) (xs : List V), vs = [.ref D, .ref p] ∧ DrawAt S D H ∧ p ≠ D ∧ H p = some (.lst xs) ∧ 0 < xs.length ∧ xs.length ≤ 1000 ∧ ∀ (H1 : Hp) (j : Nat) (x : V), Go S D H H1 → xs[j]? = some x → Q x (upd H1 p (.lst (xs.eraseIdx j)))
def spRare : Sp := fun vs H Q _ => ∃ (S D : Addr) (m : Int), vs = [.ref D, .int m] ∧ 0 < m ∧ m < 1000 ∧ DrawAt S D H ∧ ∀ H' b, Go S D H H' → Q (.bl b) H'
def spShuf (K : PySem.W.Frag) : Sp := fun vs H Q _ => ∃ (S D p : Addr) (xs : List V), vs = [.ref D, .ref p] ∧ DrawAt S D H ∧ SqL K H p xs ∧ xs.length ≤ 1000 ∧
  ∀ (H' : Hp) (q : Addr) (ys : List V), Go S D H H' → H q = none → H' q = some (.lst ys) → ys.length = xs.length → (∀ y ∈ ys, y ∈ xs) → Q (.ref q) H'
abbrev PA : Str := "a b2 sum left r k0 carry z9z full tail n m8 aa busy cnt p t4 even2 ab1 head u v2 w lowest high mid "
abbrev PB : Str := "s t e f g h i j k x y q7 deep turn gate l5 next1 o c0 d two zz1 near far9 last ring2 "
abbrev PC : Str := "aaaaaaa8 b c1 top2 net3 row col7 v"
def POOL : List Str := Txt.split (PA ++ PB ++ PC) " "
theorem pool_len : POOL.length = 60 := by decide +kernel
def spPool : Sp := fun vs H Q _ => vs = [] ∧ ∀ p, H p = none → Q (.ref p) (upd H p (.lst (POOL.map V.str)))
section
variable {P : Program} {w : World} {K : PySem.W.Frag} {mg : Str → Option Value} {base : Heap}
theorem ok__law_draw (T : Txt K mg) {f : Addr} {fd : FuncData} (F : FnP K "_law_draw" s__law_draw f fd) : FnOk P w K mg base CX0 1 f fd ["d", "many"] spDraw := by
  refine F.ok sc__law_draw (fun vs H Q E h => ?_) (fun cdv A outer s H vs Q E hr h => ?_)
  · obtain ⟨S, D, m, rfl, _⟩ := h
    rfl
  · obtain ⟨S, D, m, rfl, hm, d, q⟩ := h
    obtain ⟨cs, hS⟩ := id d.cells
    obtain ⟨i, r, c, h0, hD⟩ := id d.at_
    have hm0 : 0 < m := hm.1
    refine ⟨_, PSs.nox (pss_cons (ps_if (pt_cmpR op_gt (pe_ix ix_list (pv 0) pe_int (fun _ _ => rfl)) pe_int (nomark _)) (pss_cons (ps_set (i := 2) sc__law_draw.nd rfl (Or.inl rfl) (pe_ix ix_list (pv 0) pe_int (fun _ _ => rfl)))
      (pss_cons (ps_asg (pe_op op_fdivW (pv 2) (pv 1)) (pg_sub (pv 0) pe_int set_list))
      (pss_one (ps_ret (pe_op op_mod (pe_callTy call_int1 (by rfl) T.b_int (by decide +kernel) (pa_cons (pv 2) pa_nil)) (pv 1)))))) pss_nil)
      (pss_cons (ps_set (i := 3) sc__law_draw.nd rfl (Or.inl rfl) pe_int)
      (Evl.pss_cut (ps_if (pt_cmpR op_lt (pe_ix ix_list (pv 0) pe_int (fun _ _ => rfl)) (pe_callB call_len (by rfl) T.b_len (by decide +kernel) (pa_cons (pe_ix ix_list (pv 0) pe_int (fun _ _ => rfl)) pa_nil)) (nomark _)) (pss_cons (ps_set (i := 4) sc__law_draw.nd rfl (Or.inl rfl) (pe_ix ix_list (pe_ix ix_list (pv 0) pe_int (fun _ _ => rfl)) (pe_ix ix_list (pv 0) pe_int (fun _ _ => rfl)) (fun _ _ => rfl)))
      (pss_one (ps_set (i := 3) sc__law_draw.nd rfl (Or.inl rfl) (pe_op op_add (pe_op op_mul pe_int (pe_callB call_abs (by rfl) T.b_abs (by decide +kernel) (pa_cons (pv 4) pa_nil))) (pe_callTy call_int1 (by rfl) T.b_int (by decide +kernel) (pa_cons (pe_cmpR op_lt (pv 4) pe_int (nomark _)) pa_nil)))))) pss_nil)
      (pss_cons (ps_augS (pv 0) pe_int get_list pe_int ip_add set_list)
      (pss_cons (ps_if (pt_cmpR op_ge (pv 3) (pe_op op_mul pe_int (pe_op op_pow pe_int pe_int)) (nomark _)) (pss_cons (ps_set (i := 2) sc__law_draw.nd rfl (Or.inl rfl) (pe_op op_mod (pe_callTy call_int1 (by rfl) T.b_int (by decide +kernel) (pa_cons (pe_op op_fdivW (pv 3) pe_int) pa_nil)) (pe_op op_shl pe_int pe_int)))
      (pss_cons (ps_asg (pe_op op_fdivW (pv 2) (pv 1)) (pg_sub (pv 0) pe_int set_list))
      (pss_one (ps_ret (pe_op op_mod (pe_callTy call_int1 (by rfl) T.b_int (by decide +kernel) (pa_cons (pv 2) pa_nil)) (pv 1)))))) pss_nil)
      (pss_cons (ps_asg (pe_op op_mod (pe_callTy call_int1 (by rfl) T.b_int (by decide +kernel) (pa_cons (pe_op op_add (pe_op op_add (pe_op op_add (pe_op op_mul (pe_ix ix_list (pv 0) pe_int (fun _ _ => rfl)) pe_int) (pe_op op_mul (pe_op op_mod (pe_callTy call_int1 (by rfl) T.b_int (by decide +kernel) (pa_cons (pv 3) pa_nil)) pe_int) pe_int)) (pe_op op_mul (pe_ix ix_list (pv 0) pe_int (fun _ _ => rfl)) pe_int)) pe_int) pa_nil)) pe_int) (pg_sub (pv 0) pe_int set_list))
      (pss_one (ps_ret (pe_op op_mod (pe_callTy call_int1 (by rfl) T.b_int (by decide +kernel) (pa_cons (pe_op op_fdivW (pe_ix ix_list (pv 0) pe_int (fun _ _ => rfl)) pe_int) pa_nil)) (pv 1)))))))))), ?_⟩
    refine ⟨_, rfl, D, _, _, _, rfl, rfl, SqL.of hD, atI_nat (j := 2) rfl, _, _, rfl, rfl, _, rfl, ?_⟩
    refine ite2 (fun e => ?_) (fun e => ?_)
    · refine ⟨_, rfl, D, _, _, _, rfl, rfl, SqL.of hD, atI_nat (j := 2) rfl, ?_⟩
      refine ⟨_, rfl, _, rfl, _, _, rfl, rfl, hm, _, rfl, D, _, _, 2, rfl, rfl, hD, rfl, ?_⟩
      refine ⟨_, rfl, .inl ⟨_, rfl, _, rfl, _, _, rfl, rfl, hm0, ?_⟩⟩
      refine q _ _ (Int.emod_nonneg _ (by omega)) (Int.emod_lt_of_pos _ hm0) ⟨d.set h0, Keep.refl.set⟩
    · refine ⟨fun σ' H' => ∃ (z : Int) (x : Option V), σ' = [some (.ref D), some (.int m), none, some (.int z), x] ∧ H' = H, ?_, ?_⟩
      · refine ⟨_, rfl, D, _, _, _, rfl, rfl, SqL.of hD, atI_nat (j := 1) rfl, ?_⟩
        refine ⟨_, rfl, D, _, _, _, rfl, rfl, SqL.of hD, atI_nat (j := 0) rfl, _, _, rfl, .inl ⟨_, SqL.of hS, rfl⟩, _, _, rfl, rfl, _, rfl, ?_⟩
        refine ite2 (fun e1 => ?_) (fun e1 => ?_)
        · have e2 : i < ((cs.map V.int).length : Int) := of_decide_eq_true e1
          have e3 : i.toNat < (cs.map V.int).length := by omega
          have e4 : i.toNat < cs.length := by rw [List.length_map] at e3; exact e3
          have e5 : (cs.map V.int)[i.toNat]? = some (.int cs[i.toNat]) := by
            rw [List.getElem?_map, List.getElem?_eq_getElem e4]
            rfl
          have e6 : atI (cs.map V.int) i = some (.int cs[i.toNat]) := by
            have := atI_nat (xs := cs.map V.int) e5
            rw [show ((i.toNat : Nat) : Int) = i by omega] at this
            exact this
          refine ⟨_, rfl, D, _, _, _, rfl, rfl, SqL.of hD, atI_nat (j := 0) rfl, ?_⟩
          refine ⟨_, rfl, D, _, _, _, rfl, rfl, SqL.of hD, atI_nat (j := 1) rfl, ?_⟩
          refine ⟨S, _, _, _, rfl, rfl, SqL.of hS, e6, ?_⟩
          refine ⟨_, rfl, _, rfl, _, _, rfl, rfl, .inl ⟨by decide, by decide⟩, ?_⟩
          refine ⟨_, rfl, _, _, rfl, rfl, .inr ⟨_, rfl, _, _, rfl, rfl, ?_⟩⟩
          exact ⟨_, _, rfl, rfl⟩
        · exact ⟨_, _, rfl, rfl⟩
      · rintro σ' H' ⟨z, x, rfl, rfl⟩
        refine ⟨_, rfl, D, _, _, _, rfl, rfl, SqL.of hD, atI_nat (j := 1) rfl, ?_⟩
        refine ⟨_, _, rfl, rfl, D, _, _, 1, rfl, rfl, hD, rfl, ?_⟩
        have hD1 : (upd H' D (.lst [.ref S, .int (i + 1), .int r, .int c])) D = some (.lst [.ref S, .int (i + 1), .int r, .int c]) := upd_same
        have d1 : DrawAt S D (upd H' D (.lst [.ref S, .int (i + 1), .int r, .int c])) := d.set (by omega)
        refine ⟨_, rfl, _, _, rfl, rfl, ⟨by decide, by decide, by decide⟩, _, _, rfl, rfl, .inl ⟨by decide, by decide⟩, _, _, rfl, rfl, _, rfl, ?_⟩
        refine ite2 (fun e1 => ?_) (fun e1 => ?_)
        · refine ⟨_, rfl, _, _, rfl, rfl, ⟨by decide, by decide⟩, .inl ⟨_, rfl, _, _, rfl, rfl, ⟨by decide, by decide, by decide⟩, ?_⟩⟩
          refine ⟨_, _, rfl, rfl, ?_, ?_⟩
          · show (0 : Int) < 1 * 2 ^ (6000 : Int).toNat
            exact Int.mul_pos (by decide) (Int.pow_pos (by decide))
          · refine ⟨_, rfl, _, rfl, _, _, rfl, rfl, hm, _, rfl, D, _, _, 2, rfl, rfl, hD1, rfl, ?_⟩
            refine ⟨_, rfl, .inl ⟨_, rfl, _, rfl, _, _, rfl, rfl, hm0, ?_⟩⟩
            exact q _ _ (Int.emod_nonneg _ (by omega)) (Int.emod_lt_of_pos _ hm0) ⟨d1.set (by omega), Keep.refl.set.set⟩
        · refine ⟨_, rfl, D, _, _, _, rfl, rfl, SqL.of hD1, atI_nat (j := 3) rfl, _, _, rfl, rfl, .inr ⟨by decide, by decide⟩, ?_⟩
          refine ⟨_, rfl, .inl ⟨_, rfl, _, _, rfl, rfl, (by show (0 : Int) < 2147483629; decide), _, _, rfl, rfl, .inr ⟨by decide, by decide⟩, _, _, rfl, rfl, ?_⟩⟩
          refine ⟨_, rfl, D, _, _, _, rfl, rfl, SqL.of hD1, atI_nat (j := 1) rfl, _, _, rfl, rfl, .inr ⟨by decide, by decide⟩, _, _, rfl, rfl, _, _, rfl, rfl, .inl ⟨_, rfl, ?_⟩⟩
          refine ⟨_, _, rfl, rfl, (by show (0 : Int) < 2147483647; decide), _, rfl, D, _, _, 3, rfl, rfl, hD1, rfl, ?_⟩
          refine ⟨_, rfl, D, _, _, _, rfl, rfl, SqL.of upd_same, atI_nat (j := 3) rfl, _, _, rfl, rfl, ⟨by decide, by decide⟩, ?_⟩
          refine .inl ⟨_, rfl, _, rfl, _, _, rfl, rfl, hm0, ?_⟩
          exact q _ _ (Int.emod_nonneg _ (by omega)) (Int.emod_lt_of_pos _ hm0) ⟨d1.set (by omega), Keep.refl.set.set⟩
theorem ok__law_begin (T : Txt K mg) {f : Addr} {fd : FuncData} (F : FnP K "_law_begin" s__law_begin f fd) : FnOk P w K mg base CX0 1 f fd ["script"] (spBegin K) := by
  refine F.ok sc__law_begin (fun vs H Q E h => ?_) (fun cdv A outer s H vs Q E hr h => ?_)
  · obtain ⟨a, ns, rfl, _⟩ := h
    rfl
  · obtain ⟨a, ns, rfl, hS, hlen, q⟩ := h
    refine ⟨_, PSs.nox (pss_one (ps_ret (pe_lst (pa_cons (pe_lc (own := [("cell", 1)]) (g := (gName 1)) (tt := tYes) rfl sc__law_begin.nd (pi_list (pv 0)) (blkOk_by (N := N__law_begin) (sc := defScope s__law_begin) (by decide +kernel)) (fun _ _ _ _ _ => (pg_name (i := 1) sc__law_begin.nd rfl (Or.inl rfl))) (fun _ _ _ _ _ => pts_nil) (fun _ _ _ _ _ => (pe_callTy call_int1 (by rfl) T.b_int (by decide +kernel) (pa_cons (pv 1) pa_nil)))) (pa_cons pe_int (pa_cons pe_int (pa_cons pe_int pa_nil))))))), ?_⟩
    refine ⟨_, rfl, a, rfl, ⟨_, hS⟩, fun L hL => lc_list (xs := ns.map V.int) (fun i H' => H' = upd H L (.lst ((ns.take i).map V.int))) rfl (fun i H' _ e => ?_) ?_ ?_⟩
    · subst e
      exact (show Same H _ from fun b o h => by rw [upd_ne (ne_of_none h hL)]; exact h).seq hS
    · rintro i x H1 hi rfl
      obtain ⟨z, rfl, hz⟩ := getV hi
      refine ⟨rfl, _, rfl, .inl ⟨_, rfl, _, upd_same, ?_, ?_⟩⟩
      · rw [List.length_map, List.length_take]
        exact Nat.lt_of_le_of_lt (Nat.min_le_right _ _) (small1000 (by omega))
      · rw [upd_upd, take_map_succ (f := V.int) hz]
    · rintro H' rfl
      refine ⟨by show 4 ≤ sizeLine; decide, fun D hD => ?_⟩
      have nLD : D ≠ L := fun e => by
        rw [e, upd_same] at hD
        cases hD
      have hD0 : H D = none := by
        rw [upd_ne nLD] at hD
        exact hD
      refine q L D _ (fun b o h => ?_) hD0 ⟨fun e => nLD e.symm, ⟨ns, ?_⟩, ⟨0, 0, 7, by decide, upd_same⟩⟩
      · rw [upd_ne (ne_of_none h hD0), upd_ne (ne_of_none h hL)]
        exact h
      · rw [upd_ne (fun e => nLD e.symm), upd_same]
        rw [List.take_of_length_le (by rw [List.length_map]; exact Nat.le_refl _)]
theorem ok__law_pick (T : Txt K mg) (D__law_draw : Kept P w K mg base 1 "_law_draw" ["d", "many"] spDraw) {f : Addr} {fd : FuncData} (F : FnP K "_law_pick" s__law_pick f fd) : FnOk P w K mg base CX0 2 f fd ["d", "row"] (spPick K) := by
  refine F.ok sc__law_pick (fun vs H Q E h => ?_) (fun cdv A outer s H vs Q E hr h => ?_)
  · obtain ⟨S, D, r, xs, rfl, _⟩ := h
    rfl
  · obtain ⟨S, D, r, xs, rfl, d, hR, h0, h1, q⟩ := h
    refine ⟨_, PSs.nox (pss_one (ps_ret (pe_ix ix_seq (pv 1) (pe_d D__law_draw (hr.mono (by decide)) (by rfl) (pa_cons (pv 0) (pa_cons (pe_callB call_len (by rfl) T.b_len (by decide +kernel) (pa_cons (pv 1) pa_nil)) pa_nil))) (fun _ _ => rfl)))), ?_⟩
    refine ⟨r, rfl, _, rfl, _, rfl, r, xs.length, rfl, ?_, ?_⟩
    · rcases hR H (Go.refl d) with ⟨z, rfl, rfl⟩ | ⟨p, rfl, hp⟩ | ⟨p, rfl, hp⟩
      · refine ⟨?_, by simp [Str.length]⟩
        rw [List.length_map] at h1
        have : z.length = z.cps.toList.length := by simp [Str.length]
        rw [this]
        exact Nat.le_trans h1 (by decide)
      · exact .inl ⟨_, hp, rfl⟩
      · exact .inr ⟨_, hp, rfl⟩
    · refine ⟨S, D, _, rfl, divW_of (by omega) (by omega), d, fun H' v hv0 hv1 g => ?_⟩
      have hv : v.toNat < xs.length := by omega
      have e : ((v.toNat : Nat) : Int) = v := by omega
      have ex : xs[v.toNat]? = some xs[v.toNat] := List.getElem?_eq_getElem hv
      have ea : atI xs v = some xs[v.toNat] := by
        have := atI_nat (xs := xs) ex
        rw [e] at this
        exact this
      rcases hR H' g with ⟨z, rfl, rfl⟩ | ⟨p, rfl, hp⟩ | ⟨p, rfl, hp⟩
      · refine .inr (.inr ⟨z, v, z.cps.toList[v.toNat]'(by rw [List.length_map] at hv; exact hv), rfl, rfl, ?_, ?_, ?_⟩)
        · rw [List.length_map] at h1
          have : z.length = z.cps.toList.length := by simp [Str.length]
          rw [this]
          exact Nat.le_trans h1 (by decide)
        · have := atI_nat (xs := z.cps.toList) (List.getElem?_eq_getElem (show v.toNat < z.cps.toList.length by rw [List.length_map] at hv; exact hv))
          rw [e] at this
          exact this
        · refine q H' _ ?_ g
          exact List.mem_map_of_mem (List.getElem_mem _)
      · exact .inl ⟨p, xs, v, _, rfl, rfl, hp, ea, q H' _ (List.getElem_mem _) g⟩
      · exact .inr (.inl ⟨p, xs, v, _, rfl, rfl, hp, ea, q H' _ (List.getElem_mem _) g⟩)
theorem ok__law_pop (T : Txt K mg) (D__law_draw : Kept P w K mg base 1 "_law_draw" ["d", "many"] spDraw) {f : Addr} {fd : FuncData} (F : FnP K "_law_pop" s__law_pop f fd) : FnOk P w K mg base CX0 2 f fd ["d", "row"] spPop := by
  refine F.ok sc__law_pop (fun vs H Q E h => ?_) (fun cdv A outer s H vs Q E hr h => ?_)
  · obtain ⟨S, D, p, xs, rfl, _⟩ := h
    rfl
  · obtain ⟨S, D, p, xs, rfl, d, nD, hp, h0, h1, q⟩ := h
    refine ⟨_, PSs.nox (pss_one (ps_ret (pe_bm PySem.F.plainAttrs_list PySem.F.slot_list_pop PySem.F.type_list_pop mt_popAt (pv 1) (pa_cons (pe_d D__law_draw (hr.mono (by decide)) (by rfl) (pa_cons (pv 0) (pa_cons (pe_callB call_len (by rfl) T.b_len (by decide +kernel) (pa_cons (pv 1) pa_nil)) pa_nil))) pa_nil)))), ?_⟩
    refine ⟨_, rfl, .inl ⟨rfl, _, SqL.of hp⟩, _, rfl, _, rfl, _, _, rfl, .inl ⟨_, SqL.of hp, rfl⟩, S, D, _, rfl, divW_of (by omega) (by omega), d, fun H1 v v0 v1 g => ?_⟩
    have hv : v.toNat < xs.length := by omega
    have ex : xs[v.toNat]? = some xs[v.toNat] := List.getElem?_eq_getElem hv
    refine ⟨p, xs, v, v.toNat, _, rfl, rfl, g.2 _ _ hp nD, by omega, by omega, ?_, ex, q H1 _ _ g ex⟩
    exact seqIndex_of v0 (by omega)
theorem ok__law_rare (T : Txt K mg) (D__law_draw : Kept P w K mg base 1 "_law_draw" ["d", "many"] spDraw) {f : Addr} {fd : FuncData} (F : FnP K "_law_rare" s__law_rare f fd) : FnOk P w K mg base CX0 2 f fd ["d", "many"] spRare := by
  refine F.ok sc__law_rare (fun vs H Q E h => ?_) (fun cdv A outer s H vs Q E hr h => ?_)
  · obtain ⟨S, D, m, rfl, _⟩ := h
    rfl
  · obtain ⟨S, D, m, rfl, m0, m1, d, q⟩ := h
    refine ⟨_, PSs.nox (pss_one (ps_ret (pe_cmpR op_eq (pe_d D__law_draw (hr.mono (by decide)) (by rfl) (pa_cons (pv 0) (pa_cons (pv 1) pa_nil))) (pe_op op_fdivW (pv 1) pe_int) (nomark _)))), ?_⟩
    exact ⟨_, rfl, _, rfl, S, D, m, rfl, divW_of m0 (by omega), d, fun H1 v _ _ g => ⟨_, rfl, _, _, rfl, rfl, ⟨by decide, by decide⟩, rfl, q H1 _ g⟩⟩
theorem ok__law_pool (T : Txt K mg) {f : Addr} {fd : FuncData} (F : FnP K "_law_pool" s__law_pool f fd) : FnOk P w K mg base CX0 1 f fd [] spPool := by
  refine F.ok sc__law_pool (fun vs H Q E h => ?_) (fun cdv A outer s H vs Q E hr h => ?_)
  · obtain ⟨rfl, _⟩ := h
    rfl
  · obtain ⟨rfl, q⟩ := h
    refine ⟨_, PSs.nox (pss_cons (ps_set (i := 0) sc__law_pool.nd rfl (Or.inl rfl) pe_str)
      (pss_cons (ps_set (i := 0) sc__law_pool.nd rfl (Or.inl rfl) (pe_op op_add_str (pv 0) pe_str))
      (pss_one (ps_ret (pe_split (pe_op op_add_str (pv 0) pe_str) pe_str))))), ?_⟩
    exact ⟨_, rfl, _, _, rfl, rfl, by decide +kernel, _, rfl, _, _, rfl, rfl, by decide +kernel, ⟨_, rfl⟩, _, _, rfl, rfl, by decide +kernel, by decide +kernel, fun p hp => q p hp⟩
theorem ok__law_is_int (T : Txt K mg) {f : Addr} {fd : FuncData} (F : FnP K "_law_is_int" s__law_is_int f fd) : FnOk P w K mg base CX0 1 f fd ["thing"] spIsInt := by
  refine F.ok sc__law_is_int (fun vs H Q E h => ?_) (fun cdv A outer s H vs Q E hr h => ?_)
  · obtain ⟨p, rfl, _⟩ := h
    rfl
  · obtain ⟨i, rfl, q⟩ := h
    refine ⟨_, PSs.nox (pss_one (ps_ret (pe_and (pe_callB call_isi (by rfl) T.b_isinstance (by decide +kernel) (pa_cons (pv 0) (pa_cons (pe_bltn (v := .ty "int") (u := .type "int") (by rfl) T.b_int (by decide +kernel) rfl) pa_nil))) (pe_one (pe_not (pe_callB call_isi (by rfl) T.b_isinstance (by decide +kernel) (pa_cons (pv 0) (pa_cons (pe_bltn (v := .ty "bool") (u := .type "bool") (by rfl) T.b_bool (by decide +kernel) rfl) pa_nil)))))))), ?_⟩
    refine ⟨_, rfl, _, .ty "int", .type "int", .type "int", true, rfl, .ty _, .base (.int _), kit_ty (by decide +kernel), true, rfl, ?_⟩
    exact ⟨_, rfl, _, .ty "bool", .type "int", .type "bool", false, rfl, .ty _, .base (.int _), kit_ty (by decide +kernel), false, rfl, q⟩
end
end Mt

namespace Mt
open PySem PySem.Spec PyProof.Rows L2
theorem ixL {X : Cx} {K : PySem.W.Frag} (h : X.K = K) : IxR X (rIxL K) := h ▸ ix_list
theorem tupOfT {X : Cx} {K : PySem.W.Frag} (h : X.K = K) : CallR X (.type "tuple") (fun xs H Q => ∃ p ys, xs = [.ref p] ∧ ((SqL K H p ys ∧ ∀ l, H l = none → Q (.ref l) (upd H l (.tup ys))) ∨ (SqT K H p ys ∧ Q (.ref p) H))) := h ▸ call_tuple_of
theorem catA {X : Cx} {K : PySem.W.Frag} (h : X.K = K) : OpR X (binaryOp .Add) (rCatA K) := h ▸ op_catA
theorem srtK {X : Cx} {K : PySem.W.Frag} (h : X.K = K) (hu : X.A.units + 64 < cLine) : CallR X (.builtin "sorted") (SR.rSrt K) := h ▸ SR.cr_srt hu
theorem goU {S D L : Addr} {H0 H : Hp} {o : HO} (L0 : H0 L = none) (d0 : DrawAt S D H0) (g : Go S D H0 H) : Go S D H0 (upd H L o) := by
  obtain ⟨LD, LS⟩ := d0.free L0
  obtain ⟨cs, hc⟩ := g.1.cells
  obtain ⟨j, r, c, j0, hD⟩ := g.1.at_
  refine ⟨⟨g.1.ne, ⟨cs, ?_⟩, ⟨j, r, c, j0, ?_⟩⟩, fun b o h n => ?_⟩
  · rw [upd_ne LS.symm]
    exact hc
  · rw [upd_ne LD.symm]
    exact hD
  · rw [upd_ne (ne_of_none h L0)]
    exact g.2 b o h n
theorem catA_mono {K : PySem.W.Frag} {x y : V} {H : Hp} {Q Q' : VK} (h : rCatA K x y H Q) (m : ∀ x H, Q x H → Q' x H) : rCatA K x y H Q' := by
  obtain ⟨a, b, xs, ys, e1, e2, h1, h2, h3, q0, q1, q2⟩ := h
  exact ⟨a, b, xs, ys, e1, e2, h1, h2, h3, fun e => m _ _ (q0 e), fun e1 e2 => m _ _ (q1 e1 e2), fun e1 e2 p hp => m _ _ (q2 e1 e2 p hp)⟩
/-! ### words and chains -/
def dI (l : List Int) : PyData := .tuple (l.map .int)
def dSh (ss : List Str) : PyData := .tuple (ss.map .str)
abbrev Br : Type := List Int × List Str × Nat
def dBr (b : Br) : PyData := .tuple [dI b.1, dSh b.2.1, .int b.2.2]
def dRw (r : List Br) : PyData := .tuple (r.map dBr)
abbrev Chn : Type := List (List Br)
def dChn (base : Int) (C : Chn) : PyData := .tuple [.str "chain", .int base, .tuple (C.map dRw)]
theorem dI_noL (l : List Int) : noL (dI l) = true := noLs_map _ _ fun _ _ => rfl
theorem dSh_noL (l : List Str) : noL (dSh l) = true := noLs_map _ _ fun _ _ => rfl
theorem dBr_noL (b : Br) : noL (dBr b) = true := by
  show (noL (dI b.1) && (noL (dSh b.2.1) && (true && true))) = true
  rw [dI_noL, dSh_noL]
  rfl
theorem dRw_noL (r : List Br) : noL (dRw r) = true := noLs_map _ _ fun b _ => dBr_noL b
theorem dChn_noL (base : Int) (C : Chn) : noL (dChn base C) = true := by
  show (true && (true && (noLs (C.map dRw) && true))) = true
  rw [noLs_map _ _ fun r _ => dRw_noL r]
  rfl
theorem noLs_I (ws : List (List Int)) : noLs (ws.map dI) = true := noLs_map _ _ fun w _ => dI_noL w
section
variable {K : PySem.W.Frag} {H H' : Hp} {v : V}
theorem dp_strs : ∀ {ss : List Str} {xs : List V}, DpAll K H xs (ss.map .str) → xs = ss.map V.str
  | [], _, h => dpA_nil h
  | s :: r, _, h => by
    obtain ⟨x, t, rfl, h1, h2⟩ := dpA_cons h
    rw [dp_str h1, dp_strs h2]
    rfl
theorem strs_dp : ∀ ss : List Str, DpAll K H (ss.map V.str) (ss.map .str)
  | [] => .nil
  | s :: r => .cons (.str s) (strs_dp r)
theorem dp_ints : ∀ {ss : List Int} {xs : List V}, DpAll K H xs (ss.map .int) → xs = ss.map V.int
  | [], _, h => dpA_nil h
  | s :: r, _, h => by
    obtain ⟨x, t, rfl, h1, h2⟩ := dpA_cons h
    rw [dp_int h1, dp_ints h2]
    rfl
theorem ints_dp : ∀ ss : List Int, DpAll K H (ss.map V.int) (ss.map .int)
  | [] => .nil
  | s :: r => .cons (.int s) (ints_dp r)
theorem sh_of {p : Addr} {ss : List Str} (h : SqT K H p (ss.map V.str)) : Dp K H (.ref p) (dSh ss) := .tup h (strs_dp ss)
theorem sh_at {ss : List Str} (h : Dp K H v (dSh ss)) : ∃ p, v = .ref p ∧ SqT K H p (ss.map V.str) := by
  obtain ⟨p, xs, rfl, h1, h2⟩ := dp_tup h
  rw [dp_strs h2] at h1
  exact ⟨p, rfl, h1⟩
theorem i_of {p : Addr} {ss : List Int} (h : SqT K H p (ss.map V.int)) : Dp K H (.ref p) (dI ss) := .tup h (ints_dp ss)
theorem i_at {ss : List Int} (h : Dp K H v (dI ss)) : ∃ p, v = .ref p ∧ SqT K H p (ss.map V.int) := by
  obtain ⟨p, xs, rfl, h1, h2⟩ := dp_tup h
  rw [dp_ints h2] at h1
  exact ⟨p, rfl, h1⟩
theorem br_at {b : Br} (h : Dp K H v (dBr b)) : ∃ p x0 x1, v = .ref p ∧ SqT K H p [x0, x1, .int b.2.2] ∧ Dp K H x0 (dI b.1) ∧ Dp K H x1 (dSh b.2.1) := by
  obtain ⟨p, xs, rfl, h1, hA⟩ := dp_tup h
  obtain ⟨x0, r0, rfl, h0, hA⟩ := dpA_cons hA
  obtain ⟨x1, r1, rfl, h2, hA⟩ := dpA_cons hA
  obtain ⟨x2, r2, rfl, h3, hA⟩ := dpA_cons hA
  cases dpA_nil hA
  rw [dp_int h3] at h1
  exact ⟨p, x0, x1, rfl, h1, h0, h2⟩
theorem chn_at {base : Int} {C : Chn} (h : Dp K H v (dChn base C)) : ∃ p q xs, v = .ref p ∧ SqT K H p [.str "chain", .int base, .ref q] ∧ SqT K H q xs ∧ DpAll K H xs (C.map dRw) := by
  obtain ⟨p, xs, rfl, h1, hA⟩ := dp_tup h
  obtain ⟨x0, r0, rfl, h0, hA⟩ := dpA_cons hA
  obtain ⟨x1, r1, rfl, h2, hA⟩ := dpA_cons hA
  obtain ⟨x2, r2, rfl, h3, hA⟩ := dpA_cons hA
  cases dpA_nil hA
  rw [dp_str h0, dp_int h2] at h1
  obtain ⟨q, ys, rfl, h4, h5⟩ := dp_tup h3
  exact ⟨p, q, ys, rfl, h1, h4, h5⟩
theorem dpA_get {α : Type} {f : α → PyData} {l : List α} {xs : List V} {i : Nat} {a : α} (h : DpAll K H xs (l.map f)) (e : l[i]? = some a) : ∃ x, xs[i]? = some x ∧ Dp K H x (f a) := by
  have hl := dpA_len h
  rw [List.length_map] at hl
  have hi : i < l.length := (List.getElem?_eq_some_iff.mp e).1
  obtain ⟨x, hx⟩ : ∃ x, xs[i]? = some x := ⟨xs[i]'(by omega), List.getElem?_eq_getElem _⟩
  obtain ⟨d, h1, h2⟩ := dpA_at h hx
  rw [List.getElem?_map, e] at h1
  obtain rfl : f a = d := Option.some.inj h1
  exact ⟨x, hx, h2⟩
theorem dpA_mem {α : Type} {f : α → PyData} {l : List α} {xs : List V} {i : Nat} {x : V} (h : DpAll K H xs (l.map f)) (e : xs[i]? = some x) : ∃ a, l[i]? = some a ∧ Dp K H x (f a) := by
  obtain ⟨d, h1, h2⟩ := dpA_at h e
  obtain ⟨a, h3, rfl⟩ := map_at h1
  exact ⟨a, h3, h2⟩
theorem dpA_app : ∀ {ds es : List PyData} {xs ys : List V}, DpAll K H xs ds → DpAll K H ys es → DpAll K H (xs ++ ys) (ds ++ es)
  | [], _, _, _, h, h' => by
    rw [dpA_nil h]
    exact h'
  | d :: ds, _, _, _, h, h' => by
    obtain ⟨x, r, rfl, h1, h2⟩ := dpA_cons h
    exact .cons h1 (dpA_app h2 h')
theorem dpA_erase : ∀ {ds : List PyData} {xs : List V} (i : Nat), DpAll K H xs ds → DpAll K H (xs.eraseIdx i) (ds.eraseIdx i)
  | [], _, _, h => by
    rw [dpA_nil h]
    exact .nil
  | d :: ds, _, 0, h => by
    obtain ⟨x, r, rfl, h1, h2⟩ := dpA_cons h
    exact h2
  | d :: ds, _, i + 1, h => by
    obtain ⟨x, r, rfl, h1, h2⟩ := dpA_cons h
    exact .cons h1 (dpA_erase i h2)
end
def NP (a b : List Int) : Prop := ¬ a <+: b ∧ ¬ b <+: a
theorem NP.symm {a b : List Int} (h : NP a b) : NP b a := ⟨h.2, h.1⟩
theorem erase_perm {α : Type} : ∀ {l : List α} {i : Nat} {z : α}, l[i]? = some z → (z :: l.eraseIdx i).Perm l
  | [], i, _, h => by simp at h
  | x :: r, 0, z, h => by
    have : x = z := Option.some.inj h
    subst this
    exact .refl _
  | x :: r, i + 1, z, h => by
    have h' : r[i]? = some z := by simpa using h
    exact (List.Perm.swap x z _).trans ((erase_perm h').cons x)
theorem np_erase {l : List (List Int)} {i : Nat} {w u : List Int} (p : l.Pairwise NP) (h : l[i]? = some w) (hu : u ∈ l.eraseIdx i) : NP w u := by
  have q := ((erase_perm h).pairwise_iff fun {_ _} => NP.symm).mpr p
  exact (List.pairwise_cons.mp q).1 u hu
theorem np_snoc {u w : List Int} {x : Int} (h : NP w u) : NP u (w ++ [x]) := by
  refine ⟨fun k => ?_, fun k => h.1 ((List.prefix_append w [x]).trans k)⟩
  obtain ⟨t, ht⟩ := k
  rcases List.eq_nil_or_concat t with e | ⟨t', y, e⟩
  · subst e
    rw [List.append_nil] at ht
    rw [ht] at h
    exact h.1 (List.prefix_append w [x])
  · subst e
    rw [List.concat_eq_append, ← List.append_assoc] at ht
    have := (List.append_inj' ht rfl).1
    exact h.2 ⟨t', this⟩
/-- every tape that is long enough begins with one of them -/
structure Cmpl (base : Int) (ws : List (List Int)) : Prop where
  all : ∀ t : List Int, (∀ x ∈ t, 0 ≤ x ∧ x < base) → 3 ≤ t.length → ∃ w ∈ ws, w <+: t
  short : ∀ w ∈ ws, w.length ≤ 3
  one : ws = [[]] ∨ ∀ w ∈ ws, w ≠ []
  pf : ws.Pairwise NP
theorem Cmpl.start (base : Int) : Cmpl base [[]] := ⟨fun t _ _ => ⟨[], List.mem_singleton.mpr rfl, List.nil_prefix⟩, fun w h => by rw [List.mem_singleton.mp h]; exact Nat.zero_le _, .inl rfl, List.pairwise_singleton _ _⟩
def digits (base : Int) : List Int := (List.range base.toNat).map fun k : Nat => (0 : Int) + (k : Int)
theorem Cmpl.open {base : Int} {ws : List (List Int)} {i : Nat} {w : List Int} (c : Cmpl base ws) (hi : ws[i]? = some w) (hw : w.length < 3) : Cmpl base (ws.eraseIdx i ++ (digits base).map fun x => w ++ [x]) := by
  refine ⟨fun t ht hl => ?_, fun u hu => ?_, .inr fun u hu => ?_, ?_⟩
  · obtain ⟨u, hu, hp⟩ := c.all t ht hl
    by_cases e : u = w
    · subst e
      obtain ⟨r, rfl⟩ := hp
      cases r with
      | nil =>
        rw [List.append_nil] at hl
        omega
      | cons x r =>
        obtain ⟨h1, h2⟩ := ht x (List.mem_append.mpr (.inr List.mem_cons_self))
        refine ⟨u ++ [x], List.mem_append.mpr (.inr (List.mem_map.mpr ⟨x, List.mem_map.mpr ⟨x.toNat, List.mem_range.mpr (by omega), by omega⟩, rfl⟩)), ⟨r, by simp⟩⟩
    · refine ⟨u, List.mem_append.mpr (.inl ?_), hp⟩
      obtain ⟨j, hj⟩ := List.mem_iff_getElem?.mp hu
      have hji : j ≠ i := fun z => e (by rw [z, hi] at hj; exact (Option.some.inj hj).symm)
      rw [List.mem_eraseIdx_iff_getElem?]
      exact ⟨j, hji, hj⟩
  · rcases List.mem_append.mp hu with h | h
    · exact c.short u (List.mem_of_mem_eraseIdx h)
    · obtain ⟨x, _, rfl⟩ := List.mem_map.mp h
      rw [List.length_append, List.length_singleton]
      omega
  · rcases List.mem_append.mp hu with h | h
    · rcases c.one with e | e
      · rw [e] at h hi
        cases i with
        | zero => cases h
        | succ i => cases hi
      · exact e u (List.mem_of_mem_eraseIdx h)
    · obtain ⟨x, _, rfl⟩ := List.mem_map.mp h
      simp
  · refine List.pairwise_append.mpr ⟨c.pf.sublist (List.eraseIdx_sublist _ _), ?_, fun u hu v hv => ?_⟩
    · unfold digits
      rw [List.map_map, List.pairwise_map]
      refine (List.nodup_range (n := base.toNat)).imp fun {a b} hab => ?_
      have key : ∀ a b : Nat, a ≠ b → ¬ (w ++ [(0 : Int) + (a : Int)]) <+: (w ++ [(0 : Int) + (b : Int)]) := fun a b h k => by
        have e := k.eq_of_length (by rw [List.length_append, List.length_append]; rfl)
        have := (List.append_inj' e rfl).2
        have : (0 : Int) + (a : Int) = 0 + (b : Int) := (List.cons.inj this).1
        omega
      exact ⟨key a b hab, key b a hab.symm⟩
    · obtain ⟨x, _, rfl⟩ := List.mem_map.mp hv
      exact np_snoc (np_erase c.pf hi hu)
end Mt
namespace Mt
open PySem PySem.Spec PyProof.Rows L2
def spWords (K : PySem.W.Frag) : Sp := fun vs H Q _ => ∃ (S D : Addr) (base many : Int), vs = [.ref D, .int base, .int many] ∧ DrawAt S D H ∧ 2 ≤ base ∧ base ≤ 6 ∧ 0 ≤ many ∧ many ≤ 2 ∧
  ∀ (H' : Hp) (L : Addr) (xs : List V) (ws : List (List Int)), Go S D H H' → H L = none → H' L = some (.lst xs) → DpAll K H' xs (ws.map dI) → Cmpl base ws → 0 < ws.length → ws.length ≤ 20 → Q (.ref L) H'
def spShown (K : PySem.W.Frag) : Sp := fun vs H Q _ => ∃ (S D m : Addr) (ms : List Str), vs = [.ref D, .ref m] ∧ DrawAt S D H ∧ m ≠ D ∧ H m = some (.lst (ms.map V.str)) ∧ 0 < ms.length ∧ ms.length ≤ 100 ∧
  ∀ (H' : Hp) (p : Addr) (ss : List Str), Go S D H H' → H p = none → H' p = some (.tup (ss.map V.str)) → (∀ s ∈ ss, s ∈ ms) → ss.length ≤ 6 → Q (.ref p) H'
theorem dig_at {base : Int} {j : Nat} (h : j < base.toNat) : (digits base)[j]? = some (0 + (j : Int)) := by
  unfold digits
  rw [List.getElem?_map, List.getElem?_range h]
  rfl
theorem dig_len (base : Int) : (digits base).length = base.toNat := by
  unfold digits
  rw [List.length_map, List.length_range]
theorem alike_I (a b : List Int) : PySem.W.alike (dI a) (dI b) = true := by
  unfold dI
  simp [PySem.W.alike, PySem.W.alike_ints]
theorem dep_I (a : List Int) : (dI a).depth ≤ 1 := by
  unfold dI
  simp [PyData.depth, PySem.W.depth_ints]
theorem srt_words {base : Int} {ws : List (List Int)} (c : Cmpl base ws) : SR.SrtOk (ws.map dI) := by
  refine ⟨PySem.W.AllAlike.of alike_I, ?_, fun d hd => ?_⟩
  · rcases c.one with e | e
    · right
      rw [e]
      rfl
    · left
      left
      intro d hd
      obtain ⟨w, hw, rfl⟩ := List.mem_map.mp hd
      cases h : w with
      | nil => exact absurd h (e w hw)
      | cons x r => exact ⟨_, _, rfl⟩
  · obtain ⟨w, hw, rfl⟩ := List.mem_map.mp hd
    exact Nat.le_trans (dep_I w) (by decide)
/-- data beside the values -/
theorem zip_dp {K : PySem.W.Frag} {H : Hp} : ∀ {ds : List PyData} {xs : List V}, DpAll K H xs ds → (xs.zip ds).map (·.1) = xs ∧ (xs.zip ds).map (·.2) = ds ∧ ∀ b ∈ xs.zip ds, Dp K H b.1 b.2
  | [], _, h => by
    rw [dpA_nil h]
    exact ⟨rfl, rfl, fun _ h => absurd h List.not_mem_nil⟩
  | d :: ds, _, h => by
    obtain ⟨x, r, rfl, h1, h2⟩ := dpA_cons h
    obtain ⟨a, b, c⟩ := zip_dp h2
    refine ⟨by rw [List.zip_cons_cons, List.map_cons, a], by rw [List.zip_cons_cons, List.map_cons, b], fun y hy => ?_⟩
    rw [List.zip_cons_cons] at hy
    rcases List.mem_cons.mp hy with rfl | hy
    · exact h1
    · exact c y hy
theorem dpA_of {K : PySem.W.Frag} {H : Hp} : ∀ {bs : List (V × PyData)}, (∀ b ∈ bs, Dp K H b.1 b.2) → DpAll K H (bs.map (·.1)) (bs.map (·.2))
  | [], _ => .nil
  | b :: r, h => .cons (h b List.mem_cons_self) (dpA_of fun x hx => h x (List.mem_cons_of_mem _ hx))
theorem perm_back {α β : Type} {f : α → β} {l : List α} {l2 : List β} (h : l2.Perm (l.map f)) : ∃ l' : List α, l'.Perm l ∧ l2 = l'.map f := by
  generalize hm : l.map f = m at h
  induction h generalizing l with
  | nil =>
    cases l with
    | nil => exact ⟨[], .nil, rfl⟩
    | cons x r => cases hm
  | @cons x l1 l2 p ih =>
    cases l with
    | nil => cases hm
    | cons y r =>
      obtain ⟨e1, e2⟩ := List.cons.inj hm
      obtain ⟨l', h1, h2⟩ := ih e2
      exact ⟨y :: l', h1.cons y, by rw [List.map_cons, e1, h2]⟩
  | @swap x y l1 =>
    match l, hm with
    | a :: b :: r, hm =>
      obtain ⟨e1, e2⟩ := List.cons.inj hm
      obtain ⟨e3, e4⟩ := List.cons.inj e2
      exact ⟨b :: a :: r, .swap a b r, by rw [List.map_cons, List.map_cons, e1, e3, e4]⟩
  | @trans l1 l2 l3 p1 p2 ih1 ih2 =>
    obtain ⟨l', h1, h2⟩ := ih2 hm
    obtain ⟨l'', h3, h4⟩ := ih1 h2.symm
    exact ⟨l'', h3.trans h1, h4⟩
theorem Cmpl.perm {base : Int} {ws ws' : List (List Int)} (c : Cmpl base ws) (p : ws'.Perm ws) : Cmpl base ws' := by
  refine ⟨fun t h1 h2 => ?_, fun w hw => c.short w (p.mem_iff.mp hw), ?_, (p.pairwise_iff fun {_ _} => NP.symm).mpr c.pf⟩
  · obtain ⟨w, hw, h⟩ := c.all t h1 h2
    exact ⟨w, p.mem_iff.mpr hw, h⟩
  · rcases c.one with e | e
    · left
      rw [e] at p
      exact List.perm_singleton.mp p
    · exact .inr fun w hw => e w (p.mem_iff.mp hw)
section
variable {P : Program} {w : World} {K : PySem.W.Frag} {mg : Str → Option Value} {base : Heap}
theorem ok__law_words (T : Txt K mg) (D__law_draw : Kept P w K mg base 1 "_law_draw" ["d", "many"] spDraw) {f : Addr} {fd : FuncData} (F : FnP K "_law_words" s__law_words f fd) : FnOk P w K mg base CX0 2 f fd ["d", "base", "many"] (spWords K) := by
  refine F.ok sc__law_words (fun vs H Q E h => ?_) (fun cdv A outer s H vs Q E hr h => ?_)
  · obtain ⟨S, D, b, many, rfl, _⟩ := h
    rfl
  · obtain ⟨S, D, b, many, rfl, d, b2, b6, m0, m2, q⟩ := h
    refine ⟨_, PSs.nox (pss_cons (ps_set (i := 3) sc__law_words.nd rfl (Or.inl rfl) (pe_lst (pa_cons (pe_tup pa_nil) pa_nil)))
      (pss_cons (ps_for PassesOwn.never rfl (pi_range1 (by rfl) T.b_range (pa_cons (pv 2) pa_nil)) (pg_name (i := 4) sc__law_words.nd rfl (Or.inl rfl)) (pss_cons (ps_set (i := 5) sc__law_words.nd rfl (Or.inl rfl) (pe_d D__law_draw (hr.mono (by decide)) (by rfl) (pa_cons (pv 0) (pa_cons (pe_callB call_len (by rfl) T.b_len (by decide +kernel) (pa_cons (pv 3) pa_nil)) pa_nil))))
      (pss_one (ps_if (pt_cmpR op_lt (pe_callB call_len (by rfl) T.b_len (by decide +kernel) (pa_cons (pe_ix ix_list (pv 3) (pv 5) (fun _ _ => rfl)) pa_nil)) pe_int (nomark _)) (pss_cons (ps_set (i := 6) sc__law_words.nd rfl (Or.inr rfl) (pe_bm PySem.F.plainAttrs_list PySem.F.slot_list_pop PySem.F.type_list_pop mt_popAt (pv 3) (pa_cons (pv 5) pa_nil)))
      (pss_one (ps_set (i := 3) sc__law_words.nd rfl (Or.inl rfl) (pe_op op_cat (pv 3) (pe_lc (own := [("digit", 7)]) (g := (gName 7)) (tt := tYes) rfl sc__law_words.nd (pi_range1 (by rfl) T.b_range (pa_cons (pv 1) pa_nil)) (blkOk_by (N := N__law_words) (sc := defScope s__law_words) (by decide +kernel)) (fun _ _ _ _ _ => (pg_name (i := 7) sc__law_words.nd rfl (Or.inl rfl))) (fun _ _ _ _ _ => pts_nil) (fun _ _ _ _ _ => (pe_op (catA (K := K) rfl) (pv 6) (pe_tup (pa_cons (pv 7) pa_nil))))))))) pss_nil))))
      (pss_one (ps_ret (pe_callB (srtK (K := K) rfl hr.units) (by rfl) T.b_sorted (by decide +kernel) (pa_cons (pv 3) pa_nil)))))), ?_⟩
    refine ⟨Nat.zero_le _, fun p0 hp0 => ⟨by show 1 ≤ sizeLine; decide, fun L0 hL0 => ?_⟩⟩
    have g1 := Go.new (o := .tup []) d hp0
    have g2 := g1.trans (Go.new (o := .lst [.ref p0]) g1.1 hL0)
    have L00 := g1.free d hL0
    have hp2 : (upd (upd H p0 (.tup [])) L0 (.lst [.ref p0])) p0 = some (.tup []) := same_new hL0 _ _ upd_same
    refine ⟨_, rfl, _, rfl, by omega, by omega, for_range (lo := 0) (n := many.toNat) (fun i σ H' => ∃ (y4 y5 y6 y7 : Option V) (Lw : Addr) (xs : List V) (ws : List (List Int)), σ = [some (.ref D), some (.int b), some (.int many), some (.ref Lw), y4, y5, y6, y7] ∧ Go S D H H' ∧ H Lw = none ∧ H' Lw = some (.lst xs) ∧ DpAll K H' xs (ws.map dI) ∧ Cmpl b ws ∧ 0 < ws.length ∧ ws.length ≤ 1 + 6 * i) ⟨_, _, _, _, L0, _, [[]], rfl, g2, L00, upd_same, .cons (i_of (ss := []) (SqT.of hp2)) .nil, Cmpl.start b, by decide, by decide⟩ ?_ ?_⟩
    · rintro i σ H1 hi ⟨y4, y5, y6, y7, Lw, xs, ws, rfl, g, hL0, hL, hA, hc, l0, l1⟩
      have LD := (d.free hL0).1
      have xl := dpA_len hA
      rw [List.length_map] at xl
      refine ⟨_, rfl, _, rfl, _, _, rfl, .inl ⟨_, SqL.of hL, rfl⟩, S, D, _, rfl, divW_of (by omega) (by omega), g.1, fun H2 v v0 v1 g2 => ?_⟩
      have hv : v.toNat < xs.length := by omega
      have ex : xs[v.toNat]? = some xs[v.toNat] := List.getElem?_eq_getElem hv
      have hL2 := g2.2 _ _ hL LD
      have hA2 := dpA_keep (Go.keepT g.1 g2) _ _ (noLs_I ws) hA
      obtain ⟨wd, hw, hx⟩ := dpA_mem hA2 ex
      obtain ⟨pw, hpw, hpT⟩ := i_at hx
      have ea : atI xs v = some (.ref pw) := by
        have := atI_nat (xs := xs) ex
        rw [hpw, show ((v.toNat : Nat) : Int) = v by omega] at this
        exact this
      refine ⟨_, rfl, _, rfl, Lw, xs, v, _, rfl, rfl, SqL.of hL2, ea, _, _, rfl, .inr ⟨_, hpT, rfl⟩, ?_⟩
      refine ⟨_, _, rfl, rfl, _, rfl, ?_⟩
      refine ite2 (fun e3 => ?_) (fun _ => ⟨_, _, _, _, Lw, xs, ws, rfl, g.trans g2, hL0, hL2, hA2, hc, l0, by omega⟩)
      have hw3 : wd.length < 3 := by
        have := of_decide_eq_true e3
        rw [List.length_map] at this
        omega
      refine ⟨_, rfl, .inl ⟨rfl, _, SqL.of hL2⟩, _, rfl, Lw, xs, v, v.toNat, _, rfl, rfl, hL2, by omega, by omega, seqIndex_of v0 (by omega), ex, ?_⟩
      rw [hpw]
      have kL := keepT_nt (o := .lst (xs.eraseIdx v.toNat)) (nt_lst _) hL2
      have g3 : Go S D H (upd H2 Lw (.lst (xs.eraseIdx v.toNat))) := goU hL0 d (g.trans g2)
      have hL3 := upd_same (H := H2) (a := Lw) (o := .lst (xs.eraseIdx v.toNat))
      have hA3 := dpA_keep kL _ _ (noLs_I ws) hA2
      have hp3 := sqt_keep kL hpT
      generalize upd H2 Lw (.lst (xs.eraseIdx v.toNat)) = H3 at g3 hL3 hA3 hp3
      refine ⟨_, rfl, _, rfl, _, rfl, by omega, by omega, fun Lc hLc => lc_range (lo := 0) (n := b.toNat) (fun j H' => Same H3 H' ∧ ∃ zs, H' Lc = some (.lst zs) ∧ DpAll K H' zs ((((digits b).take j).map fun x => wd ++ [x]).map dI)) ⟨same_new hLc, [], upd_same, .nil⟩ ?_ ?_⟩
      · rintro j H4 hj ⟨s4, zs, hz, hzA⟩
        refine ⟨rfl, _, rfl, _, rfl, by show 1 ≤ sizeLine; decide, fun p1 hp1 => ?_⟩
        have s5 := s4.trans (same_new (o := .tup [V.int (0 + (j : Int))]) hp1)
        have h15 := upd_same (H := H4) (a := p1) (o := .tup [V.int (0 + (j : Int))])
        have hz5 := same_new (o := .tup [V.int (0 + (j : Int))]) hp1 _ _ hz
        have hzA5 := dpA_keep (keepT_new (o := .tup [V.int (0 + (j : Int))]) hp1) _ _ (noLs_I _) hzA
        generalize upd H4 p1 (.tup [V.int (0 + (j : Int))]) = H5 at s5 h15 hz5 hzA5
        have hdj := dig_at (base := b) hj
        have zl := dpA_len hzA5
        rw [List.length_map, List.length_map, List.length_take] at zl
        have fin : ∀ (H6 : Hp) (p : Addr), Same H5 H6 → SqT K H6 p ((wd ++ [0 + (j : Int)]).map V.int) → ∃ acc, H6 Lc = some (.lst acc) ∧ acc.length < sizeLine ∧ Same H3 (upd H6 Lc (.lst (acc ++ [.ref p]))) ∧ ∃ zs, upd H6 Lc (.lst (acc ++ [.ref p])) Lc = some (.lst zs) ∧ DpAll K (upd H6 Lc (.lst (acc ++ [.ref p]))) zs ((((digits b).take (j + 1)).map fun x => wd ++ [x]).map dI) := fun H6 p s6 hp => by
          have hz6 := s6 _ _ hz5
          have kc := keepT_nt (o := .lst (zs ++ [.ref p])) (nt_lst _) hz6
          refine ⟨zs, hz6, line6 (by omega), same_mut (s5.trans s6) hLc, zs ++ [.ref p], upd_same, ?_⟩
          rw [List.take_add_one, hdj, List.map_append, List.map_append]
          exact dpA_snoc (dpA_keep kc _ _ (noLs_I _) (dpA_keep (KeepT.of_same s6) _ _ (noLs_I _) hzA5)) (dp_keep kc _ _ (dI_noL _) (i_of hp))
        have hpw5 := sqt_keep (KeepT.of_same s5) hp3
        refine ⟨pw, p1, _, _, rfl, rfl, hpw5, SqT.of h15, by rw [List.length_map]; exact line5 (by show _ + 1 ≤ _; omega), fun e => ?_, fun _ e => (by cases e), fun _ _ p hp => ?_⟩
        · have : wd = [] := List.map_eq_nil_iff.mp e
          subst this
          exact fin H5 p1 (Same.refl _) (SqT.of h15)
        · exact fin _ p (same_new hp) (SqT.of (by rw [upd_same, List.map_append]; rfl))
      · rintro H4 ⟨s4, zs, hz, hzA⟩
        rw [List.take_of_length_le (by rw [dig_len]; exact Nat.le_refl _)] at hzA
        have zl := dpA_len hzA
        rw [List.length_map, List.length_map, dig_len] at zl
        have hA4 := dpA_keep (KeepT.of_same s4) _ _ (noLs_I ws) hA3
        have hE := dpA_erase v.toNat hA4
        refine ⟨Lw, Lc, _, zs, rfl, rfl, s4 _ _ hL3, hz, by rw [List.length_eraseIdx_of_lt hv]; exact line5 (by omega), fun Ln hLn => ?_⟩
        have s5 := same_new (o := .lst (xs.eraseIdx v.toNat ++ zs)) hLn
        have k5 := KeepT.of_same s5
        have hLnH : H Ln = none := by
          have g4 := g3.trans (Go.same g3.1 s4)
          exact g4.free d hLn
        have ee : (ws.map dI).eraseIdx v.toNat = (ws.eraseIdx v.toNat).map dI := by
          simp [List.eraseIdx_eq_take_drop_succ]
        rw [ee] at hE
        have wl : (ws.eraseIdx v.toNat).length + 1 = ws.length := by
          rw [List.length_eraseIdx_of_lt (by omega)]
          omega
        refine ⟨_, _, _, _, Ln, _, ws.eraseIdx v.toNat ++ (digits b).map fun x => wd ++ [x], rfl, g3.trans (Go.same g3.1 (s4.trans s5)), hLnH, upd_same, ?_, hc.open hw hw3, ?_, ?_⟩
        · rw [List.map_append]
          exact dpA_app (dpA_keep k5 _ _ (noLs_I _) hE) (dpA_keep k5 _ _ (noLs_I _) hzA)
        · rw [List.length_append, List.length_map, dig_len]
          omega
        · rw [List.length_append, List.length_map, dig_len]
          omega
    · rintro σ H1 ⟨y4, y5, y6, y7, Lw, xs, ws, rfl, g, hL0, hL, hA, hc, l0, l1⟩
      obtain ⟨z1, z2, z3⟩ := zip_dp hA
      refine ⟨_, rfl, Lw, xs.zip (ws.map dI), rfl, SqL.of (by rw [z1]; exact hL), z3, by rw [z2]; exact srt_words hc, fun ys p hy hp => ?_⟩
      have hperm : (ys.map (·.2)).Perm (ws.map dI) := by
        have := hy.map (fun b : V × PyData => b.2)
        rw [z2] at this
        exact this
      obtain ⟨ws', w1, w2⟩ := perm_back hperm
      have gp := Go.new (o := .lst (ys.map (·.1))) g.1 hp
      have hA' := dpA_of (bs := ys) fun b hb => z3 b (hy.mem_iff.mp hb)
      rw [w2] at hA'
      exact q _ p _ ws' (g.trans gp) (g.free d hp) upd_same (dpA_keep (Go.keepT g.1 gp) _ _ (noLs_I ws') hA') (hc.perm w1) (by rw [w1.length_eq]; exact l0) (by rw [w1.length_eq]; omega)
end
end Mt
namespace Mt
open PySem PySem.Spec PyProof.Rows L2
structure RwOk (base : Int) (n : Nat) (r : List Br) : Prop where
  ne : 0 < r.length
  few : r.length ≤ 20
  to : ∀ b ∈ r, b.2.2 < n ∧ b.2.1.length ≤ 6
  cm : Cmpl base (r.map (·.1))
structure ChnOk (base : Int) (C : Chn) : Prop where
  b2 : 2 ≤ base
  b6 : base ≤ 6
  pos : 0 < C.length
  few : C.length ≤ 50
  row : ∀ r ∈ C, RwOk base C.length r
def spWChain (K : PySem.W.Frag) : Sp := fun vs H Q _ => ∃ (S D m : Addr) (base n : Int) (ms : List Str), vs = [.ref D, .int base, .int n, .ref m] ∧ DrawAt S D H ∧ m ≠ D ∧ H m = some (.lst (ms.map V.str)) ∧ 0 < ms.length ∧ ms.length ≤ 100 ∧ 2 ≤ base ∧ base ≤ 6 ∧ 1 ≤ n ∧ n ≤ 50 ∧
  ∀ (H' : Hp) (v : V) (C : Chn), Go S D H H' → Dp K H' v (dChn base C) → ChnOk base C → C.length = n.toNat → Q v H'
def spRChain (K : PySem.W.Frag) : Sp := fun vs H Q _ => ∃ (S D m : Addr) (n : Int) (ms : List Str), vs = [.ref D, .ref m, .int n] ∧ DrawAt S D H ∧ m ≠ D ∧ H m = some (.lst (ms.map V.str)) ∧ 0 < ms.length ∧ ms.length ≤ 100 ∧ 1 ≤ n ∧ n ≤ 50 ∧
  ∀ (H' : Hp) (v : V) (base : Int) (C : Chn), Go S D H H' → Dp K H' v (dChn base C) → ChnOk base C → Q v H'
theorem noLs_br (r : List Br) : noLs (r.map dBr) = true := noLs_map _ _ fun b _ => dBr_noL b
theorem noLs_rw (C : Chn) : noLs (C.map dRw) = true := noLs_map _ _ fun r _ => dRw_noL r
section
variable {P : Program} {w : World} {K : PySem.W.Frag} {mg : Str → Option Value} {base : Heap}
theorem ok__law_wide_shown (T : Txt K mg) (D__law_pick : Kept P w K mg base 2 "_law_pick" ["d", "row"] (spPick K)) {f : Addr} {fd : FuncData} (F : FnP K "_law_wide_shown" s__law_wide_shown f fd) : FnOk P w K mg base CX0 3 f fd ["d", "marks"] (spShown K) := by
  refine F.ok sc__law_wide_shown (fun vs H Q E h => ?_) (fun cdv A outer s H vs Q E hr h => ?_)
  · obtain ⟨S, D, m, ms, rfl, _⟩ := h
    rfl
  · obtain ⟨S, D, m, ms, rfl, d, nD, hm, h0, h1, q⟩ := h
    refine ⟨_, PSs.nox (pss_one (ps_ret (pe_callTy (tupOfT (K := K) rfl) (by rfl) T.b_tuple (by decide +kernel) (pa_cons (pe_lc (own := [("k", 2)]) (g := (gName 2)) (tt := tYes) rfl sc__law_wide_shown.nd (pi_range1 (by rfl) T.b_range (pa_cons (pe_d D__law_pick (hr.mono (by decide)) (by rfl) (pa_cons (pv 0) (pa_cons (pe_lst (pa_cons pe_int (pa_cons pe_int (pa_cons pe_int (pa_cons pe_int (pa_cons pe_int (pa_cons pe_int (pa_cons pe_int (pa_cons pe_int (pa_cons pe_int pa_nil)))))))))) pa_nil))) pa_nil)) (blkOk_by (N := N__law_wide_shown) (sc := defScope s__law_wide_shown) (by decide +kernel)) (fun _ _ _ _ _ => (pg_name (i := 2) sc__law_wide_shown.nd rfl (Or.inl rfl))) (fun _ _ _ _ _ => pts_nil) (fun _ _ _ _ _ => (pe_d D__law_pick (hr.mono (by decide)) (by rfl) (pa_cons (pv 0) (pa_cons (pv 1) pa_nil))))) pa_nil)))), ?_⟩
    refine ⟨_, rfl, by show 9 ≤ sizeLine; decide, fun L hL => ?_⟩
    have d1 := d.new (o := .lst [V.int 0, .int 0, .int 1, .int 1, .int 1, .int 2, .int 2, .int 3, .int 6]) hL
    have LD := (d.free hL).1
    have g1 : Go S D H (upd H L (.lst [V.int 0, .int 0, .int 1, .int 1, .int 1, .int 2, .int 2, .int 3, .int 6])) := Go.new d hL
    refine ⟨S, D, .ref L, [V.int 0, .int 0, .int 1, .int 1, .int 1, .int 2, .int 2, .int 3, .int 6], rfl, d1, fun H' g => .inr (.inl ⟨L, rfl, SqL.of (g.2 _ _ upd_same LD)⟩), by decide, by decide, fun H2 x hx g2 => ?_⟩
    obtain ⟨n, rfl, hn⟩ : ∃ n : Nat, x = .int (n : Int) ∧ n ≤ 6 := by
      simp only [List.mem_cons, List.not_mem_nil, or_false] at hx
      rcases hx with e | e | e | e | e | e | e | e | e
      · exact ⟨0, e, by decide⟩
      · exact ⟨0, e, by decide⟩
      · exact ⟨1, e, by decide⟩
      · exact ⟨1, e, by decide⟩
      · exact ⟨1, e, by decide⟩
      · exact ⟨2, e, by decide⟩
      · exact ⟨2, e, by decide⟩
      · exact ⟨3, e, by decide⟩
      · exact ⟨6, e, by decide⟩
    have g3 := g1.trans g2
    refine ⟨_, rfl, by omega, by omega, fun Lc hLc => lc_range (lo := 0) (n := n) (fun j H' => ∃ ss : List Str, Go S D H2 H' ∧ H' Lc = some (.lst (ss.map V.str)) ∧ ss.length = j ∧ ∀ s ∈ ss, s ∈ ms) ⟨[], Go.new g3.1 hLc, upd_same, rfl, fun _ h => absurd h List.not_mem_nil⟩ ?_ ?_⟩
    · rintro j H4 hj ⟨ss, g4, hL4, hl, hs⟩
      have LcD := (g3.1.free hLc).1
      refine ⟨rfl, _, rfl, _, rfl, S, D, .ref m, ms.map V.str, rfl, g4.1, fun H' g' => .inr (.inl ⟨m, rfl, SqL.of (((g3.trans g4).trans g').2 _ _ hm nD)⟩), by rw [List.length_map]; exact h0, by rw [List.length_map]; omega, fun H5 x hx g5 => ?_⟩
      obtain ⟨z, hz, rfl⟩ := List.mem_map.mp hx
      refine ⟨_, g5.2 _ _ hL4 LcD, by rw [List.length_map]; exact line6 (by omega), ss ++ [z], goU hLc g3.1 (g4.trans g5), by rw [upd_same, List.map_append]; rfl, by rw [List.length_append, List.length_singleton, hl], fun s h => ?_⟩
      rcases List.mem_append.mp h with h | h
      · exact hs s h
      · rw [List.mem_singleton.mp h]
        exact hz
    · rintro H4 ⟨ss, g4, hL4, hl, hs⟩
      refine ⟨Lc, _, rfl, .inl ⟨SqL.of hL4, fun p hp => ?_⟩⟩
      have g5 := g3.trans g4
      exact q _ p ss (g5.trans (Go.new g5.1 hp)) (g5.free d hp) upd_same hs (by omega)
theorem ok__law_wide_chain (T : Txt K mg) (D__law_draw : Kept P w K mg base 1 "_law_draw" ["d", "many"] spDraw) (D__law_words : Kept P w K mg base 2 "_law_words" ["d", "base", "many"] (spWords K)) (D__law_wide_shown : Kept P w K mg base 3 "_law_wide_shown" ["d", "marks"] (spShown K)) {f : Addr} {fd : FuncData} (F : FnP K "_law_wide_chain" s__law_wide_chain f fd) : FnOk P w K mg base CX0 4 f fd ["d", "base", "states", "marks"] (spWChain K) := by
  refine F.ok sc__law_wide_chain (fun vs H Q E h => ?_) (fun cdv A outer s H vs Q E hr h => ?_)
  · obtain ⟨S, D, m, b, n, ms, rfl, _⟩ := h
    rfl
  · obtain ⟨S, D, m, b, n, ms, rfl, d, nD, hm, h0, h1, b2, b6, n1, n2, q⟩ := h
    refine ⟨_, PSs.nox (pss_cons (ps_set (i := 4) sc__law_wide_chain.nd rfl (Or.inl rfl) (pe_lst pa_nil))
      (pss_cons (ps_for PassesOwn.never rfl (pi_range1 (by rfl) T.b_range (pa_cons (pv 2) pa_nil)) (pg_name (i := 5) sc__law_wide_chain.nd rfl (Or.inl rfl)) (pss_cons (ps_set (i := 6) sc__law_wide_chain.nd rfl (Or.inl rfl) (pe_lst pa_nil))
      (pss_cons (ps_for PassesOwn.never rfl (pi_list (pe_d D__law_words (hr.mono (by decide)) (by rfl) (pa_cons (pv 0) (pa_cons (pv 1) (pa_cons (pe_d D__law_draw (hr.mono (by decide)) (by rfl) (pa_cons (pv 0) (pa_cons pe_int pa_nil))) pa_nil))))) (pg_name (i := 7) sc__law_wide_chain.nd rfl (Or.inl rfl)) (pss_one (ps_expr (pe_bm PySem.F.plainAttrs_list PySem.F.slot_list_append PySem.F.type_list_append mt_append (pv 6) (pa_cons (pe_tup (pa_cons (pv 7) (pa_cons (pe_d D__law_wide_shown (hr.mono (by decide)) (by rfl) (pa_cons (pv 0) (pa_cons (pv 3) pa_nil))) (pa_cons (pe_d D__law_draw (hr.mono (by decide)) (by rfl) (pa_cons (pv 0) (pa_cons (pv 2) pa_nil))) pa_nil)))) pa_nil)))))
      (pss_one (ps_expr (pe_bm PySem.F.plainAttrs_list PySem.F.slot_list_append PySem.F.type_list_append mt_append (pv 4) (pa_cons (pe_callTy (tupOfT (K := K) rfl) (by rfl) T.b_tuple (by decide +kernel) (pa_cons (pv 6) pa_nil)) pa_nil)))))))
      (pss_one (ps_ret (pe_tup (pa_cons pe_str (pa_cons (pv 1) (pa_cons (pe_callTy (tupOfT (K := K) rfl) (by rfl) T.b_tuple (by decide +kernel) (pa_cons (pv 4) pa_nil)) pa_nil)))))))), ?_⟩
    refine ⟨Nat.zero_le _, fun L hL => ?_⟩
    have g1 := Go.new (o := .lst []) d hL
    have LD := (d.free hL).1
    refine ⟨_, rfl, _, rfl, by omega, by omega, for_range (lo := 0) (n := n.toNat) (fun i σ H' => ∃ (y5 y6 y7 : Option V) (zs : List V) (C : Chn), σ = [some (.ref D), some (.int b), some (.int n), some (.ref m), some (.ref L), y5, y6, y7] ∧ Go S D H H' ∧ H' L = some (.lst zs) ∧ DpAll K H' zs (C.map dRw) ∧ C.length = i ∧ ∀ r ∈ C, RwOk b n.toNat r) ⟨_, _, _, [], [], rfl, g1, upd_same, .nil, rfl, fun _ h => absurd h List.not_mem_nil⟩ ?_ ?_⟩
    · rintro i σ H1 hi ⟨y5, y6, y7, zs, C, rfl, g, hL1, hzs, hC, hCr⟩
      have zl := dpA_len hzs
      rw [List.length_map] at zl
      refine ⟨Nat.zero_le _, fun f hf => ?_⟩
      have gf := Go.new (o := .lst []) g.1 hf
      have fD := (g.1.free hf).1
      have fL : f ≠ L := (ne_of_none hL1 hf).symm
      have hf2 := upd_same (H := H1) (a := f) (o := .lst [])
      generalize upd H1 f (.lst []) = H2 at gf hf2
      refine ⟨_, rfl, _, rfl, _, rfl, S, D, 3, rfl, divW_of (by decide) (by decide), gf.1, fun H3 mm m0 m1 g3 => ⟨S, D, b, mm, rfl, g3.1, b2, b6, m0, by omega, fun H4 Lw xs ws g4 hLw0 hLw hA hc w0 w1 => ?_⟩⟩
      have g34 := gf.trans (g3.trans g4)
      have LwD := (g3.1.free hLw0).1
      have hf4 := (g3.trans g4).2 _ _ hf2 fD
      have LwF : Lw ≠ f := fun e => by
        rw [e, g3.2 _ _ hf2 fD] at hLw0
        cases hLw0
      have xl := dpA_len hA
      rw [List.length_map] at xl
      refine ⟨Lw, rfl, ⟨_, SqL.of hLw⟩, for_list (K := K) (a := Lw) (xs := xs) (fun j σ H' => ∃ (y7 : Option V) (qs : List V) (r : List Br), σ = [some (.ref D), some (.int b), some (.int n), some (.ref m), some (.ref L), some (.int (0 + (i : Int))), some (.ref f), y7] ∧ Go S D H1 H' ∧ H' Lw = some (.lst xs) ∧ DpAll K H' xs (ws.map dI) ∧ H' f = some (.lst qs) ∧ DpAll K H' qs (r.map dBr) ∧ r.map (·.1) = ws.take j ∧ ∀ b ∈ r, b.2.2 < n.toNat ∧ b.2.1.length ≤ 6) ⟨_, [], [], rfl, g34, hLw, hA, hf4, .nil, rfl, fun _ h => absurd h List.not_mem_nil⟩ (fun i σ H' _ ⟨_, _, _, _, _, h, _⟩ => SqL.of h) ?_ ?_⟩
      · rintro j x σ H5 hj ⟨y7, qs, r, rfl, g5, hLw5, hA5, hf5, hr5, er, hrr⟩
        obtain ⟨wd, hw, hx⟩ := dpA_mem hA5 hj
        have jl := (List.getElem?_eq_some_iff.mp hj).1
        refine ⟨_, rfl, .inl ⟨rfl, _, SqL.of hf5⟩, _, rfl, _, rfl, _, rfl, S, D, m, ms, rfl, g5.1, nD, (g.trans g5).2 _ _ hm nD, h0, h1, fun H6 p ss g6 hp0 hp hss hsl => ?_⟩
        have pD := (g5.1.free hp0).1
        refine ⟨_, rfl, _, rfl, S, D, n, rfl, divW_of (by omega) (by omega), g6.1, fun H7 t t0 t1 g7 => ⟨by show 3 ≤ sizeLine; decide, fun pb hpb => ?_⟩⟩
        have g67 := g6.trans g7
        have gb := g67.trans (Go.new (o := .tup [x, .ref p, .int t]) g7.1 hpb)
        have hpb8 := upd_same (H := H7) (a := pb) (o := .tup [x, .ref p, .int t])
        have hp8 := same_new (o := .tup [x, .ref p, .int t]) hpb _ _ (g7.2 _ _ hp pD)
        generalize upd H7 pb (.tup [x, .ref p, .int t]) = H8 at gb hpb8 hp8
        have k8 := Go.keepT g5.1 gb
        have hf8 := gb.2 _ _ hf5 fD
        have kf := keepT_nt (o := .lst (qs ++ [.ref pb])) (nt_lst _) hf8
        have ql := dpA_len hr5
        rw [List.length_map] at ql
        have rl : r.length = j := by
          have := congrArg List.length er
          rw [List.length_map, List.length_take] at this
          omega
        have dB : Dp K H8 (.ref pb) (dBr (wd, ss, t.toNat)) := by
          have e1 : PyData.int ((t.toNat : Nat) : Int) = .int t := by rw [Int.toNat_of_nonneg t0]
          show Dp K H8 (.ref pb) (.tuple [dI wd, dSh ss, .int ((t.toNat : Nat) : Int)])
          rw [e1]
          exact .tup (SqT.of hpb8) (.cons (dp_keep k8 _ _ (dI_noL wd) hx) (.cons (sh_of (SqT.of hp8)) (.cons (.int _) .nil)))
        refine ⟨f, qs, _, rfl, rfl, hf8, line6 (by omega), _, qs ++ [.ref pb], r ++ [(wd, ss, t.toNat)], rfl, goU hf g.1 (g5.trans gb), ?_, dpA_keep kf _ _ (noLs_I ws) (dpA_keep k8 _ _ (noLs_I ws) hA5), upd_same, ?_, ?_, fun y hy => ?_⟩
        · rw [upd_ne LwF]
          exact gb.2 _ _ hLw5 LwD
        · rw [List.map_append]
          exact dpA_snoc (dpA_keep kf _ _ (noLs_br r) (dpA_keep k8 _ _ (noLs_br r) hr5)) (dp_keep kf _ _ (dBr_noL _) dB)
        · rw [List.map_append, er, List.take_add_one, hw]
          rfl
        · rcases List.mem_append.mp hy with h | h
          · exact hrr y h
          · rw [List.mem_singleton.mp h]
            exact ⟨by show t.toNat < n.toNat; omega, hsl⟩
      · rintro σ H5 ⟨y7, qs, r, rfl, g5, hLw5, hA5, hf5, hr5, er, hrr⟩
        rw [xl, List.take_length] at er
        have rl : r.length = ws.length := by
          rw [← er, List.length_map]
        have gg := g.trans g5
        have hL5 := g5.2 _ _ hL1 LD
        refine ⟨_, rfl, .inl ⟨rfl, _, SqL.of hL5⟩, _, rfl, f, qs, rfl, .inl ⟨SqL.of hf5, fun pr hpr => ?_⟩⟩
        have gp := Go.new (o := .tup qs) g5.1 hpr
        have kp := Go.keepT g5.1 gp
        have hpr6 := upd_same (H := H5) (a := pr) (o := .tup qs)
        have hL6 := gp.2 _ _ hL5 LD
        generalize upd H5 pr (.tup qs) = H6 at gp kp hpr6 hL6
        have kL := keepT_nt (o := .lst (zs ++ [.ref pr])) (nt_lst _) hL6
        refine ⟨L, zs, _, rfl, rfl, hL6, line6 (by omega), _, _, _, zs ++ [.ref pr], C ++ [r], rfl, goU hL d (gg.trans gp), upd_same, ?_, by rw [List.length_append, hC]; rfl, fun x hx => ?_⟩
        · rw [List.map_append]
          exact dpA_snoc (dpA_keep kL _ _ (noLs_rw C) (dpA_keep (Go.keepT g.1 (g5.trans gp)) _ _ (noLs_rw C) hzs)) (dp_keep kL _ _ (dRw_noL _) (.tup (SqT.of hpr6) (dpA_keep kp _ _ (noLs_br r) hr5)))
        · rcases List.mem_append.mp hx with h | h
          · exact hCr x h
          · rw [List.mem_singleton.mp h]
            exact ⟨by omega, by omega, hrr, by rw [er]; exact hc⟩
    · rintro σ H1 ⟨y5, y6, y7, zs, C, rfl, g, hL1, hzs, hC, hCr⟩
      refine ⟨_, rfl, _, rfl, L, zs, rfl, .inl ⟨SqL.of hL1, fun pq hpq => ⟨by show 3 ≤ sizeLine; decide, fun pw hpw => ?_⟩⟩⟩
      have gq := Go.new (o := .tup zs) g.1 hpq
      have gw := gq.trans (Go.new (o := .tup [.str "chain", .int b, .ref pq]) gq.1 hpw)
      have hpq2 := same_new (o := .tup [.str "chain", .int b, .ref pq]) hpw _ _ (upd_same (H := H1) (a := pq) (o := .tup zs))
      refine q _ _ C (g.trans gw) (.tup (SqT.of upd_same) (.cons (.str _) (.cons (.int _) (.cons (.tup (SqT.of hpq2) (dpA_keep (Go.keepT g.1 gw) _ _ (noLs_rw C) hzs)) .nil)))) ⟨b2, b6, by omega, by omega, fun r hr => ?_⟩ hC
      rw [hC]
      exact hCr r hr
end
end Mt
namespace Mt
open PySem PySem.Spec PyProof.Rows L2
theorem getElem?_lt {α : Type} {l : List α} {i : Nat} (h : i < l.length) : l[i]? = some (l[i]'h) := List.getElem?_eq_getElem h
mutual
theorem dp_same {K : PySem.W.Frag} {H H' : Hp} (s : Same H H') : ∀ (d : PyData) (v : V), Dp K H v d → Dp K H' v d
  | .none, _, h => by
    cases h
    exact .non
  | .bool b, _, h => by
    cases h
    exact .bl b
  | .int i, _, h => by
    cases h
    exact .int i
  | .str x, _, h => by
    cases h
    exact .str x
  | .list ds, _, h => by
    cases h with
    | lst h1 h2 => exact .lst (same_l s h1) (dpA_same s ds _ h2)
  | .dict ds, n, h => by
    cases h
  | .tuple ds, _, h => by
    cases h with
    | tup h1 h2 => exact .tup (same_t s h1) (dpA_same s ds _ h2)
theorem dpA_same {K : PySem.W.Frag} {H H' : Hp} (s : Same H H') : ∀ (ds : List PyData) (xs : List V), DpAll K H xs ds → DpAll K H' xs ds
  | [], _, h => by
    cases h
    exact .nil
  | d :: ds, _, h => by
    cases h with
    | cons h1 h2 => exact .cons (dp_same s d _ h1) (dpA_same s ds _ h2)
end
theorem dp_lst {K : PySem.W.Frag} {H : Hp} {v : V} {ds : List PyData} (h : Dp K H v (.list ds)) : ∃ a xs, v = .ref a ∧ SqL K H a xs ∧ DpAll K H xs ds := by
  cases h with
  | lst h1 h2 => exact ⟨_, _, rfl, h1, h2⟩
theorem piTK {X : Cx} {K : PySem.W.Frag} {e tg : Expr} {te : TE} (h : X.K = K) (he : PE X e te) : PI X tg e (iTup K te) := h ▸ pi_tup he
theorem same_upd {H H' : Hp} {L : Addr} {o : HO} (s : Same H H') : Same (upd H L o) (upd H' L o) := fun b u e => by
  by_cases k : b = L
  · subst k
    rw [upd_same] at e ⊢
    exact e
  · rw [upd_ne k] at e ⊢
    exact s b u e
theorem upd_self {H : Hp} {p : Addr} {o : HO} (h : H p = some o) : upd H p o = H := by
  funext x
  by_cases k : x = p
  · subst k
    rw [upd_same, h]
  · rw [upd_ne k]
/-- a list of lists that is being filled: what it holds stands whatever stands at its own place -/
structure FL (K : PySem.W.Frag) (L : Addr) (H : Hp) (ds : List PyData) : Prop where
  d : ∃ zs, H L = some (.lst zs) ∧ zs.length = ds.length ∧ ∀ o, DpAll K (upd H L o) zs ds
theorem FL.nil {K : PySem.W.Frag} {L : Addr} {H : Hp} (h : H L = none) : FL K L (upd H L (.lst [])) [] := ⟨[], upd_same, rfl, fun _ => .nil⟩
theorem FL.dp {K : PySem.W.Frag} {L : Addr} {H : Hp} {ds : List PyData} (f : FL K L H ds) : Dp K H (.ref L) (.list ds) := by
  obtain ⟨zs, h1, _, h2⟩ := f.d
  have := h2 (.lst zs)
  rw [upd_self h1] at this
  exact .lst (SqL.of h1) this
theorem FL.same {K : PySem.W.Frag} {L : Addr} {H H' : Hp} {ds : List PyData} (f : FL K L H ds) (s : Same H H') : FL K L H' ds := by
  obtain ⟨zs, h1, h3, h2⟩ := f.d
  exact ⟨zs, s _ _ h1, h3, fun o => dpA_same (same_upd s) _ _ (h2 o)⟩
theorem FL.add {K : PySem.W.Frag} {L : Addr} {H : Hp} {ds : List PyData} {zs : List V} {v : V} {d : PyData} (f : FL K L H ds) (h : H L = some (.lst zs)) (hd : ∀ o, Dp K (upd H L o) v d) : FL K L (upd H L (.lst (zs ++ [v]))) (ds ++ [d]) := by
  obtain ⟨zs', h1, h3, h2⟩ := f.d
  rw [h] at h1
  cases h1
  refine ⟨_, upd_same, by rw [List.length_append, List.length_append, h3]; rfl, fun o => ?_⟩
  rw [upd_upd]
  exact dpA_snoc (h2 o) (hd o)
theorem piLK {X : Cx} {K : PySem.W.Frag} {e tg : Expr} {te : TE} (h : X.K = K) (he : PE X e te) : PI X tg e (iList K te) := h ▸ pi_list he
theorem dI_canAll : ∀ l : List Int, PyData.canLayAll0 (l.map PyData.int) = true
  | [] => rfl
  | x :: r => by
    show (PyData.canLay0 (.int x) && PyData.canLayAll0 (r.map PyData.int)) = true
    rw [dI_canAll r]
    rfl
theorem dI_dep : ∀ l : List Int, PyData.depthAll (l.map PyData.int) = 0
  | [] => rfl
  | x :: r => by
    show max (PyData.depth (.int x)) (PyData.depthAll (r.map PyData.int)) = 0
    rw [dI_dep r]
    rfl
theorem dI_lay (l : List Int) : PyData.canLay0 (dI l) = true := dI_canAll l
theorem dI_sh (l : List Int) : SeqAt.shaped (dI l) = true := by
  unfold SeqAt.shaped
  rw [Bool.and_eq_true]
  refine ⟨dI_lay l, decide_eq_true ?_⟩
  show PyData.depthAll (l.map PyData.int) + 1 ≤ 64
  rw [dI_dep]
  decide
theorem eqv_ints : ∀ a b : List Int, PyData.eqvAll (a.map PyData.int) (b.map PyData.int) = decide (a = b)
  | [], [] => rfl
  | [], _ :: _ => rfl
  | _ :: _, [] => rfl
  | x :: a, y :: b => by
    show (PyData.eqv (.int x) (.int y) && PyData.eqvAll (a.map PyData.int) (b.map PyData.int)) = decide (x :: a = y :: b)
    rw [eqv_ints a b]
    show (decide (x = y) && decide (a = b)) = _
    by_cases h1 : x = y <;> by_cases h2 : a = b <;> simp [h1, h2]
theorem eqv_I (a b : List Int) : PyData.eqv (dI a) (dI b) = decide (a = b) := eqv_ints a b
theorem take_snoc {α : Type} {l : List α} {i : Nat} {x : α} (h : l[i]? = some x) : l.take (i + 1) = l.take i ++ [x] := by
  rw [List.take_add_one, h]
  rfl
theorem cut_any {l : List Int} {k m : Nat} (h : k ≤ l.length) : cutV (l.map V.int) (some (k : Int)) (some ((k : Int) + (m : Int))) = ((l.drop k).take m).map V.int := by
  unfold cutV
  rw [HT.sIx_nat, ← Int.natCast_add, HT.sIx_nat, List.length_map, Nat.min_eq_left h, ← List.map_drop, ← List.map_take]
  congr 1
  by_cases e : k + m ≤ l.length
  · rw [Nat.min_eq_left e, Nat.add_sub_cancel_left]
  · rw [Nat.min_eq_right (by omega), List.take_of_length_le (by rw [List.length_drop]; exact Nat.le_refl _), List.take_of_length_le (by rw [List.length_drop]; omega)]
def rowOf (C : Chn) (s : Nat) : List Br := (C[s]?).getD []
theorem rowOf_at {C : Chn} {s : Nat} (h : s < C.length) : C[s]? = some (rowOf C s) := by
  unfold rowOf
  rw [List.getElem?_eq_getElem h]
  rfl
theorem eqDK {X : Cx} {K : PySem.W.Frag} (h : X.K = K) (hu : X.A.units + 64 < cLine) : OpR X (compareOp .Eq) (rEqD K) := h ▸ op_eqD hu
theorem ninK {X : Cx} {K : PySem.W.Frag} (h : X.K = K) : OpR X (compareOp .NotIn) (rIn K true) := h ▸ op_notIn_seq
theorem inK {X : Cx} {K : PySem.W.Frag} (h : X.K = K) : OpR X (compareOp .In) (rIn K false) := h ▸ op_in_seq
end Mt
namespace Mt
open PySem PySem.Spec PyProof.Rows L2
def spShufP (K : PySem.W.Frag) : Sp := fun vs H Q _ => ∃ (S D p : Addr) (xs : List V), vs = [.ref D, .ref p] ∧ DrawAt S D H ∧ SqL K H p xs ∧ xs.length ≤ 1000 ∧
  ∀ (H' : Hp) (q : Addr) (ys : List V), Go S D H H' → H q = none → H' q = some (.lst ys) → ys.Perm xs → Q (.ref q) H'
section
variable {P : Program} {w : World} {K : PySem.W.Frag} {mg : Str → Option Value} {base : Heap}
end
end Mt
namespace Mt
open PySem PySem.Spec PyProof.Rows L2
theorem inV_str (z : Str) (ss : List Str) : inV (.str z) (ss.map V.str) = decide (z ∈ ss) := by
  unfold inV
  rw [List.any_map, Bool.eq_iff_iff, List.any_eq_true, decide_eq_true_iff]
  constructor
  · rintro ⟨s, hs, h⟩
    have h : (s == z) = true := h
    rw [← eq_of_beq h]
    exact hs
  · intro h
    exact ⟨z, h, (beq_self_eq_true z : (z == z) = true)⟩
theorem flat_strs (ss : List Str) : (ss.map V.str).all flatV = true := by
  rw [List.all_map]
  exact List.all_eq_true.mpr fun _ _ => rfl
def vN (k : Nat) : V := .int (k : Int)
theorem inV_nat (z : Nat) (ss : List Nat) : inV (.int (z : Int)) (ss.map vN) = decide (z ∈ ss) := by
  unfold inV
  rw [List.any_map, Bool.eq_iff_iff, List.any_eq_true, decide_eq_true_iff]
  constructor
  · rintro ⟨s, hs, h⟩
    have h : (((s : Nat) : Int) == ((z : Nat) : Int)) = true := h
    have := eq_of_beq h
    have e : s = z := by omega
    rw [← e]
    exact hs
  · intro h
    exact ⟨z, h, (beq_self_eq_true (z : Int) : ((z : Int) == (z : Int)) = true)⟩
theorem flat_nats (ss : List Nat) : (ss.map vN).all flatV = true := by
  rw [List.all_map]
  exact List.all_eq_true.mpr fun _ _ => rfl
/-! ### watches -/
structure Wt where
  rows : List (List (Str × Nat) × Nat)
  bad : List Nat
def dPr (p : Str × Nat) : PyData := .tuple [.str p.1, .int (p.2 : Int)]
def dFb (t : Nat) : PyData := .tuple [.none, .int (t : Int)]
def dWr (r : List (Str × Nat) × Nat) : PyData := .tuple (r.1.map dPr ++ [dFb r.2])
def dNs (l : List Nat) : PyData := .tuple (l.map fun k : Nat => .int (k : Int))
def dWt (W : Wt) : PyData := .tuple [.str "watch", .tuple (W.rows.map dWr), dNs W.bad]
structure WtOk (W : Wt) : Prop where
  pos : 0 < W.rows.length
  few : W.rows.length ≤ 20
  fewB : W.bad.length ≤ 20
  badlt : ∀ k ∈ W.bad, k < W.rows.length
  row : ∀ r ∈ W.rows, r.1.length ≤ 20 ∧ r.2 < W.rows.length ∧ ∀ p ∈ r.1, p.2 < W.rows.length
def wRow (W : Wt) (p : Nat) : List (Str × Nat) × Nat := (W.rows[p]?).getD ([], 0)
theorem wRow_at {W : Wt} {p : Nat} (h : p < W.rows.length) : W.rows[p]? = some (wRow W p) := by
  unfold wRow
  rw [List.getElem?_eq_getElem h]
  rfl
def hit (sh : List Str) (q : Str × Nat) : Bool := decide (q.1 ∈ sh)
def wTo (r : List (Str × Nat) × Nat) (sh : List Str) : Nat := match r.1.find? (hit sh) with
  | some q => q.2
  | none => r.2
def wStep (W : Wt) (p : Nat) (sh : List Str) : Nat := wTo (wRow W p) sh
theorem wStep_lt {W : Wt} (ok : WtOk W) {p : Nat} (h : p < W.rows.length) (sh : List Str) : wStep W p sh < W.rows.length := by
  obtain ⟨_, h2, h3⟩ := ok.row _ (List.mem_of_getElem? (wRow_at h))
  unfold wStep wTo
  cases e : (wRow W p).1.find? (hit sh) with
  | none => exact h2
  | some q => exact h3 q (List.mem_of_find?_eq_some e)
theorem wTo_hit {r : List (Str × Nat) × Nat} {sh : List Str} {i : Nat} {q : Str × Nat} (h : r.1[i]? = some q) (hq : hit sh q = true) (no : ∀ x ∈ r.1.take i, ¬ hit sh x = true) : wTo r sh = q.2 := by
  have il := (List.getElem?_eq_some_iff.mp h).1
  have e : r.1.find? (hit sh) = some q := by
    rw [← List.take_append_drop i r.1, List.find?_append, List.find?_eq_none.mpr no, List.drop_eq_getElem_cons il, List.find?_cons_of_pos (by rw [List.getElem?_eq_getElem il] at h; rw [Option.some.inj h]; exact hq)]
    rw [List.getElem?_eq_getElem il] at h
    rw [Option.some.inj h]
    rfl
  unfold wTo
  rw [e]
theorem wTo_none {r : List (Str × Nat) × Nat} {sh : List Str} (no : ∀ x ∈ r.1, ¬ hit sh x = true) : wTo r sh = r.2 := by
  unfold wTo
  rw [List.find?_eq_none.mpr no]
theorem dPr_noL (p : Str × Nat) : noL (dPr p) = true := rfl
theorem dWr_noL (r : List (Str × Nat) × Nat) : noL (dWr r) = true := by
  show noLs (r.1.map dPr ++ [dFb r.2]) = true
  have : ∀ l : List (Str × Nat), noLs (l.map dPr ++ [dFb r.2]) = true := fun l => by
    induction l with
    | nil => rfl
    | cons a t ih =>
      show (noL (dPr a) && noLs (t.map dPr ++ [dFb r.2])) = true
      rw [ih]
      rfl
  exact this r.1
theorem dNs_noL (l : List Nat) : noL (dNs l) = true := noLs_map _ _ fun _ _ => rfl
theorem dWt_noL (W : Wt) : noL (dWt W) = true := by
  show (true && (noLs (W.rows.map dWr) && (noL (dNs W.bad) && true))) = true
  rw [noLs_map _ _ fun r _ => dWr_noL r, dNs_noL]
  rfl
theorem dp_nats {K : PySem.W.Frag} {H : Hp} : ∀ {l : List Nat} {xs : List V}, DpAll K H xs (l.map fun t : Nat => .int (t : Int)) → xs = l.map vN
  | [], _, h => dpA_nil h
  | s :: r, _, h => by
    obtain ⟨x, t, rfl, h1, h2⟩ := dpA_cons h
    rw [dp_int h1, dp_nats h2]
    rfl
theorem nats_dp {K : PySem.W.Frag} {H : Hp} : ∀ l : List Nat, DpAll K H (l.map vN) (l.map fun k : Nat => .int (k : Int))
  | [] => .nil
  | s :: r => .cons (.int _) (nats_dp r)
theorem wt_at {K : PySem.W.Frag} {H : Hp} {v : V} {W : Wt} (h : Dp K H v (dWt W)) : ∃ p q b xs, v = .ref p ∧ SqT K H p [.str "watch", .ref q, .ref b] ∧ SqT K H q xs ∧ DpAll K H xs (W.rows.map dWr) ∧ SqT K H b (W.bad.map vN) := by
  obtain ⟨p, us, rfl, h1, hA⟩ := dp_tup h
  obtain ⟨x0, r0, rfl, h0, hA⟩ := dpA_cons hA
  obtain ⟨x1, r1, rfl, h2, hA⟩ := dpA_cons hA
  obtain ⟨x2, r2, rfl, h3, hA⟩ := dpA_cons hA
  cases dpA_nil hA
  obtain rfl := dp_str h0
  obtain ⟨q, xs, rfl, h4, h5⟩ := dp_tup h2
  obtain ⟨b, ys, rfl, h6, h7⟩ := dp_tup h3
  obtain rfl := dp_nats h7
  exact ⟨p, q, b, xs, rfl, h1, h4, h5, h6⟩
theorem pr_at {K : PySem.W.Frag} {H : Hp} {v : V} {q : Str × Nat} (h : Dp K H v (dPr q)) : ∃ p, v = .ref p ∧ SqT K H p [.str q.1, vN q.2] := by
  obtain ⟨p, us, rfl, h1, hA⟩ := dp_tup h
  obtain ⟨x0, r0, rfl, h0, hA⟩ := dpA_cons hA
  obtain ⟨x1, r1, rfl, h2, hA⟩ := dpA_cons hA
  cases dpA_nil hA
  obtain rfl := dp_str h0
  obtain rfl := dp_int h2
  exact ⟨p, rfl, h1⟩
theorem fb_at {K : PySem.W.Frag} {H : Hp} {v : V} {t : Nat} (h : Dp K H v (dFb t)) : ∃ p, v = .ref p ∧ SqT K H p [.non, vN t] := by
  obtain ⟨p, us, rfl, h1, hA⟩ := dp_tup h
  obtain ⟨x0, r0, rfl, h0, hA⟩ := dpA_cons hA
  obtain ⟨x1, r1, rfl, h2, hA⟩ := dpA_cons hA
  cases dpA_nil hA
  obtain rfl := dp_non h0
  obtain rfl := dp_int h2
  exact ⟨p, rfl, h1⟩
/-- a row: its pairs, and the last one -/
theorem wr_at {K : PySem.W.Frag} {H : Hp} {v : V} {r : List (Str × Nat) × Nat} (h : Dp K H v (dWr r)) : ∃ p xs y, v = .ref p ∧ SqT K H p (xs ++ [y]) ∧ DpAll K H xs (r.1.map dPr) ∧ Dp K H y (dFb r.2) := by
  obtain ⟨p, us, rfl, h1, hA⟩ := dp_tup h
  have split : ∀ (l : List (Str × Nat)) (us : List V), DpAll K H us (l.map dPr ++ [dFb r.2]) → ∃ xs y, us = xs ++ [y] ∧ DpAll K H xs (l.map dPr) ∧ Dp K H y (dFb r.2) := fun l => by
    induction l with
    | nil =>
      intro us h
      obtain ⟨y, t, rfl, hy, ht⟩ := dpA_cons h
      cases dpA_nil ht
      exact ⟨[], y, rfl, .nil, hy⟩
    | cons a t ih =>
      intro us h
      obtain ⟨x, u, rfl, hx, hu⟩ := dpA_cons h
      obtain ⟨xs, y, rfl, h1, h2⟩ := ih u hu
      exact ⟨x :: xs, y, rfl, .cons hx h1, h2⟩
  obtain ⟨xs, y, rfl, h2, h3⟩ := split r.1 us hA
  exact ⟨p, xs, y, rfl, h1, h2, h3⟩
theorem cut_last {xs : List V} {y : V} : cutV (xs ++ [y]) none (some (-1)) = xs := by
  unfold cutV
  rw [HT.sIx_none]
  have : HT.sIx (xs ++ [y]).length (xs ++ [y]).length (some (-1)) = xs.length := by
    show (if (-1 : Int) < 0 then ((-1 : Int) + ((xs ++ [y]).length : Int)).toNat else min (-1 : Int).toNat (xs ++ [y]).length) = xs.length
    rw [if_pos (by decide), List.length_append, List.length_singleton]
    omega
  rw [this, List.drop_zero, Nat.sub_zero, List.take_left]
theorem atI_m1 {xs : List V} {x : V} (h : xs.getLast? = some x) : atI xs (-1) = some x := by
  cases xs with
  | nil => cases h
  | cons a r =>
    unfold atI ixN
    rw [if_neg (by decide), if_pos (by rw [List.length_cons]; omega)]
    show (a :: r)[(-1 + ((a :: r).length : Int)).toNat]? = some x
    rw [show (-1 + ((a :: r).length : Int)).toNat = (a :: r).length - 1 by rw [List.length_cons]; omega, ← List.getLast?_eq_getElem?]
    exact h
def spPlace (K : PySem.W.Frag) : Sp := fun vs H Q _ => ∃ (vw v : V) (p : Nat) (W : Wt) (sh : List Str), vs = [vw, .int (p : Int), v] ∧ Dp K H vw (dWt W) ∧ WtOk W ∧ p < W.rows.length ∧ Dp K H v (dSh sh) ∧ ∀ H', Same H H' → Q (.int (wStep W p sh : Nat)) H'
section
variable {P : Program} {w : World} {K : PySem.W.Frag} {mg : Str → Option Value} {base : Heap}
theorem ok_place_behind (T : Txt K mg) {f : Addr} {fd : FuncData} (F : FnP K "place_behind" s_place_behind f fd) : FnOk P w K mg base CX0 1 f fd ["watch", "place", "shown"] (spPlace K) := by
  refine F.ok sc_place_behind (fun vs H Q E h => ?_) (fun cdv A outer s H vs Q E hr h => ?_)
  · obtain ⟨vw, v, p, W, sh, rfl, _⟩ := h
    rfl
  · obtain ⟨vw, v, p, W, sh, rfl, hW, ok, hp, hv, q⟩ := h
    refine ⟨_, PSs.nox (pss_cons (ps_set (i := 3) sc_place_behind.nd rfl (Or.inl rfl) (pe_ix ix_tup (pe_ix ix_tup (pv 0) pe_int (fun _ _ => rfl)) (pv 1) (fun _ _ => rfl)))
      (pss_cons (ps_for PassesOwn.never rfl (pi_tup (pe_slice sl_tupA (pv 3) po_none (po_some (pe_un un_neg pe_int)))) (pg_tup rfl (pgs_cons (pg_name (i := 4) sc_place_behind.nd rfl (Or.inl rfl)) (pgs_cons (pg_name (i := 5) sc_place_behind.nd rfl (Or.inl rfl)) pgs_nil))) (pss_one (ps_if (pt_cmpR op_in_seq (pv 4) (pv 2) (by rfl)) (pss_one (ps_ret (pv 5))) pss_nil)))
      (pss_one (ps_ret (pe_ix ix_tup (pe_ix ix_tup (pv 3) (pe_un un_neg pe_int) (fun _ _ => rfl)) pe_int (fun _ _ => rfl)))))), ?_⟩
    obtain ⟨pw, pq, pb, us, rfl, hpw, hpq, hA, hpb⟩ := wt_at hW
    obtain ⟨x, hx, hd⟩ := dpA_get hA (wRow_at hp)
    obtain ⟨fewr, _, _⟩ := ok.row _ (List.mem_of_getElem? (wRow_at hp))
    obtain ⟨pr, xs, y, rfl, hpr, hxs, hy⟩ := wr_at hd
    obtain ⟨py, rfl, hpy⟩ := fb_at hy
    obtain ⟨ps, rfl, hps⟩ := sh_at hv
    have xl := dpA_len hxs
    rw [List.length_map] at xl
    refine ⟨_, rfl, pw, _, _, _, rfl, rfl, hpw, atI_nat (j := 1) rfl, _, rfl, pq, _, _, _, rfl, rfl, hpq, atI_nat hx, ?_⟩
    have dec : ∀ (q : Str × Nat), (decide (q.1 ∈ sh) = true) = (hit sh q = true) := fun q => rfl
    refine ⟨_, rfl, _, rfl, _, rfl, pr, _, rfl, hpr, fun e => ?_, fun _ pn hpn => ?_⟩
    · exfalso
      have : HT.sIx (xs ++ [V.ref py]).length (xs ++ [V.ref py]).length (some (-1)) = xs.length := by
        show (if (-1 : Int) < 0 then ((-1 : Int) + ((xs ++ [V.ref py]).length : Int)).toNat else min (-1 : Int).toNat (xs ++ [V.ref py]).length) = xs.length
        rw [if_pos (by decide), List.length_append, List.length_singleton]
        omega
      have e2 := e.2
      rw [this, List.length_append, List.length_singleton] at e2
      omega
    · rw [cut_last]
      have s1 := same_new (o := .tup xs) hpn
      have hpn1 := upd_same (H := H) (a := pn) (o := .tup xs)
      generalize upd H pn (.tup xs) = H1 at s1 hpn1
      refine ⟨pn, rfl, ⟨_, SqT.of hpn1⟩, for_tup (K := K) (a := pn) (xs := xs) (fun i σ H' => ∃ (y4 y5 : Option V), σ = [some (.ref pw), some (.int (p : Int)), some (.ref ps), some (.ref pr), y4, y5] ∧ H' = H1 ∧ ∀ x ∈ (wRow W p).1.take i, ¬ hit sh x = true) ⟨_, _, rfl, rfl, fun x h => absurd h List.not_mem_nil⟩ (fun i σ H' _ ⟨_, _, _, e, _⟩ => by rw [e]; exact SqT.of hpn1) ?_ ?_⟩
      · rintro i z σ H2 hi ⟨y4, y5, rfl, rfl, no⟩
        obtain ⟨q0, hq0, hz⟩ := dpA_mem (dpA_same s1 _ _ hxs) hi
        obtain ⟨pz, rfl, hpz⟩ := pr_at hz
        refine ⟨pz, _, rfl, hpz, rfl, _, _, rfl, _, _, rfl, rfl, ?_⟩
        refine ⟨_, rfl, _, rfl, ps, _, rfl, .inr (same_t s1 hps), rfl, flat_strs _, ?_⟩
        rw [inV_str]
        refine ⟨_, rfl, ite2 (fun h => ?_) (fun h => ?_)⟩
        · have e := wTo_hit hq0 h no
          refine ⟨_, rfl, ?_⟩
          have := q _ s1
          unfold wStep at this
          rw [e] at this
          exact this
        · refine ⟨_, _, rfl, rfl, fun x hx => ?_⟩
          rw [take_snoc hq0] at hx
          rcases List.mem_append.mp hx with hx | hx
          · exact no x hx
          · rw [List.mem_singleton.mp hx]
            exact h
      · rintro σ H2 ⟨y4, y5, rfl, rfl, no⟩
        rw [xl, List.take_length] at no
        have e := wTo_none no
        refine ⟨_, rfl, _, rfl, pr, _, _, _, rfl, rfl, same_t s1 hpr, atI_m1 (x := V.ref py) (by rw [List.getLast?_append]; rfl), py, _, _, _, rfl, rfl, same_t s1 hpy, atI_nat (j := 1) rfl, ?_⟩
        have := q _ s1
        unfold wStep at this
        rw [e] at this
        exact this
theorem ok__law_watch_step (T : Txt K mg) {f : Addr} {fd : FuncData} (F : FnP K "_law_watch_step" s__law_watch_step f fd) : FnOk P w K mg base CX0 1 f fd ["watch", "state", "shown"] (spPlace K) := by
  refine F.ok sc__law_watch_step (fun vs H Q E h => ?_) (fun cdv A outer s H vs Q E hr h => ?_)
  · obtain ⟨vw, v, p, W, sh, rfl, _⟩ := h
    rfl
  · obtain ⟨vw, v, p, W, sh, rfl, hW, ok, hp, hv, q⟩ := h
    refine ⟨_, PSs.nox (pss_cons (ps_for PassesOwn.never rfl (pi_tup (pe_ix ix_tup (pe_ix ix_tup (pv 0) pe_int (fun _ _ => rfl)) (pv 1) (fun _ _ => rfl))) (pg_tup rfl (pgs_cons (pg_name (i := 3) sc__law_watch_step.nd rfl (Or.inl rfl)) (pgs_cons (pg_name (i := 4) sc__law_watch_step.nd rfl (Or.inl rfl)) pgs_nil))) (pss_one (ps_if (PW.pt (pw_or (pt_cmpR op_isN (pv 3) pe_non (nomark _)) (pw_or1 (pt_cmpR op_in_seq (pv 3) (pv 2) (by rfl))))) (pss_one (ps_ret (pv 4))) pss_nil)))
      (pss_one (ps_ret (pv 1)))), ?_⟩
    obtain ⟨pw, pq, pb, us, rfl, hpw, hpq, hA, hpb⟩ := wt_at hW
    obtain ⟨x, hx, hd⟩ := dpA_get hA (wRow_at hp)
    obtain ⟨pr, xs, y, rfl, hpr, hxs, hy⟩ := wr_at hd
    obtain ⟨py, rfl, hpy⟩ := fb_at hy
    obtain ⟨ps, rfl, hps⟩ := sh_at hv
    have xl := dpA_len hxs
    rw [List.length_map] at xl
    refine ⟨_, rfl, pw, _, _, _, rfl, rfl, hpw, atI_nat (j := 1) rfl, _, rfl, pq, _, _, _, rfl, rfl, hpq, atI_nat hx, pr, rfl, ⟨_, hpr⟩, for_tup (K := K) (a := pr) (xs := xs ++ [.ref py]) (fun i σ H' => ∃ (y3 y4 : Option V), σ = [some (.ref pw), some (.int (p : Int)), some (.ref ps), y3, y4] ∧ H' = H ∧ i ≤ xs.length ∧ ∀ x ∈ (wRow W p).1.take i, ¬ hit sh x = true) ⟨_, _, rfl, rfl, Nat.zero_le _, fun x h => absurd h List.not_mem_nil⟩ (fun i σ H' _ ⟨_, _, _, e, _⟩ => by rw [e]; exact hpr) ?_ ?_⟩
    · rintro i z σ H2 hi ⟨y3, y4, rfl, rfl, hle, no⟩
      by_cases il : i < xs.length
      · rw [List.getElem?_append_left il] at hi
        obtain ⟨q0, hq0, hz⟩ := dpA_mem hxs hi
        obtain ⟨pz, rfl, hpz⟩ := pr_at hz
        refine ⟨pz, _, rfl, hpz, rfl, _, _, rfl, _, _, rfl, rfl, ?_⟩
        refine ⟨_, rfl, rfl, _, rfl, ite2 (fun h => (nomatch (show false = true from h))) (fun _ => ?_)⟩
        refine ⟨_, rfl, _, rfl, ps, _, rfl, .inr hps, rfl, flat_strs _, ?_⟩
        rw [inV_str]
        refine ⟨_, rfl, ite2 (fun h => ?_) (fun h => ?_)⟩
        · have e := wTo_hit hq0 h no
          refine ⟨_, rfl, ?_⟩
          have := q _ (Same.refl _)
          unfold wStep at this
          rw [e] at this
          exact this
        · refine ⟨_, _, rfl, rfl, il, fun x hx => ?_⟩
          rw [take_snoc hq0] at hx
          rcases List.mem_append.mp hx with hx | hx
          · exact no x hx
          · rw [List.mem_singleton.mp hx]
            exact h
      · have ei : i = xs.length := by omega
        subst ei
        rw [List.getElem?_append_right (Nat.le_refl _), Nat.sub_self] at hi
        obtain rfl := Option.some.inj hi
        rw [xl, List.take_length] at no
        have e := wTo_none no
        refine ⟨py, _, rfl, hpy, rfl, _, _, rfl, _, _, rfl, rfl, ?_⟩
        refine ⟨_, rfl, rfl, _, rfl, ite2 (fun _ => ?_) (fun h => absurd rfl h)⟩
        refine ⟨_, rfl, ?_⟩
        have := q _ (Same.refl _)
        unfold wStep at this
        rw [e] at this
        exact this
    · rintro σ H2 ⟨y3, y4, rfl, rfl, hle, no⟩
      rw [List.length_append, List.length_singleton] at hle
      omega
end
end Mt
namespace Mt
open PySem PySem.Spec PyProof.Rows L2
def fnd1 (r : List Br) (w : List Int) : Option Br := r.find? fun x => decide (x.1 = w)
def stp (C : Chn) (st : Option (List Br × Nat)) (w : List Int) : Option (List Br × Nat) := st.bind fun x => (fnd1 (rowOf C x.2) w).map fun b => (x.1 ++ [b], b.2.2)
/-- the branches of a walk along blocks, and where it ends -/
def alg (C : Chn) (s : Nat) (bl : List (List Int)) : Option (List Br × Nat) := bl.foldl (stp C) (some ([], s))
theorem alg_snoc {C : Chn} {s : Nat} {bl : List (List Int)} {i : Nat} {w : List Int} (h : bl[i]? = some w) : alg C s (bl.take (i + 1)) = stp C (alg C s (bl.take i)) w := by
  unfold alg
  rw [take_snoc h, List.foldl_append]
  rfl
theorem stp_none (C : Chn) : ∀ bl : List (List Int), bl.foldl (stp C) none = none
  | [] => rfl
  | _ :: r => stp_none C r
theorem alg_none {C : Chn} {s : Nat} {bl : List (List Int)} {i : Nat} (h : alg C s (bl.take i) = none) : alg C s bl = none := by
  have : alg C s bl = (bl.drop i).foldl (stp C) (alg C s (bl.take i)) := by
    unfold alg
    rw [← List.foldl_append, List.take_append_drop]
  rw [this, h, stp_none]
theorem fnd1_mem {r : List Br} {w : List Int} {b : Br} (h : fnd1 r w = some b) : b ∈ r := List.mem_of_find?_eq_some h
theorem fnd1_head {r : List Br} {w : List Int} : (r.filter fun x => decide (x.1 = w)).head? = fnd1 r w := List.head?_filter
def spAlongG (K : PySem.W.Frag) : Sp := fun vs H Q _ => ∃ (vr vb : V) (s : Nat) (base : Int) (C : Chn) (bl : List (List Int)), vs = [vr, .int s, vb] ∧ Dp K H vr (.tuple (C.map dRw)) ∧ ChnOk base C ∧ s < C.length ∧ bl.length ≤ 1000 ∧ Dp K H vb (.tuple (bl.map dI)) ∧
  (alg C s bl = none → ∀ H', Same H H' → Q .non H') ∧ ∀ l t, alg C s bl = some (l, t) → ∀ H' v, Same H H' → Dp K H' v (.list (l.map dBr)) → Q v H'
section
variable {P : Program} {w : World} {K : PySem.W.Frag} {mg : Str → Option Value} {base : Heap}
theorem ok_branches_along (T : Txt K mg) {f : Addr} {fd : FuncData} (F : FnP K "branches_along" s_branches_along f fd) : FnOk P w K mg base CX0 1 f fd ["rows", "state", "blocks"] (spAlongG K) := by
  refine F.ok sc_branches_along (fun vs H Q E h => ?_) (fun cdv A outer s H vs Q E hr h => ?_)
  · obtain ⟨vr, vb, s, b, C, bl, rfl, _⟩ := h
    rfl
  · obtain ⟨vr, vb, s0, b, C, bl, rfl, hR, ok, hs, hl, hb, qN, qS⟩ := h
    refine ⟨_, PSs.nox (pss_cons (ps_set (i := 3) sc_branches_along.nd rfl (Or.inl rfl) (pe_lst pa_nil))
      (pss_cons (ps_for PassesOwn.never rfl (pi_tup (pv 2)) (pg_name (i := 4) sc_branches_along.nd rfl (Or.inr rfl)) (pss_cons (ps_setLc (i := 5) (own := [("branch", 6)]) (g := (gName 6)) rfl sc_branches_along.nd rfl rfl (sw_true rfl rfl rfl (by decide +kernel)) (pi_tup (pe_ix ix_tup (pv 0) (pv 1) (fun _ _ => rfl))) (blkOk_by (N := N_branches_along) (sc := defScope s_branches_along) (by decide +kernel)) (fun _ _ _ _ _ => (pg_name (i := 6) sc_branches_along.nd rfl (Or.inl rfl))) (fun _ _ _ _ _ => (pts_one (pt_cmpR (eqDK (K := K) rfl (hr.units)) (pe_ix (ixT (K := K) rfl) (pv 6) pe_int (fun _ _ => rfl)) (pv 4) (nomark _)))) (fun _ _ _ _ _ => (pv 6)))
      (pss_cons (ps_if (pt_not (pt_truth (pv 5) (by intro _; rfl))) (pss_one (ps_ret pe_non)) pss_nil)
      (pss_cons (ps_expr (pe_bm PySem.F.plainAttrs_list PySem.F.slot_list_append PySem.F.type_list_append mt_append (pv 3) (pa_cons (pe_ix ix_list (pv 5) pe_int (fun _ _ => rfl)) pa_nil)))
      (pss_one (ps_set (i := 1) sc_branches_along.nd rfl (Or.inl rfl) (pe_ix ix_tup (pe_ix ix_list (pv 5) pe_int (fun _ _ => rfl)) pe_int (fun _ _ => rfl))))))))
      (pss_one (ps_ret (pv 3))))), ?_⟩
    obtain ⟨pq, xs, rfl, hpq, hA⟩ := dp_tup hR
    obtain ⟨pB, ys, rfl, hpB, hB⟩ := dp_tup hb
    have yl := dpA_len hB
    rw [List.length_map] at yl
    refine ⟨Nat.zero_le _, fun L hL => ?_⟩
    have s1 := same_new (o := .lst []) hL
    have hL1 := upd_same (H := H) (a := L) (o := .lst [])
    generalize upd H L (.lst []) = H1 at s1 hL1
    refine ⟨_, rfl, pB, rfl, ⟨_, same_t s1 hpB⟩, for_tup (K := K) (a := pB) (xs := ys) (fun i σ H' => ∃ (y4 y5 : Option V) (zs : List V) (l : List Br) (t : Nat), σ = [some (.ref pq), some (.int (t : Nat)), some (.ref pB), some (.ref L), y4, y5, none] ∧ Same H H' ∧ H' L = some (.lst zs) ∧ DpAll K H' zs (l.map dBr) ∧ t < C.length ∧ alg C s0 (bl.take i) = some (l, t) ∧ l.length = i) ⟨_, _, [], [], s0, rfl, s1, hL1, .nil, hs, rfl, rfl⟩ (fun i σ H' _ ⟨_, _, _, _, _, _, s, _⟩ => same_t s hpB) ?_ ?_⟩
    · rintro i y σ H2 hi ⟨y4, y5, zs, l, t, rfl, s2, hL2, hzs, hst, ha, ll⟩
      obtain ⟨wd, hwd, hy⟩ := dpA_mem hB hi
      have il := (List.getElem?_eq_some_iff.mp hwd).1
      have ha2 := alg_snoc (C := C) (s := s0) hwd
      rw [ha] at ha2
      obtain ⟨xr, hxr, hdr⟩ := dpA_get hA (rowOf_at hst)
      have okr := ok.row _ (List.mem_of_getElem? (rowOf_at hst))
      obtain ⟨pr, rs, rfl, hpr, hrs⟩ := dp_tup hdr
      have rl := dpA_len hrs
      rw [List.length_map] at rl
      have few := okr.few
      have zl := dpA_len hzs
      rw [List.length_map] at zl
      refine ⟨_, rfl, _, rfl, pq, _, _, _, rfl, rfl, same_t s2 hpq, atI_nat hxr, pr, rfl, ⟨_, same_t s2 hpr⟩, fun M hM => lc_tup (K := K) (a := pr) (xs := rs) (fun k H' => Same H2 H' ∧ ∃ us : List V, H' M = some (.lst us) ∧ DpAll K H' us ((((rowOf C t).take k).filter fun x => decide (x.1 = wd)).map dBr)) ⟨same_new hM, [], upd_same, .nil⟩ (fun k H' _ e => same_t (s2.trans e.1) hpr) ?_ ?_⟩
      · rintro k x H3 hk ⟨s3, us, hM3, hus⟩
        obtain ⟨bx, hbx, hx⟩ := dpA_mem (dpA_same (s2.trans s3) _ _ hrs) hk
        have hx' := hx
        obtain ⟨px, x0, x1, rfl, hpx, hd0, hd1⟩ := br_at hx
        have ul := dpA_len hus
        rw [List.length_map] at ul
        have fl := List.length_filter_le (fun x : Br => decide (x.1 = wd)) ((rowOf C t).take k)
        rw [List.length_take] at fl
        refine ⟨rfl, _, rfl, px, _, _, _, rfl, rfl, hpx, atI_nat (j := 0) rfl, _, rfl, dI bx.1, dI wd, hd0, dp_same (s2.trans s3) _ _ hy, dI_sh _, dI_sh _, _, rfl, ?_⟩
        rw [eqv_I]
        have ft : ((rowOf C t).take (k + 1)).filter (fun x => decide (x.1 = wd)) = ((rowOf C t).take k).filter (fun x => decide (x.1 = wd)) ++ [bx].filter (fun x => decide (x.1 = wd)) := by
          rw [take_snoc hbx, List.filter_append]
        cases hdec : decide (bx.1 = wd) with
        | true =>
          refine ⟨_, rfl, us, hM3, line6 (by omega), same_mut s3 hM, us ++ [.ref px], upd_same, ?_⟩
          have kM := keepT_nt (o := .lst (us ++ [.ref px])) (nt_lst _) hM3
          rw [ft, List.filter_cons_of_pos (p := fun x : Br => decide (x.1 = wd)) hdec, List.filter_nil, List.map_append]
          exact dpA_snoc (dpA_keep kM _ _ (noLs_br _) hus) (dp_keep kM _ _ (dBr_noL _) hx')
        | false =>
          refine ⟨s3, us, hM3, ?_⟩
          rw [ft, List.filter_cons_of_neg (p := fun x : Br => decide (x.1 = wd)) (by simp [hdec]), List.filter_nil, List.append_nil]
          exact hus
      · rintro H3 ⟨s3, us, hM3, hus⟩
        rw [rl, List.take_length] at hus
        have hf := fnd1_head (r := rowOf C t) (w := wd)
        cases hfl : (rowOf C t).filter (fun x => decide (x.1 = wd)) with
        | nil =>
          rw [hfl] at hf hus
          have hn : alg C s0 (bl.take (i + 1)) = none := by
            rw [ha2]
            show (fnd1 (rowOf C t) wd).map _ = none
            rw [← hf]
            rfl
          have hu0 : us = [] := dpA_nil hus
          subst hu0
          refine ⟨_, rfl, false, .inl ⟨_, SqL.of hM3, rfl⟩, ?_⟩
          exact qN (alg_none hn) _ (s2.trans s3)
        | cons b0 r0 =>
          rw [hfl] at hf hus
          have hn : alg C s0 (bl.take (i + 1)) = some (l ++ [b0], b0.2.2) := by
            rw [ha2]
            show (fnd1 (rowOf C t) wd).map _ = _
            rw [← hf]
            rfl
          have hin : b0 ∈ rowOf C t := fnd1_mem hf.symm
          obtain ⟨x0, r1, rfl, hx0, hr0⟩ := dpA_cons hus
          have hx' := hx0
          obtain ⟨px, z0, z1, rfl, hpx, hd0, hd1⟩ := br_at hx0
          have hL3 := s3 _ _ hL2
          have kL := keepT_nt (o := .lst (zs ++ [.ref px])) (nt_lst _) hL3
          have LM : M ≠ L := (ne_of_none hL2 hM).symm
          refine ⟨_, rfl, true, .inl ⟨_, SqL.of hM3, rfl⟩, iteNT ?_⟩
          refine ⟨_, rfl, .inl ⟨rfl, _, SqL.of hL3⟩, _, rfl, M, _, _, _, rfl, rfl, SqL.of hM3, atI_nat (j := 0) rfl, L, zs, _, rfl, rfl, hL3, line6 (by omega), ?_⟩
          have hM4 : (upd H3 L (.lst (zs ++ [.ref px]))) M = some (.lst (.ref px :: r1)) := by
            rw [upd_ne LM]
            exact hM3
          refine ⟨_, rfl, M, _, _, _, rfl, rfl, SqL.of hM4, atI_nat (j := 0) rfl, px, _, _, _, rfl, rfl, sqt_keep kL hpx, atI_nat (j := 2) rfl, ?_⟩
          refine ⟨_, _, zs ++ [.ref px], l ++ [b0], b0.2.2, rfl, same_mut (s2.trans s3) hL, upd_same, ?_, (okr.to b0 hin).1, hn, by rw [List.length_append, ll]; rfl⟩
          rw [List.map_append]
          exact dpA_snoc (dpA_keep kL _ _ (noLs_br _) (dpA_same s3 _ _ hzs)) (dp_keep kL _ _ (dBr_noL _) hx')
    · rintro σ H2 ⟨y4, y5, zs, l, t, rfl, s2, hL2, hzs, hst, ha, ll⟩
      rw [yl, List.take_length] at ha
      exact ⟨_, rfl, qS l t ha _ _ s2 (.lst (SqL.of hL2) hzs)⟩
end
end Mt
namespace Mt
open PySem PySem.Spec PyProof.Rows L2
abbrev s_wi : Stmt := inClass (topS 4) 0
abbrev s_wc : Stmt := inClass (topS 4) 1
abbrev s_wb : Stmt := inClass (topS 4) 3
theorem sc_wi : FnScope ["self", "watch"] ["self", "watch"] (defScope s_wi) := ⟨rfl, rfl, rfl, by decide +kernel, rfl, by decide +kernel, by decide +kernel⟩
theorem sc_wc : FnScope ["self", "shown"] ["self", "shown"] (defScope s_wc) := ⟨rfl, rfl, rfl, by decide +kernel, rfl, by decide +kernel, by decide +kernel⟩
theorem sc_wb : FnScope ["self"] ["self"] (defScope s_wb) := ⟨rfl, rfl, rfl, by decide +kernel, rfl, by decide +kernel, by decide +kernel⟩
abbrev FnM (K : PySem.W.Frag) (x q : Str) (st : Stmt) (f : Addr) (fd : FuncData) : Prop := FunD K x q (defArgs st) (defBody st) (defScope st) [] [] f fd
/-! ### a watcher: what its object holds -/
theorem n_wh : ¬ ("watch" : Str) = "here" := by decide +kernel
theorem n_wb : ¬ ("watch" : Str) = "has_broken" := by decide +kernel
theorem n_hb : ¬ ("here" : Str) = "has_broken" := by decide +kernel
theorem b_hw : (("here" : Str) == "watch") = false := by decide +kernel
theorem b_bw : (("has_broken" : Str) == "watch") = false := by decide +kernel
theorem b_bh : (("has_broken" : Str) == "here") = false := by decide +kernel
def wf (vw : V) (h : Nat) (b : Bool) : List (Str × V) := [("watch", vw), ("here", .int (h : Int)), ("has_broken", .bl b)]
theorem wf_w (vw : V) (h : Nat) (b : Bool) : (wf vw h b).lookup ("watch" : Str) = some vw := by
  unfold wf
  simp [List.lookup]
theorem wf_h (vw : V) (h : Nat) (b : Bool) : (wf vw h b).lookup ("here" : Str) = some (.int (h : Int)) := by
  unfold wf
  simp [List.lookup, b_hw]
theorem wf_b (vw : V) (h : Nat) (b : Bool) : (wf vw h b).lookup ("has_broken" : Str) = some (.bl b) := by
  unfold wf
  simp [List.lookup, b_bw, b_bh]
theorem wf_seth (vw : V) (h h' : Nat) (b : Bool) : putF "here" (.int (h' : Int)) (wf vw h b) = wf vw h' b := by
  unfold wf
  simp [putF, n_wh]
theorem wf_setb (vw : V) (h : Nat) (b b' : Bool) : putF "has_broken" (.bl b') (wf vw h b) = wf vw h b' := by
  unfold wf
  simp [putF, n_wb, n_hb]
theorem wf_init (vw : V) (b : Bool) : putF "has_broken" (.bl b) (putF "here" (.int 0) (putF "watch" vw [])) = wf vw 0 b := by
  simp [putF, n_wh, n_wb, n_hb]
  rfl
def spWI (K : PySem.W.Frag) (C : Addr) : Sp := fun vs H Q _ => ∃ (p dx : Addr) (vw : V) (W : Wt), vs = [.ref p, vw] ∧ H p = some (.ins C dx []) ∧ Dp K H vw (dWt W) ∧ ∀ H', Keep p H H' → H' p = some (.ins C dx (wf vw 0 (decide (0 ∈ W.bad)))) → Q .non H'
def spWC (K : PySem.W.Frag) (C : Addr) : Sp := fun vs H Q _ => ∃ (p dx : Addr) (vw v : V) (W : Wt) (h : Nat) (b : Bool) (sh : List Str), vs = [.ref p, v] ∧ H p = some (.ins C dx (wf vw h b)) ∧ Dp K H vw (dWt W) ∧ WtOk W ∧ h < W.rows.length ∧ Dp K H v (dSh sh) ∧
  ∀ H', Keep p H H' → H' p = some (.ins C dx (wf vw (wStep W h sh) (b || decide (wStep W h sh ∈ W.bad)))) → Q (.int (wStep W h sh : Nat)) H'
structure WTx (K : PySem.W.Frag) (C : Addr) : Prop where
  cl : Cls K C
  nW : NoAttr K C "watch"
  nH : NoAttr K C "here"
  nB : NoAttr K C "has_broken"
theorem nt_ins (C dx : Addr) (fs : List (Str × V)) : NT (.ins C dx fs) := ⟨fun _ e => (nomatch e), fun _ _ e => (nomatch e)⟩
theorem Keep.of_same {D : Addr} {H H' : Hp} (s : Same H H') : Keep D H H' := fun b o h _ => s b o h
section
variable {P : Program} {w : World} {K : PySem.W.Frag} {mg : Str → Option Value} {base : Heap} {C : Addr}
theorem ok_wi (X : WTx K C) {f : Addr} {fd : FuncData} (F : FnM K "__init__" "Watcher.__init__" s_wi f fd) : FnOk P w K mg base CX0 1 f fd ["self", "watch"] (spWI K C) := by
  refine F.ok sc_wi (fun vs H Q E h => ?_) (fun cdv A outer s H vs Q E hr h => ?_)
  · obtain ⟨p, dx, vw, W, rfl, _⟩ := h
    rfl
  · obtain ⟨p, dx, vw, W, rfl, hp, hW, q⟩ := h
    refine ⟨_, pss_cons (ps_fld (pv 0) (pv 1) rfl) (pss_cons (ps_fld (pv 0) pe_int rfl) (pss_one (ps_fld (pv 0) (pe_cmpR op_in_seq pe_int (pe_ix ix_tup (pv 1) pe_int (fun _ _ => rfl)) (by rfl)) rfl))), ?_⟩
    have k1 := keepT_nt (o := .ins C dx (putF "watch" vw [])) (nt_ins _ _ _) hp
    refine ⟨_, rfl, _, rfl, p, C, dx, [], rfl, hp, X.cl, X.nW, by show 0 < 1000; decide, ?_⟩
    refine ⟨_, rfl, p, C, dx, _, rfl, upd_same, X.cl, X.nH, by show 1 < 1000; decide, ?_⟩
    have hp2 := upd_same (H := upd H p (.ins C dx (putF "watch" vw []))) (a := p) (o := .ins C dx (putF "here" (.int 0) (putF "watch" vw [])))
    have k2 : KeepT H (upd (upd H p (.ins C dx (putF "watch" vw []))) p (.ins C dx (putF "here" (.int 0) (putF "watch" vw [])))) := k1.trans (keepT_nt (nt_ins _ _ _) upd_same)
    obtain ⟨pw, pq, pb, us, rfl, hpw, hpq, hA, hpb⟩ := wt_at (dp_keep k2 _ _ (dWt_noL W) hW)
    refine ⟨_, rfl, pw, _, _, _, rfl, rfl, hpw, atI_nat (j := 2) rfl, pb, _, rfl, .inr hpb, rfl, flat_nats _, ?_⟩
    rw [show inV (.int 0) (W.bad.map vN) = decide (0 ∈ W.bad) from inV_nat 0 W.bad]
    refine ⟨_, rfl, p, C, dx, _, rfl, hp2, X.cl, X.nB, by show 2 < 1000; decide, ?_⟩
    refine q _ (fun x o e n => ?_) ?_
    · rw [upd_ne n, upd_ne n, upd_ne n]
      exact e
    · rw [upd_same, wf_init]
      rfl
theorem ok_wc (X : WTx K C) (D_place_behind : Kept P w K mg base 1 "place_behind" ["watch", "place", "shown"] (spPlace K)) {f : Addr} {fd : FuncData} (F : FnM K "__call__" "Watcher.__call__" s_wc f fd) : FnOk P w K mg base CX0 2 f fd ["self", "shown"] (spWC K C) := by
  refine F.ok sc_wc (fun vs H Q E h => ?_) (fun cdv A outer s H vs Q E hr h => ?_)
  · obtain ⟨p, dx, vw, v, W, h, b, sh, rfl, _⟩ := h
    rfl
  · obtain ⟨p, dx, vw, v, W, h, b, sh, rfl, hp, hW, ok, hh, hv, q⟩ := h
    refine ⟨_, PSs.nox (pss_cons (ps_fld (pv 0) (pe_d D_place_behind hr (by rfl) (pa_cons (pe_fld (pv 0) rfl) (pa_cons (pe_fld (pv 0) rfl) (pa_cons (pv 1) pa_nil)))) rfl)
      (pss_cons (ps_if (pt_cmpR op_in_seq (pe_fld (pv 0) rfl) (pe_ix ix_tup (pe_fld (pv 0) rfl) pe_int (fun _ _ => rfl)) (by rfl)) (pss_one (ps_fld (pv 0) pe_bl rfl)) pss_nil)
      (pss_one (ps_ret (pe_fld (pv 0) rfl))))), ?_⟩
    have len3 : ∀ (vw : V) (h : Nat) (b : Bool), (wf vw h b).length < 1000 := fun _ _ _ => by show 3 < 1000; decide
    refine ⟨_, rfl, p, C, dx, _, _, rfl, hp, X.cl, X.nW, wf_w _ _ _, _, rfl, p, C, dx, _, _, rfl, hp, X.cl, X.nH, wf_h _ _ _, _, rfl, vw, v, h, W, sh, rfl, hW, ok, hh, hv, fun H1 s1 => ?_⟩
    refine ⟨_, rfl, p, C, dx, _, rfl, s1 _ _ hp, X.cl, X.nH, len3 _ _ _, ?_⟩
    rw [wf_seth]
    have k1 : Keep p H (upd H1 p (.ins C dx (wf vw (wStep W h sh) b))) := (Keep.of_same s1).set
    have t1 : KeepT H (upd H1 p (.ins C dx (wf vw (wStep W h sh) b))) := (KeepT.of_same s1).trans (keepT_nt (nt_ins _ _ _) (s1 _ _ hp))
    have hp1 := upd_same (H := H1) (a := p) (o := .ins C dx (wf vw (wStep W h sh) b))
    generalize upd H1 p (.ins C dx (wf vw (wStep W h sh) b)) = H2 at k1 t1 hp1
    obtain ⟨pw, pq, pb, us, rfl, hpw, hpq, hA, hpb⟩ := wt_at (dp_keep t1 _ _ (dWt_noL W) hW)
    refine ⟨_, rfl, p, C, dx, _, _, rfl, hp1, X.cl, X.nH, wf_h _ _ _, _, rfl, p, C, dx, _, _, rfl, hp1, X.cl, X.nW, wf_w _ _ _, pw, _, _, _, rfl, rfl, hpw, atI_nat (j := 2) rfl, pb, _, rfl, .inr hpb, rfl, flat_nats _, ?_⟩
    rw [inV_nat]
    refine ⟨_, rfl, ite2 (fun e => ?_) (fun e => ?_)⟩
    · refine ⟨_, rfl, p, C, dx, _, rfl, hp1, X.cl, X.nB, len3 _ _ _, ?_⟩
      rw [wf_setb]
      refine ⟨_, rfl, p, C, dx, _, _, rfl, upd_same, X.cl, X.nH, wf_h _ _ _, ?_⟩
      refine q _ k1.set ?_
      have e : decide (wStep W h sh ∈ W.bad) = true := e
      rw [upd_same, e, Bool.or_true]
    · have e : ¬ decide (wStep W h sh ∈ W.bad) = true := e
      refine ⟨_, rfl, p, C, dx, _, _, rfl, hp1, X.cl, X.nH, wf_h _ _ _, ?_⟩
      refine q _ k1 ?_
      rw [hp1, Bool.eq_false_iff.mpr e, Bool.or_false]
theorem ok_wb (X : WTx K C) {f : Addr} {fd : FuncData} (F : FnM K "broken" "Watcher.broken" s_wb f fd) : FnOk P w K mg base CX0 1 f fd ["self"] (getSp C "has_broken") := by
  refine F.ok sc_wb (fun vs H Q E h => ?_) (fun cdv A outer s H vs Q E hr h => ?_)
  · obtain ⟨a, dx, fs, v, rfl, _⟩ := h
    rfl
  · obtain ⟨a, dx, fs, v, rfl, ha, hl, q⟩ := h
    refine ⟨_, pss_one (ps_ret (pe_fld (pv 0) rfl)), ?_⟩
    exact ⟨_, rfl, a, C, dx, fs, v, rfl, ha, X.cl, X.nB, hl, q⟩
end
/-- what the top tells of the class -/
structure Wch (P : Program) (w : World) (K : PySem.W.Frag) (mg : Str → Option Value) (base : Heap) (C fI fC pB gB : Addr) (fdI fdB : FuncData) : Prop where
  mgC : mg "Watcher" = some (.ref C)
  cl : Cls K C
  mk_ : Mk K C fI
  fI_ : FnOk P w K mg base CX0 1 fI fdI ["self", "watch"] (spWI K C)
  bI : Binds K fdI ["self", "watch"] []
  call : StX.CallO K C fC
  fC_ : FnR P w K mg base CX0 2 fC (spWC K C)
  pr : PropOf K C "broken" pB gB
  fB_ : FnOk P w K mg base CX0 1 gB fdB ["self"] (getSp C "has_broken")
  bB : Binds K fdB ["self"] []
def wgo (W : Wt) (st : Nat × Bool) (b : Br) : Nat × Bool := (wStep W st.1 b.2.1, st.2 || decide (wStep W st.1 b.2.1 ∈ W.bad))
def wF (W : Wt) (l : List Br) : Nat × Bool := l.foldl (wgo W) (0, decide (0 ∈ W.bad))
theorem wF_snoc {W : Wt} {l : List Br} {i : Nat} {b : Br} (h : l[i]? = some b) : wF W (l.take (i + 1)) = wgo W (wF W (l.take i)) b := by
  unfold wF
  rw [take_snoc h, List.foldl_append]
  rfl
theorem wF_app (W : Wt) (l : List Br) (b : Br) : wF W (l ++ [b]) = wgo W (wF W l) b := by
  unfold wF
  rw [List.foldl_append]
  rfl
def brk (C : Chn) (W : Wt) (bl : List (List Int)) : Bool := match alg C 0 bl with
  | none => false
  | some x => (wF W x.1).2
def spJBreaks (K : PySem.W.Frag) : Sp := fun vs H Q _ => ∃ (vc vw vb : V) (base : Int) (C : Chn) (W : Wt) (bl : List (List Int)), vs = [vc, vw, vb] ∧ Dp K H vc (dChn base C) ∧ ChnOk base C ∧ Dp K H vw (dWt W) ∧ WtOk W ∧ Dp K H vb (.tuple (bl.map dI)) ∧ bl.length ≤ 1000 ∧ ∀ H', Same H H' → Q (.bl (brk C W bl)) H'
section
variable {P : Program} {w : World} {K : PySem.W.Frag} {mg : Str → Option Value} {base : Heap}
theorem ok_judge_breaks (T : Txt K mg) (D_branches_along : Kept P w K mg base 1 "branches_along" ["rows", "state", "blocks"] (spAlongG K)) {Cw fI fC pB gB : Addr} {fdI fdB : FuncData} (Wc : Wch P w K mg base Cw fI fC pB gB fdI fdB) {f : Addr} {fd : FuncData} (F : FnP K "judge_breaks" s_judge_breaks f fd) : FnOk P w K mg base CX0 3 f fd ["chain", "watch", "blocks"] (spJBreaks K) := by
  refine F.ok sc_judge_breaks (fun vs H Q E h => ?_) (fun cdv A outer s H vs Q E hr h => ?_)
  · obtain ⟨vc, vw, vb, b, C, W, bl, rfl, _⟩ := h
    rfl
  · obtain ⟨vc, vw, vb, b, C, W, bl, rfl, hC, ok, hW, okw, hb, hl, q⟩ := h
    refine ⟨_, PSs.nox (pss_cons (ps_set (i := 3) sc_judge_breaks.nd rfl (Or.inl rfl) (pe_d D_branches_along (hr.mono (by decide)) (by rfl) (pa_cons (pe_ix ix_tup (pv 0) pe_int (fun _ _ => rfl)) (pa_cons pe_int (pa_cons (pv 2) pa_nil)))))
      (pss_cons (ps_if (pt_cmpR op_isN (pv 3) pe_non (nomark _)) (pss_one (ps_ret pe_bl)) pss_nil)
      (pss_cons (ps_set (i := 4) sc_judge_breaks.nd rfl (Or.inl rfl) (pe_make Wc.mk_ Wc.fI_ hr (by rfl) Wc.mgC Wc.bI .nil pass0 (pa_cons (pv 1) pa_nil)))
      (pss_cons (ps_for PassesOwn.never rfl (pi_list (pv 3)) (pg_name (i := 5) sc_judge_breaks.nd rfl (Or.inl rfl)) (pss_one (ps_expr (StX.pe_callO (pv 4) Wc.call Wc.fC_ hr pass0 (pa_cons (pe_ix ix_tup (pv 5) pe_int (fun _ _ => rfl)) pa_nil)))))
      (pss_one (ps_ret (pe_prop (pv 4) Wc.cl Wc.pr Wc.fB_ hr Wc.bB .nil pass0 rfl))))))), ?_⟩
    obtain ⟨pc, pq, xs, rfl, hpc, hpq, hA⟩ := chn_at (id hC)
    refine ⟨_, rfl, pc, _, _, _, rfl, rfl, hpc, atI_nat (j := 2) rfl, _, rfl, .ref pq, vb, 0, b, C, bl, rfl, .tup hpq hA, ok, ok.pos, hl, hb, fun hn H1 s1 => ?_, fun l t ha H1 v s1 hv => ?_⟩
    · have e : brk C W bl = false := by
        unfold brk
        rw [hn]
      rw [e] at q
      refine ⟨_, rfl, rfl, _, rfl, ite2 (fun _ => ?_) (fun h => absurd rfl h)⟩
      exact q _ s1
    · have e : brk C W bl = (wF W l).2 := by
        unfold brk
        rw [ha]
      rw [e] at q
      obtain ⟨L, zs, rfl, hL, hzs⟩ := dp_lst hv
      have zl := dpA_len hzs
      rw [List.length_map] at zl
      refine ⟨_, rfl, rfl, _, rfl, ite2 (fun h => (nomatch (show false = true from h))) (fun _ => ?_)⟩
      refine ⟨_, rfl, fun p dx hp hdx ne => ?_⟩
      have s2 : Same H1 (upd (upd H1 dx (.own p)) p (.ins Cw dx [])) := same_mut (same_new hdx) hp
      refine ⟨p, dx, vw, W, rfl, upd_same, dp_same (s1.trans s2) _ _ hW, fun H2 k2 hp2 => ⟨rfl, ?_⟩⟩
      have s12 : Same H1 H2 := fun x o e => k2 x o (s2 x o e) (ne_of_none e hp)
      refine ⟨_, rfl, L, rfl, ⟨_, same_l s12 hL⟩, for_list (K := K) (a := L) (xs := zs) (fun i σ H' => ∃ (y5 : Option V), σ = [some (.ref pc), some vw, some vb, some (.ref L), some (.ref p), y5] ∧ Same H1 H' ∧ (wF W (l.take i)).1 < W.rows.length ∧ H' p = some (.ins Cw dx (wf vw (wF W (l.take i)).1 (wF W (l.take i)).2))) ⟨_, rfl, s12, okw.pos, hp2⟩ (fun i σ H' _ ⟨_, _, s, _⟩ => same_l s hL) ?_ ?_⟩
      · rintro i x σ H3 hi ⟨y5, rfl, s3, hlt, hp3⟩
        obtain ⟨br, hbr, hx⟩ := dpA_mem (dpA_same s3 _ _ hzs) hi
        obtain ⟨pb, x0, x1, rfl, hpb, hd0, hd1⟩ := br_at hx
        refine ⟨_, rfl, p, rfl, _, rfl, pb, _, _, _, rfl, rfl, hpb, atI_nat (j := 1) rfl, .inr ⟨_, _, hp3⟩, ?_⟩
        refine ⟨p, dx, vw, x1, W, _, _, br.2.1, rfl, hp3, dp_same (s1.trans s3) _ _ hW, okw, hlt, hd1, fun H4 k4 hp4 => ?_⟩
        refine ⟨_, rfl, fun x o e => k4 x o (s3 x o e) (ne_of_none e hp), ?_, ?_⟩
        · rw [wF_snoc hbr]
          exact wStep_lt okw hlt _
        · rw [wF_snoc hbr]
          exact hp4
      · rintro σ H3 ⟨y5, rfl, s3, hlt, hp3⟩
        rw [zl, List.take_length] at hp3
        exact ⟨_, rfl, p, dx, _, rfl, hp3, p, dx, _, _, rfl, hp3, wf_b _ _ _, q _ (s1.trans s3)⟩
end
end Mt
namespace Mt
open PySem PySem.Spec PyProof.Rows L2
/-! ### pairs of states, and the dict of those that are known -/
abbrev Pr : Type := Int × Int
def kP (p : Pr) : List L2.Key := [.inl p.1, .inl p.2]
theorem kP_inj {p q : Pr} (h : kP p = kP q) : p = q := by
  have h1 := (List.cons.inj h).1
  have h2 := (List.cons.inj (List.cons.inj h).2).1
  exact Prod.ext (Sum.inl.inj h1) (Sum.inl.inj h2)
def PrA (H : Hp) (x : V) (p : Pr) : Prop := ∃ q, x = .ref q ∧ H q = some (.tup ((kP p).map kV))
def PrAs (H : Hp) (xs : List V) (ps : List Pr) : Prop := Paired (PrA H) xs ps
theorem PrAs.len {H : Hp} {xs : List V} {ps : List Pr} (h : PrAs H xs ps) : xs.length = ps.length := Paired.length h
theorem PrA.same {H H' : Hp} {x : V} {p : Pr} (s : Same H H') (h : PrA H x p) : PrA H' x p := by
  obtain ⟨q, e, h⟩ := h
  exact ⟨q, e, s _ _ h⟩
theorem PrAs.imp {H H' : Hp} {xs : List V} {ps : List Pr} (f : ∀ x p, PrA H x p → PrA H' x p) (h : PrAs H xs ps) : PrAs H' xs ps := by
  induction h with
  | nil => exact .nil
  | cons a _ ih => exact .cons (f _ _ a) ih
theorem PrAs.same {H H' : Hp} {xs : List V} {ps : List Pr} (s : Same H H') (h : PrAs H xs ps) : PrAs H' xs ps := h.imp fun _ _ => PrA.same s
theorem PrAs.at {H : Hp} {xs : List V} {ps : List Pr} {i : Nat} {x : V} (h : PrAs H xs ps) (e : xs[i]? = some x) : ∃ p, ps[i]? = some p ∧ PrA H x p := Paired.at h e
structure KnD (kvs : List (List L2.Key × V)) (ps : List Pr) : Prop where
  val : ∀ p, valV kvs (kP p) = if p ∈ ps then some (.bl true) else none
  key : ∀ kv ∈ kvs, ∃ p ∈ ps, kv.1 = kP p
  len : kvs.length ≤ ps.length
theorem KnD.nil : KnD [] [] := ⟨fun p => by rw [if_neg List.not_mem_nil]; rfl, fun _ h => absurd h List.not_mem_nil, Nat.le_refl _⟩
theorem putK_key {kvs : List (List L2.Key × V)} {k : List L2.Key} {v : V} {kv : List L2.Key × V} (h : kv ∈ putK kvs k v) : kv.1 = k ∨ ∃ x ∈ kvs, x.1 = kv.1 := by
  unfold putK at h
  split at h
  · obtain ⟨x, hx, rfl⟩ := List.mem_map.mp h
    right
    refine ⟨x, hx, ?_⟩
    split <;> rfl
  · rcases List.mem_append.mp h with h | h
    · exact .inr ⟨kv, h, rfl⟩
    · left
      rw [List.mem_singleton.mp h]
theorem KnD.put {kvs : List (List L2.Key × V)} {ps : List Pr} (h : KnD kvs ps) (p : Pr) : KnD (putK kvs (kP p) (.bl true)) (ps ++ [p]) := by
  refine ⟨fun q => ?_, fun kv hkv => ?_, ?_⟩
  · rw [valV_put]
    by_cases e : kP q = kP p
    · rw [if_pos e, if_pos (by rw [kP_inj e]; exact List.mem_append_right _ (List.mem_singleton.mpr rfl))]
    · rw [if_neg e, h.val q]
      by_cases m : q ∈ ps
      · rw [if_pos m, if_pos (List.mem_append_left _ m)]
      · rw [if_neg m, if_neg fun k => by
          rcases List.mem_append.mp k with k | k
          · exact m k
          · exact e (by rw [List.mem_singleton.mp k])]
  · rcases putK_key hkv with e | ⟨x, hx, e⟩
    · exact ⟨p, List.mem_append_right _ (List.mem_singleton.mpr rfl), e⟩
    · obtain ⟨q, hq, e2⟩ := h.key x hx
      exact ⟨q, List.mem_append_left _ hq, by rw [← e, e2]⟩
  · have := length_putK kvs (kP p) (.bl true)
    have := h.len
    rw [List.length_append, List.length_singleton]
    omega
theorem KnD.has {kvs : List (List L2.Key × V)} {ps : List Pr} (h : KnD kvs ps) {p : Pr} (hp : p ∈ ps) : ∃ kv ∈ kvs, kv.1 = kP p := by
  have e := valV_any (kP p) kvs
  rw [h.val p, if_pos hp] at e
  obtain ⟨kv, hkv, k⟩ := List.any_eq_true.mp (show (kvs.any fun kv => decide (kv.1 = kP p)) = true from e)
  exact ⟨kv, hkv, of_decide_eq_true k⟩
/-! ### closed under the steps, and good -/
def okPr (C : Chn) (W : Wt) (ps : List Pr) (p : Pr) : Prop := 0 ≤ p.1 ∧ p.1 < C.length ∧ 0 ≤ p.2 ∧ p.2 < W.rows.length ∧ p.2.toNat ∉ W.bad ∧ ∀ br ∈ rowOf C p.1.toNat, ((br.2.2 : Int), (wStep W p.2.toNat br.2.1 : Int)) ∈ ps
def Clo (C : Chn) (W : Wt) (ps : List Pr) : Prop := (0, 0) ∈ ps ∧ ∀ p ∈ ps, okPr C W ps p
noncomputable def cloB (C : Chn) (W : Wt) (ps : List Pr) : Bool := @decide (Clo C W ps) (Classical.propDecidable _)
theorem cloB_t {C : Chn} {W : Wt} {ps : List Pr} (h : Clo C W ps) : cloB C W ps = true := @decide_eq_true _ (Classical.propDecidable _) h
theorem cloB_f {C : Chn} {W : Wt} {ps : List Pr} (h : ¬ Clo C W ps) : cloB C W ps = false := @decide_eq_false _ (Classical.propDecidable _) h
def spIsBool : Sp := fun vs H Q _ => ∃ a b : Bool, vs = [.bl a, .bl b] ∧ Q (.bl (a == b)) H
def spHolds (K : PySem.W.Frag) : Sp := fun vs H Q _ => ∃ (vc vw : V) (pp : Addr) (base : Int) (C : Chn) (W : Wt) (xs : List V) (ps : List Pr), vs = [vc, vw, .ref pp] ∧ Dp K H vc (dChn base C) ∧ ChnOk base C ∧ Dp K H vw (dWt W) ∧ WtOk W ∧ SqT K H pp xs ∧ PrAs H xs ps ∧ ps.length ≤ 5000 ∧ ∀ H', Same H H' → Q (.bl (cloB C W ps)) H'
theorem nt_dt (l : List (List L2.Key × V)) : NT (.dT l) := ⟨fun _ e => (nomatch e), fun _ _ e => (nomatch e)⟩
theorem same_unlock {H H' : Hp} {d : Addr} {o u : HO} (h : H d = some u) (s : Same (upd H d o) H') : Same H (upd H' d u) := fun b x e => by
  by_cases k : b = d
  · subst k
    rw [h] at e
    rw [upd_same, ← e]
  · rw [upd_ne k]
    exact s b x (by rw [upd_ne k]; exact e)
section
variable {P : Program} {w : World} {K : PySem.W.Frag} {mg : Str → Option Value} {base : Heap}
theorem ok__law_is_bool (T : Txt K mg) {f : Addr} {fd : FuncData} (F : FnP K "_law_is_bool" s__law_is_bool f fd) : FnOk P w K mg base CX0 1 f fd ["told", "due"] spIsBool := by
  refine F.ok sc__law_is_bool (fun vs H Q E h => ?_) (fun cdv A outer s H vs Q E hr h => ?_)
  · obtain ⟨a, b, rfl, _⟩ := h
    rfl
  · obtain ⟨a, b, rfl, q⟩ := h
    refine ⟨_, PSs.nox (pss_one (ps_ret (pe_and (pe_callB call_isi (by rfl) T.b_isinstance (by decide +kernel) (pa_cons (pv 0) (pa_cons (pe_bltn (v := .ty "bool") (u := .type "bool") (by rfl) T.b_bool (by decide +kernel) rfl) pa_nil))) (pe_one (pe_cmpR op_eq (pv 0) (pv 1) (nomark _)))))), ?_⟩
    refine ⟨_, rfl, _, .ty "bool", .type "bool", .type "bool", true, rfl, .ty _, .base (.bl _), kit_ty (by decide +kernel), true, rfl, ite2 (fun _ => ?_) (fun h => absurd rfl h)⟩
    refine ⟨_, rfl, _, rfl, rfl, ?_⟩
    have dec_bl : decide (V.bl a = V.bl b) = (a == b) := by cases a <;> cases b <;> rfl
    rw [dec_bl]
    exact q
end
end Mt
namespace Mt
open PySem PySem.Spec PyProof.Rows L2
theorem dcT_it {J : It} {n : Nat} {G : Hp → Prop} {Y : Nat → Hp → V → Hp → Prop} (w : Walk J n G Y) {g : TG} {tk tv : TE} {vs : List Nat} {σ : L2.St} {H1 : Hp} {D : Addr} {Qd : Hp → Prop} (Pv : Nat → Hp → Prop) (h0 : Pv 0 (upd H1 D (.dT []))) (hG : ∀ i H, i ≤ n → Pv i H → G H)
    (hs : ∀ i x H H', i < n → Pv i H → Y i H x H' → g x (wipe σ vs) H' fun σ3 H3 => wipe σ3 vs = wipe σ vs ∧ tk σ3 H3 fun y H4 => tv σ3 H4 fun z H5 => ∃ H6, DPut H5 D y z H6 ∧ Pv (i + 1) H6) (hd : ∀ H, Pv n H → Qd H) :
    ∃ W : Nat → Nat → Hp → Prop, (∃ m, W 0 m (upd H1 D (.dT []))) ∧ ∀ i m H, W i m H →
      (J.stop i H ∧ Qd H) ∨ (J.go i H ∧ ∃ Nx : Hp → Prop, (∀ H2, Nx H2 → ∃ m2, m2 < m ∧ W (i + 1) m2 H2) ∧
        ∀ x H2, J.yld i H x H2 → g x (wipe σ vs) H2 fun σ3 H3 => wipe σ3 vs = wipe σ vs ∧ tk σ3 H3 fun y H4 => tv σ3 H4 fun z H5 => ∃ H6, DPut H5 D y z H6 ∧ Nx H6) := by
  refine ⟨fun i m H => m = n - i ∧ i ≤ n ∧ Pv i H, ⟨n, by simp, Nat.zero_le _, h0⟩, ?_⟩
  rintro i m H ⟨rfl, hi, p⟩
  have q := hG i H hi p
  by_cases hlt : i < n
  · refine .inr ⟨w.goes i H hlt q, Pv (i + 1), fun H' p' => ⟨n - (i + 1), by omega, rfl, hlt, p'⟩, fun x H' y => hs i x H H' hlt p (w.yields i H x H' hlt q y)⟩
  · have e : i = n := by omega
    subst e
    exact .inl ⟨w.stops H q, hd H p⟩
section
variable {P : Program} {w : World} {K : PySem.W.Frag} {mg : Str → Option Value} {base : Heap}
theorem ok_judge_holds (T : Txt K mg) (D_place_behind : Kept P w K mg base 1 "place_behind" ["watch", "place", "shown"] (spPlace K)) {f : Addr} {fd : FuncData} (F : FnP K "judge_holds" s_judge_holds f fd) : FnOk P w K mg base CX0 2 f fd ["chain", "watch", "pairs"] (spHolds K) := by
  refine F.ok sc_judge_holds (fun vs H Q E h => ?_) (fun cdv A outer s H vs Q E hr h => ?_)
  · obtain ⟨vc, vw, pp, b, C, W, xs, ps, rfl, _⟩ := h
    rfl
  · obtain ⟨vc, vw, pp, b, C, W, xs, ps, rfl, hC, ok, hW, okw, hpp, hps, few, q⟩ := h
    refine ⟨_, PSs.nox (pss_cons (DCT.ps_setDcT (i := 3) (own := [("pair", 4)]) (g := (gName 4)) rfl sc_judge_holds.nd rfl rfl (DCT.swaps rfl rfl rfl (by decide +kernel)) (pi_tup (pv 2)) (blkOk_by (N := N_judge_holds) (sc := defScope s_judge_holds) (by decide +kernel)) (Nat.lt_of_le_of_lt (Nat.le_add_right _ _) hr.units) (fun _ => (pg_name (i := 4) sc_judge_holds.nd rfl (Or.inl rfl))) (fun _ => (pv 4)) (fun _ => pe_bl))
      (pss_cons (ps_if (pt_cmp (pc_dnotin (hu_of hr) (pe_tup (pa_cons pe_int (pa_cons pe_int pa_nil))) (pv 3))) (pss_one (ps_ret pe_bl)) pss_nil)
      (pss_cons (ps_lock (ps_for PassesOwn.never rfl (pi_keys (pv 3)) (pg_tup rfl (pgs_cons (pg_name (i := 5) sc_judge_holds.nd rfl (Or.inl rfl)) (pgs_cons (pg_name (i := 6) sc_judge_holds.nd rfl (Or.inl rfl)) pgs_nil))) (pss_cons (ps_if (PW.pt (pw_or (pt_not (pt_chain op_le op_lt pe_int (pv 5) (pe_callB call_len (by rfl) T.b_len (by decide +kernel) (pa_cons (pe_ix ix_tup (pv 0) pe_int (fun _ _ => rfl)) pa_nil)))) (pw_or (pt_not (pt_chain op_le op_lt pe_int (pv 6) (pe_callB call_len (by rfl) T.b_len (by decide +kernel) (pa_cons (pe_ix ix_tup (pv 1) pe_int (fun _ _ => rfl)) pa_nil)))) (pw_or1 (pt_cmpR op_in_seq (pv 6) (pe_ix ix_tup (pv 1) pe_int (fun _ _ => rfl)) (by rfl)))))) (pss_one (ps_ret pe_bl)) pss_nil)
      (pss_one (ps_for PassesOwn.never rfl (pi_tup (pe_ix ix_tup (pe_ix ix_tup (pv 0) pe_int (fun _ _ => rfl)) (pv 5) (fun _ _ => rfl))) (pg_tup rfl (pgs_cons (pg_name (i := 7) sc_judge_holds.nd rfl (Or.inl rfl)) (pgs_cons (pg_name (i := 8) sc_judge_holds.nd rfl (Or.inl rfl)) (pgs_cons (pg_name (i := 9) sc_judge_holds.nd rfl (Or.inl rfl)) pgs_nil)))) (pss_one (ps_if (pt_cmp (pc_dnotin (hu_of hr) (pe_tup (pa_cons (pv 9) (pa_cons (pe_d D_place_behind (hr.mono (by decide)) (by rfl) (pa_cons (pv 1) (pa_cons (pv 6) (pa_cons (pv 8) pa_nil)))) pa_nil))) (pv 3))) (pss_one (ps_ret pe_bl)) pss_nil)))))))
      (pss_one (ps_ret pe_bl))))), ?_⟩
    obtain ⟨pc, pq, ys, rfl, hpc, hpq, hA⟩ := chn_at (id hC)
    obtain ⟨pw, pwq, pwb, us, rfl, hpw, hpwq, hAw, hpwb⟩ := wt_at (id hW)
    have yl := dpA_len hA
    rw [List.length_map] at yl
    have ul := dpA_len hAw
    rw [List.length_map] at ul
    have xl := hps.len
    refine ⟨_, rfl, pp, rfl, ⟨_, hpp⟩, fun d hd => dcT_it (walk_tup (K := K) (a := pp) (xs := xs)) (fun i H' => ∃ kvs : List (List L2.Key × V), Same H H' ∧ H' d = some (.dT kvs) ∧ KnD kvs (ps.take i)) ⟨[], same_new hd, upd_same, .nil⟩ (fun i H' _ ⟨_, s, _⟩ => same_t s hpp) ?_ ?_⟩
    · rintro i x H2 H2' hi' ⟨kvs, s2, hd2, kn⟩ ⟨e2, hi⟩
      subst e2
      obtain ⟨p, hp, qx, rfl, hqx⟩ := hps.at hi
      have il := (List.getElem?_eq_some_iff.mp hp).1
      have kl := kn.len
      rw [List.length_take] at kl
      refine ⟨rfl, _, rfl, _, DPut.t (k := kP p) hd2 (s2 _ _ hqx) (line6 (by omega)), _, same_mut s2 hd, upd_same, ?_⟩
      rw [take_snoc hp]
      exact kn.put p
    · rintro H2 ⟨kvs, s2, hd2, kn⟩
      rw [xl, List.take_length] at kn
      refine ⟨by show 2 ≤ sizeLine; decide, fun p0 hp0 => ?_⟩
      have s3 := s2.trans (same_new (o := .tup [.int 0, .int 0]) hp0)
      have hd3 := same_new (o := .tup [.int 0, .int 0]) hp0 _ _ hd2
      have hp03 := upd_same (H := H2) (a := p0) (o := .tup [.int 0, .int 0])
      generalize upd H2 p0 (.tup [.int 0, .int 0]) = H3 at s3 hd3 hp03
      refine ⟨_, rfl, d, _, rfl, DGet.t (k := kP (0, 0)) hd3 hp03, _, rfl, ?_⟩
      rw [kn.val]
      by_cases m0 : ((0, 0) : Pr) ∈ ps
      · rw [if_pos m0]
        refine ite2 (fun h => (nomatch (show false = true from h))) (fun _ => ?_)
        have no : (¬ Clo C W ps) → ∀ H', Same H H' → Q (.bl false) H' := fun h H' s => by
          have := q H' s
          rw [cloB_f h] at this
          exact this
        refine ⟨d, .dT kvs, hd3, True.intro, fun od => ⟨_, rfl, d, od, rfl, .inr ⟨kvs, upd_same, for_it walk_keysT (fun i σ H' => ∃ (y5 y6 y7 y8 y9 : Option V), σ = [some (.ref pc), some (.ref pw), some (.ref pp), some (.ref d), none, y5, y6, y7, y8, y9] ∧ Same (upd H3 d (.frz od (.dT kvs))) H' ∧ ∀ kv ∈ kvs.take i, ∀ p, kv.1 = kP p → okPr C W ps p) ⟨_, _, _, _, _, rfl, Same.refl _, fun p h => absurd h List.not_mem_nil⟩ (fun i σ H' _ ⟨_, _, _, _, _, _, s, _⟩ => s _ _ upd_same) ?_ ?_⟩⟩⟩
        · rintro i x σ H4x H4 hi ⟨y5, y6, y7, y8, y9, rfl, s4, good⟩ ⟨rfl, key, v, qx, hkv, rfl, hqx⟩
          obtain ⟨⟨a, c⟩, pin, ek⟩ := kn.key _ (List.mem_of_getElem? hkv)
          have ek : key = kP (a, c) := ek
          subst ek
          have k4 : KeepT H H4 := ((KeepT.of_same s3).trans (keepT_nt (nt_dt kvs) hd3)).trans (KeepT.of_same s4)
          have free : ∀ H', Same (upd H3 d (.frz od (.dT kvs))) H' → H' d = some (.frz od (.dT kvs)) ∧ Same H (upd H' d (.dT kvs)) := fun H' s => ⟨s _ _ upd_same, s3.trans (same_unlock hd3 s)⟩
          have bad : (¬ okPr C W ps (a, c)) → ∀ H', Same (upd H3 d (.frz od (.dT kvs))) H' → H' d = some (.frz od (.dT kvs)) ∧ Q (.bl false) (upd H' d (.dT kvs)) := fun h H' s => ⟨(free H' s).1, no (fun k => h (k.2 _ pin)) _ (free H' s).2⟩
          refine ⟨qx, _, rfl, SqT.of hqx, rfl, _, _, rfl, _, _, rfl, rfl, ?_⟩
          refine ⟨_, rfl, _, _, rfl, rfl, ?_⟩
          refine ⟨_, rfl, ite2 (fun h1 => ?_) (fun h1 => ?_)⟩
          · refine ⟨_, rfl, pc, _, _, _, rfl, rfl, sqt_keep k4 hpc, atI_nat (j := 2) rfl, _, _, rfl, .inr ⟨_, sqt_keep k4 hpq, rfl⟩, _, _, rfl, rfl, _, rfl, ?_⟩
            refine ite2 (fun h2 => ?_) (fun h2 => ?_)
            · exact bad (fun k => by
                have h2 : (!decide (a < (ys.length : Int))) = true := h2
                rw [yl] at h2
                simp at h2
                have : a < (C.length : Int) := k.2.1
                omega) _ s4
            · have a1 : a < (C.length : Int) := by
                have h2 : ¬ (!decide (a < (ys.length : Int))) = true := h2
                rw [yl] at h2
                simpa using h2
              have a0 : 0 ≤ a := of_decide_eq_true h1
              refine ⟨_, rfl, _, _, rfl, rfl, _, rfl, ite2 (fun h3 => ?_) (fun h3 => ?_)⟩
              · refine ⟨_, rfl, pw, _, _, _, rfl, rfl, sqt_keep k4 hpw, atI_nat (j := 1) rfl, _, _, rfl, .inr ⟨_, sqt_keep k4 hpwq, rfl⟩, _, _, rfl, rfl, _, rfl, ?_⟩
                refine ite2 (fun h4 => ?_) (fun h4 => ?_)
                · exact bad (fun k => by
                    have h4 : (!decide (c < (us.length : Int))) = true := h4
                    rw [ul] at h4
                    simp at h4
                    have : c < (W.rows.length : Int) := k.2.2.2.1
                    omega) _ s4
                · have c1 : c < (W.rows.length : Int) := by
                    have h4 : ¬ (!decide (c < (us.length : Int))) = true := h4
                    rw [ul] at h4
                    simpa using h4
                  have c0 : 0 ≤ c := of_decide_eq_true h3
                  obtain ⟨an, rfl⟩ : ∃ n : Nat, a = n := ⟨a.toNat, by omega⟩
                  obtain ⟨cn, rfl⟩ : ∃ n : Nat, c = n := ⟨c.toNat, by omega⟩
                  refine ⟨_, rfl, _, rfl, pw, _, _, _, rfl, rfl, sqt_keep k4 hpw, atI_nat (j := 2) rfl, pwb, _, rfl, .inr (sqt_keep k4 hpwb), rfl, flat_nats _, ?_⟩
                  rw [show inV (kV (Sum.inl ((an : Int), (cn : Int)).snd)) (W.bad.map vN) = decide (cn ∈ W.bad) from inV_nat cn W.bad]
                  refine ⟨_, rfl, ite2 (fun h5 => ?_) (fun h5 => ?_)⟩
                  · exact bad (fun k => by
                      have h5 : decide (cn ∈ W.bad) = true := h5
                      have := k.2.2.2.2.1
                      rw [Int.toNat_natCast] at this
                      exact this (of_decide_eq_true h5)) _ s4
                  · have nb : cn ∉ W.bad := fun k => h5 (decide_eq_true k)
                    have alt : an < C.length := by omega
                    have clt : cn < W.rows.length := by omega
                    obtain ⟨xr, hxr, hdr⟩ := dpA_get hA (rowOf_at alt)
                    have hdr4 := dp_keep k4 _ _ (dRw_noL _) hdr
                    obtain ⟨pr, rs, rfl, hpr, hrs⟩ := dp_tup hdr4
                    have rl := dpA_len hrs
                    rw [List.length_map] at rl
                    refine ⟨_, rfl, pc, _, _, _, rfl, rfl, sqt_keep k4 hpc, atI_nat (j := 2) rfl, _, rfl, pq, _, _, _, rfl, rfl, sqt_keep k4 hpq, atI_nat hxr, pr, rfl, ⟨_, hpr⟩, for_tup (K := K) (a := pr) (xs := rs) (fun j σ H' => ∃ (y7 y8 y9 : Option V), σ = [some (.ref pc), some (.ref pw), some (.ref pp), some (.ref d), none, some (.int (an : Int)), some (.int (cn : Int)), y7, y8, y9] ∧ Same H4 H' ∧ ∀ br ∈ (rowOf C an).take j, ((br.2.2 : Int), (wStep W cn br.2.1 : Int)) ∈ ps) ⟨_, _, _, rfl, Same.refl _, fun p h => absurd h List.not_mem_nil⟩ (fun j σ H' _ ⟨_, _, _, _, s, _⟩ => same_t s hpr) ?_ ?_⟩
                    · rintro j y σ H5 hj ⟨y7, y8, y9, rfl, s5, gr⟩
                      obtain ⟨br, hbr, hy⟩ := dpA_mem (dpA_same s5 _ _ hrs) hj
                      obtain ⟨pb, x0, x1, rfl, hpb, hd0, hx1⟩ := br_at hy
                      have k5 := k4.trans (KeepT.of_same s5)
                      refine ⟨pb, _, rfl, hpb, rfl, _, _, rfl, _, _, rfl, _, _, rfl, rfl, ?_⟩
                      refine ⟨_, rfl, _, rfl, _, rfl, _, rfl, .ref pw, x1, cn, W, br.2.1, rfl, dp_keep k5 _ _ (dWt_noL W) hW, okw, clt, hx1, fun H6 s6 => ⟨by show 2 ≤ sizeLine; decide, fun pt hpt => ?_⟩⟩
                      have s7 := (s5.trans s6).trans (same_new (o := .tup [.int (br.2.2 : Int), .int (wStep W cn br.2.1 : Int)]) hpt)
                      have hpt7 := upd_same (H := H6) (a := pt) (o := .tup [.int (br.2.2 : Int), .int (wStep W cn br.2.1 : Int)])
                      generalize upd H6 pt (.tup [.int (br.2.2 : Int), .int (wStep W cn br.2.1 : Int)]) = H7 at s7 hpt7
                      have s47 := s4.trans s7
                      refine ⟨_, rfl, d, _, rfl, .inr ⟨kvs, kP ((br.2.2 : Int), (wStep W cn br.2.1 : Int)), pt, .inr ⟨od, s47 _ _ upd_same⟩, rfl, hpt7, rfl⟩, _, rfl, ?_⟩
                      rw [kn.val]
                      by_cases mm : (((br.2.2 : Int), (wStep W cn br.2.1 : Int)) : Pr) ∈ ps
                      · rw [if_pos mm]
                        refine ite2 (fun h => (nomatch (show false = true from h))) (fun _ => ?_)
                        refine ⟨_, _, _, rfl, s7, fun x hx => ?_⟩
                        rw [take_snoc hbr] at hx
                        rcases List.mem_append.mp hx with hx | hx
                        · exact gr x hx
                        · rw [List.mem_singleton.mp hx]
                          exact mm
                      · rw [if_neg mm]
                        refine ite2 (fun _ => ?_) (fun h => absurd rfl h)
                        exact bad (fun k => mm (k.2.2.2.2.2 br (List.mem_of_getElem? hbr))) _ s47
                    · rintro σ H5 ⟨y7, y8, y9, rfl, s5, gr⟩
                      rw [rl, List.take_length] at gr
                      refine ⟨_, _, _, _, _, rfl, s4.trans s5, fun kv hkvm p ekv => ?_⟩
                      rw [take_snoc hkv] at hkvm
                      rcases List.mem_append.mp hkvm with hkvm | hkvm
                      · exact good kv hkvm p ekv
                      · rw [List.mem_singleton.mp hkvm] at ekv
                        have e9 : ((an : Int), (cn : Int)) = p := kP_inj ekv
                        rw [← e9]
                        exact ⟨a0, a1, c0, c1, nb, gr⟩
              · refine ⟨_, rfl, ite2 (fun _ => ?_) (fun h => ?_)⟩
                · exact bad (fun k => h3 (decide_eq_true k.2.2.1)) _ s4
                · exact absurd rfl h
          · refine ⟨_, rfl, ite2 (fun _ => ?_) (fun h => ?_)⟩
            · exact bad (fun k => h1 (decide_eq_true k.1)) _ s4
            · exact absurd rfl h
        · rintro σ H4 ⟨y5, y6, y7, y8, y9, rfl, s4, good⟩
          rw [List.take_length] at good
          refine ⟨s4 _ _ upd_same, ?_⟩
          have := q _ (s3.trans (same_unlock hd3 s4))
          rw [cloB_t ⟨m0, fun p hp => by
            obtain ⟨kv, hkv, e⟩ := kn.has hp
            exact good kv hkv p e⟩] at this
          exact this
      · rw [if_neg m0]
        refine ite2 (fun _ => ?_) (fun h => absurd rfl h)
        have := q H3 s3
        rw [cloB_f fun h => m0 h.1] at this
        exact this
end
end Mt
namespace Mt
open PySem PySem.Spec PyProof.Rows L2
theorem cat_D {K : PySem.W.Frag} {H : Hp} {a b : Addr} {xs ys : List V} {ds es : List PyData} (ha : SqT K H a xs) (hb : SqT K H b ys) (h1 : DpAll K H xs ds) (h2 : DpAll K H ys es) (hl : ds.length + es.length ≤ 1000) : rCatA K (.ref a) (.ref b) H (fun v H' => Same H H' ∧ Dp K H' v (.tuple (ds ++ es))) := by
  have l1 := dpA_len h1
  have l2 := dpA_len h2
  refine ⟨a, b, xs, ys, rfl, rfl, ha, hb, line5 (by omega), fun e => ?_, fun _ e => ?_, fun _ _ p hp => ?_⟩
  · subst e
    have : ds = [] := List.length_eq_zero_iff.mp l1.symm
    subst this
    exact ⟨Same.refl _, .tup hb h2⟩
  · subst e
    have : es = [] := List.length_eq_zero_iff.mp l2.symm
    subst this
    rw [List.append_nil]
    exact ⟨Same.refl _, .tup ha h1⟩
  · have s := same_new (o := .tup (xs ++ ys)) hp
    exact ⟨s, .tup (SqT.of upd_same) (dpA_app (dpA_same s _ _ h1) (dpA_same s _ _ h2))⟩
theorem cat_W {K : PySem.W.Frag} {H : Hp} {x y : V} {ds es : List PyData} (hx : Dp K H x (.tuple ds)) (hy : Dp K H y (.tuple es)) (hl : ds.length + es.length ≤ 1000) : rCatA K x y H (fun v H' => Same H H' ∧ Dp K H' v (.tuple (ds ++ es))) := by
  obtain ⟨a, xs, rfl, ha, h1⟩ := dp_tup hx
  obtain ⟨b, ys, rfl, hb, h2⟩ := dp_tup hy
  exact cat_D ha hb h1 h2 hl
def spDWatch (K : PySem.W.Frag) : Sp := fun vs H Q _ => ∃ (S D m : Addr) (n : Int) (ms : List Str), vs = [.ref D, .ref m, .int n] ∧ DrawAt S D H ∧ m ≠ D ∧ H m = some (.lst (ms.map V.str)) ∧ 2 ≤ ms.length ∧ ms.length ≤ 10 ∧ 1 ≤ n ∧ n ≤ 12 ∧
  ∀ (H' : Hp) (v : V) (W : Wt), Go S D H H' → Dp K H' v (dWt W) → WtOk W → W.rows.length = n.toNat → Q v H'
theorem noLs_pr (r : List (Str × Nat)) : noLs (r.map dPr) = true := noLs_map _ _ fun p _ => dPr_noL p
theorem noLs_wr (R : List (List (Str × Nat) × Nat)) : noLs (R.map dWr) = true := noLs_map _ _ fun r _ => dWr_noL r
theorem list_of_map_erase {ms : List Str} {j : Nat} : (ms.map V.str).eraseIdx j = (ms.eraseIdx j).map V.str := by
  first
    | exact List.eraseIdx_map ..
    | exact (List.map_eraseIdx ..).symm
    | simp [List.eraseIdx_eq_take_drop_succ]
def rOk (n : Nat) (r : List (Str × Nat) × Nat) : Prop := r.1.length ≤ 20 ∧ r.2 < n ∧ ∀ p ∈ r.1, p.2 < n
section
variable {P : Program} {w : World} {K : PySem.W.Frag} {mg : Str → Option Value} {base : Heap}
theorem ok__law_drawn_watch (T : Txt K mg) (D__law_draw : Kept P w K mg base 1 "_law_draw" ["d", "many"] spDraw) (D__law_pop : Kept P w K mg base 2 "_law_pop" ["d", "row"] spPop) (D__law_rare : Kept P w K mg base 2 "_law_rare" ["d", "many"] spRare) {f : Addr} {fd : FuncData} (F : FnP K "_law_drawn_watch" s__law_drawn_watch f fd) : FnOk P w K mg base CX0 3 f fd ["d", "marks", "many"] (spDWatch K) := by
  refine F.ok sc__law_drawn_watch (fun vs H Q E h => ?_) (fun cdv A outer s H vs Q E hr h => ?_)
  · obtain ⟨S, D, m, n, ms, rfl, _⟩ := h
    rfl
  · obtain ⟨S, D, m, n, ms, rfl, d, nD, hm, m2, m10, n1, n12, q⟩ := h
    refine ⟨_, PSs.nox (pss_cons (ps_set (i := 3) sc__law_drawn_watch.nd rfl (Or.inl rfl) (pe_lst pa_nil))
      (pss_cons (ps_for PassesOwn.never rfl (pi_range1 (by rfl) T.b_range (pa_cons (pv 2) pa_nil)) (pg_name (i := 4) sc__law_drawn_watch.nd rfl (Or.inl rfl)) (pss_cons (ps_set (i := 5) sc__law_drawn_watch.nd rfl (Or.inl rfl) (pe_callTy call_list_of (by rfl) T.b_list (by decide +kernel) (pa_cons (pv 1) pa_nil)))
      (pss_cons (ps_set (i := 6) sc__law_drawn_watch.nd rfl (Or.inl rfl) (pe_lst pa_nil))
      (pss_cons (ps_set (i := 7) sc__law_drawn_watch.nd rfl (Or.inl rfl) (pe_callB (call_min2 rfl) (by rfl) T.b_min (by decide +kernel) (pa_cons pe_int (pa_cons (pe_op op_add (pe_callB call_len (by rfl) T.b_len (by decide +kernel) (pa_cons (pv 1) pa_nil)) pe_int) pa_nil))))
      (Evl.pss_cut (ps_if (pt_val (pe_d D__law_rare (hr.mono (by decide)) (by rfl) (pa_cons (pv 0) (pa_cons pe_int pa_nil)))) (pss_one (ps_set (i := 7) sc__law_drawn_watch.nd rfl (Or.inl rfl) (pe_op op_add (pe_callB call_len (by rfl) T.b_len (by decide +kernel) (pa_cons (pv 1) pa_nil)) pe_int))) pss_nil)
      (pss_cons (ps_for PassesOwn.never rfl (pi_range1 (by rfl) T.b_range (pa_cons (pe_d D__law_draw (hr.mono (by decide)) (by rfl) (pa_cons (pv 0) (pa_cons (pv 7) pa_nil))) pa_nil)) (pg_name (i := 8) sc__law_drawn_watch.nd rfl (Or.inl rfl)) (pss_one (ps_expr (pe_bm PySem.F.plainAttrs_list PySem.F.slot_list_append PySem.F.type_list_append mt_append (pv 6) (pa_cons (pe_tup (pa_cons (pe_d D__law_pop (hr.mono (by decide)) (by rfl) (pa_cons (pv 0) (pa_cons (pv 5) pa_nil))) (pa_cons (pe_d D__law_draw (hr.mono (by decide)) (by rfl) (pa_cons (pv 0) (pa_cons (pv 2) pa_nil))) pa_nil))) pa_nil)))))
      (pss_one (ps_expr (pe_bm PySem.F.plainAttrs_list PySem.F.slot_list_append PySem.F.type_list_append mt_append (pv 3) (pa_cons (pe_op op_catA (pe_callTy call_tuple_of (by rfl) T.b_tuple (by decide +kernel) (pa_cons (pv 6) pa_nil)) (pe_tup (pa_cons (pe_tup (pa_cons pe_non (pa_cons (pe_d D__law_draw (hr.mono (by decide)) (by rfl) (pa_cons (pv 0) (pa_cons (pv 2) pa_nil))) pa_nil))) pa_nil))) pa_nil))))))))))
      (pss_cons (ps_set (i := 9) sc__law_drawn_watch.nd rfl (Or.inr rfl) (pe_op op_add pe_int (pe_d D__law_draw (hr.mono (by decide)) (by rfl) (pa_cons (pv 0) (pa_cons pe_int pa_nil)))))
      (pss_cons (ps_setLc (i := 10) (own := [("k", 4)]) (g := (gName 4)) rfl sc__law_drawn_watch.nd rfl rfl (sw_true rfl rfl rfl (by decide +kernel)) (pi_range1 (by rfl) T.b_range (pa_cons (pv 2) pa_nil)) (blkOk_by (N := N__law_drawn_watch) (sc := defScope s__law_drawn_watch) (by decide +kernel)) (fun _ _ _ _ _ => (pg_name (i := 4) sc__law_drawn_watch.nd rfl (Or.inl rfl))) (fun _ _ _ _ _ => (pts_one (pt_cmpR op_eq (pe_d D__law_draw (hr.mono (by decide)) (by rfl) (pa_cons (pv 0) (pa_cons (pv 9) pa_nil))) pe_int (nomark _)))) (fun _ _ _ _ _ => (pv 4)))
      (pss_one (ps_ret (pe_tup (pa_cons pe_str (pa_cons (pe_callTy call_tuple_of (by rfl) T.b_tuple (by decide +kernel) (pa_cons (pv 3) pa_nil)) (pa_cons (pe_callTy call_tuple_of (by rfl) T.b_tuple (by decide +kernel) (pa_cons (pv 10) pa_nil)) pa_nil)))))))))), ?_⟩
    refine ⟨Nat.zero_le _, fun L hL => ?_⟩
    have g1 := Go.new (o := .lst []) d hL
    have LD := (d.free hL).1
    refine ⟨_, rfl, _, rfl, by omega, by omega, for_range (lo := 0) (n := n.toNat) (fun i σ H' => ∃ (y4 y5 y6 y7 y8 : Option V) (zs : List V) (R : List (List (Str × Nat) × Nat)), σ = [some (.ref D), some (.ref m), some (.int n), some (.ref L), y4, y5, y6, y7, y8, none, none] ∧ Go S D H H' ∧ H' L = some (.lst zs) ∧ DpAll K H' zs (R.map dWr) ∧ R.length = i ∧ ∀ r ∈ R, rOk n.toNat r) ⟨_, _, _, _, _, [], [], rfl, g1, upd_same, .nil, rfl, fun _ h => absurd h List.not_mem_nil⟩ ?_ ?_⟩
    · rintro i σ H1 hi ⟨y4, y5, y6, y7, y8, zs, R, rfl, g, hL1, hzs, hR, hRr⟩
      have zl := dpA_len hzs
      rw [List.length_map] at zl
      have hm1 := g.2 _ _ hm nD
      refine ⟨_, rfl, m, _, rfl, .inl (SqL.of hm1), fun l hl => ⟨Nat.zero_le _, fun f hf => ?_⟩⟩
      have lD := (g.1.free hl).1
      have g2 := Go.new (o := .lst (ms.map V.str)) g.1 hl
      have hl2 := upd_same (H := H1) (a := l) (o := .lst (ms.map V.str))
      have lf : l ≠ f := ne_of_none hl2 hf
      have hf1 : H1 f = none := by
        rw [upd_ne lf.symm] at hf
        exact hf
      have fD := (g.1.free hf1).1
      have g3 := g2.trans (Go.new (o := .lst []) g2.1 hf)
      have hl3 := same_new (o := .lst []) hf _ _ hl2
      have hf3 := upd_same (H := upd H1 l (.lst (ms.map V.str))) (a := f) (o := .lst [])
      generalize upd (upd H1 l (.lst (ms.map V.str))) f (.lst []) = H3 at g3 hl3 hf3
      have hm3 := g3.2 _ _ hm1 nD
      refine ⟨_, rfl, _, _, rfl, .inl ⟨_, SqL.of hm3, rfl⟩, _, _, rfl, rfl, _, _, rfl, ?_⟩
      have mz : ∃ z : Int, (if ((ms.map V.str).length : Int) + 1 < 4 then ((ms.map V.str).length : Int) + 1 else 4) = z ∧ 1 ≤ z ∧ z ≤ (ms.length : Int) + 1 := ⟨_, rfl, by rw [List.length_map]; split <;> omega, by rw [List.length_map]; split <;> omega⟩
      obtain ⟨z0, ez, z1, z2⟩ := mz
      rw [ez]
      refine ⟨fun σ' H' => ∃ z : Int, σ' = [some (.ref D), some (.ref m), some (.int n), some (.ref L), some (.int (0 + (i : Int))), some (.ref l), some (.ref f), some (.int z), y8, none, none] ∧ 1 ≤ z ∧ z ≤ (ms.length : Int) + 1 ∧ Go S D H3 H', ?_, ?_⟩
      · refine ⟨_, rfl, S, D, 8, rfl, by decide, by decide, g3.1, fun H4 bb g4 => ⟨bb, rfl, ite2 (fun _ => ?_) (fun _ => ⟨_, rfl, z1, z2, g4⟩)⟩⟩
        exact ⟨_, rfl, _, _, rfl, .inl ⟨_, SqL.of (g4.2 _ _ hm3 nD), rfl⟩, _, _, rfl, rfl, _, rfl, by omega, by rw [List.length_map]; exact Int.le_refl _, g4⟩
      · rintro σ' H4 ⟨z, rfl, z1, z2, g4⟩
        have g14 := g3.trans g4
        refine ⟨_, rfl, _, rfl, S, D, z, rfl, divW_of (by omega) (by omega), g4.1, fun H5 v v0 v1 g5 => ?_⟩
        have g15 := g14.trans g5
        refine ⟨_, rfl, by omega, by omega, for_range (lo := 0) (n := v.toNat) (fun j σ H' => ∃ (y8 : Option V) (nms : List Str) (qs : List V) (r : List (Str × Nat)), σ = [some (.ref D), some (.ref m), some (.int n), some (.ref L), some (.int (0 + (i : Int))), some (.ref l), some (.ref f), some (.int z), y8, none, none] ∧ Go S D H1 H' ∧ H' l = some (.lst (nms.map V.str)) ∧ H' f = some (.lst qs) ∧ DpAll K H' qs (r.map dPr) ∧ nms.length + j = ms.length ∧ r.length = j ∧ ∀ p ∈ r, p.2 < n.toNat) ⟨_, ms, [], [], rfl, g15, (g4.trans g5).2 _ _ hl3 lD, (g4.trans g5).2 _ _ hf3 fD, .nil, rfl, rfl, fun _ h => absurd h List.not_mem_nil⟩ ?_ ?_⟩
        · rintro j σ H6 hj ⟨y8, nms, qs, r, rfl, g6, hl6, hf6, hqs, nl, rl, hr6⟩
          have ql := dpA_len hqs
          rw [List.length_map] at ql
          have jl : j < ms.length := by omega
          refine ⟨_, rfl, .inl ⟨rfl, _, SqL.of hf6⟩, _, rfl, _, rfl, S, D, l, nms.map V.str, rfl, g6.1, lD, hl6, by rw [List.length_map]; omega, by rw [List.length_map]; omega, fun H7 jx x g7 hx => ?_⟩
          rw [List.getElem?_map] at hx
          obtain ⟨zz, hz, rfl⟩ := Option.map_eq_some_iff.mp hx
          have hjx := (List.getElem?_eq_some_iff.mp hz).1
          rw [list_of_map_erase]
          have k7 := Go.keepT g6.1 g7
          have hl7 := g7.2 _ _ hl6 lD
          have hf7 := g7.2 _ _ hf6 fD
          have kl := keepT_nt (o := .lst ((nms.eraseIdx jx).map V.str)) (nt_lst _) hl7
          have g8 := goU (o := .lst ((nms.eraseIdx jx).map V.str)) hl g.1 (g6.trans g7)
          have hl8 := upd_same (H := H7) (a := l) (o := .lst ((nms.eraseIdx jx).map V.str))
          have hf8 : (upd H7 l (.lst ((nms.eraseIdx jx).map V.str))) f = some (.lst qs) := by
            rw [upd_ne lf.symm]
            exact hf7
          have hqs8 := dpA_keep (k7.trans kl) _ _ (noLs_pr r) hqs
          generalize upd H7 l (.lst ((nms.eraseIdx jx).map V.str)) = H8 at g8 hl8 hf8 hqs8
          refine ⟨_, rfl, _, rfl, S, D, n, rfl, divW_of (by omega) (by omega), g8.1, fun H9 t t0 t1 g9 => ⟨by show 2 ≤ sizeLine; decide, fun pt hpt => ?_⟩⟩
          have gA := g9.trans (Go.new (o := .tup [.str zz, .int t]) g9.1 hpt)
          have hptA := upd_same (H := H9) (a := pt) (o := .tup [.str zz, .int t])
          generalize upd H9 pt (.tup [.str zz, .int t]) = HA at gA hptA
          have kA := Go.keepT g8.1 gA
          have hfA := gA.2 _ _ hf8 fD
          have hlA := gA.2 _ _ hl8 lD
          have kf := keepT_nt (o := .lst (qs ++ [.ref pt])) (nt_lst _) hfA
          have dP : Dp K HA (.ref pt) (dPr (zz, t.toNat)) := by
            have e1 : PyData.int ((t.toNat : Nat) : Int) = .int t := by rw [Int.toNat_of_nonneg t0]
            show Dp K HA (.ref pt) (.tuple [.str zz, .int ((t.toNat : Nat) : Int)])
            rw [e1]
            exact .tup (SqT.of hptA) (.cons (.str _) (.cons (.int _) .nil))
          refine ⟨f, qs, _, rfl, rfl, hfA, line6 (by omega), _, nms.eraseIdx jx, qs ++ [.ref pt], r ++ [(zz, t.toNat)], rfl, goU hf1 g.1 (g8.trans gA), ?_, upd_same, ?_, ?_, ?_, fun p hp => ?_⟩
          · rw [upd_ne lf]
            exact hlA
          · rw [List.map_append]
            exact dpA_snoc (dpA_keep kf _ _ (noLs_pr r) (dpA_keep kA _ _ (noLs_pr r) hqs8)) (dp_keep kf _ _ (dPr_noL _) dP)
          · rw [List.length_eraseIdx_of_lt hjx]
            omega
          · rw [List.length_append, rl]
            rfl
          · rcases List.mem_append.mp hp with h | h
            · exact hr6 p h
            · rw [List.mem_singleton.mp h]
              show t.toNat < n.toNat
              omega
        · rintro σ H6 ⟨y8, nms, qs, r, rfl, g6, hl6, hf6, hqs, nl, rl, hr6⟩
          have ql := dpA_len hqs
          rw [List.length_map] at ql
          have hL6 := g6.2 _ _ hL1 LD
          refine ⟨_, rfl, .inl ⟨rfl, _, SqL.of hL6⟩, _, rfl, f, qs, rfl, .inl ⟨SqL.of hf6, fun pr hpr => ?_⟩⟩
          have g7 := Go.new (o := .tup qs) g6.1 hpr
          have k7 := Go.keepT g6.1 g7
          have hpr7 := upd_same (H := H6) (a := pr) (o := .tup qs)
          have hqs7 := dpA_keep k7 _ _ (noLs_pr r) hqs
          generalize upd H6 pr (.tup qs) = H7 at g7 hpr7 hqs7 k7
          refine ⟨_, rfl, _, rfl, S, D, n, rfl, divW_of (by omega) (by omega), g7.1, fun H8 t t0 t1 g8 => ⟨by show 2 ≤ sizeLine; decide, fun p1 hp1 => ⟨by show 1 ≤ sizeLine; decide, fun p2 hp2 => ?_⟩⟩⟩
          have g9 := g8.trans (Go.new (o := .tup [.non, .int t]) g8.1 hp1)
          have hp19 := upd_same (H := H8) (a := p1) (o := .tup [.non, .int t])
          generalize upd H8 p1 (.tup [.non, .int t]) = H9 at g9 hp19 hp2
          have gA := g9.trans (Go.new (o := .tup [.ref p1]) g9.1 hp2)
          have hp1A := same_new (o := .tup [.ref p1]) hp2 _ _ hp19
          have hp2A := upd_same (H := H9) (a := p2) (o := .tup [.ref p1])
          generalize upd H9 p2 (.tup [.ref p1]) = HA at gA hp1A hp2A
          have kA := Go.keepT g7.1 gA
          have dF : Dp K HA (.ref p2) (.tuple [dFb t.toNat]) := by
            have e1 : PyData.int ((t.toNat : Nat) : Int) = .int t := by rw [Int.toNat_of_nonneg t0]
            refine .tup (SqT.of hp2A) (.cons ?_ .nil)
            show Dp K HA (.ref p1) (.tuple [.none, .int ((t.toNat : Nat) : Int)])
            rw [e1]
            exact .tup (SqT.of hp1A) (.cons .non (.cons (.int _) .nil))
          have dR : Dp K HA (.ref pr) (.tuple (r.map dPr)) := .tup (sqt_keep kA (SqT.of hpr7)) (dpA_keep kA _ _ (noLs_pr r) hqs7)
          refine catA_mono (cat_W dR dF (by rw [List.length_map]; show _ + 1 ≤ _; omega)) fun v9 HB hh => ?_
          obtain ⟨sB, hv9⟩ := hh
          have hv9 : Dp K HB v9 (dWr (r, t.toNat)) := hv9
          have gB := gA.trans (Go.same gA.1 sB)
          have g6B := g7.trans gB
          have hLB := g6B.2 _ _ hL6 LD
          have kL := keepT_nt (o := .lst (zs ++ [v9])) (nt_lst _) hLB
          have k1B := Go.keepT g.1 (g6.trans g6B)
          refine ⟨L, zs, _, rfl, rfl, hLB, line6 (by omega), _, _, _, _, _, zs ++ [v9], R ++ [(r, t.toNat)], rfl, goU hL d (g.trans (g6.trans g6B)), upd_same, ?_, by rw [List.length_append, hR]; rfl, fun x hx => ?_⟩
          · rw [List.map_append]
            exact dpA_snoc (dpA_keep kL _ _ (noLs_wr R) (dpA_keep k1B _ _ (noLs_wr R) hzs)) (dp_keep kL _ _ (dWr_noL _) hv9)
          · rcases List.mem_append.mp hx with h | h
            · exact hRr x h
            · rw [List.mem_singleton.mp h]
              exact ⟨by show r.length ≤ 20; omega, by show t.toNat < n.toNat; omega, hr6⟩
    · rintro σ H1 ⟨y4, y5, y6, y7, y8, zs, R, rfl, g, hL1, hzs, hR, hRr⟩
      refine ⟨_, rfl, S, D, 4, rfl, divW_of (by decide) (by decide), g.1, fun H2 v v0 v1 g2 => ⟨_, _, rfl, rfl, ?_⟩⟩
      have g12 := g.trans g2
      have hL2 := g2.2 _ _ hL1 LD
      have k2 := Go.keepT g.1 g2
      have hzs2 := dpA_keep k2 _ _ (noLs_wr R) hzs
      refine ⟨_, rfl, _, rfl, by omega, by omega, fun M hM => lc_range (lo := 0) (n := n.toNat) (fun j H' => ∃ bs : List Nat, Go S D H2 H' ∧ H' M = some (.lst (bs.map vN)) ∧ bs.length ≤ j ∧ ∀ k ∈ bs, k < n.toNat) ⟨[], Go.new g12.1 hM, upd_same, Nat.le_refl _, fun _ h => absurd h List.not_mem_nil⟩ ?_ ?_⟩
      · rintro j H3 hj ⟨bs, g3, hM3, bl, bn⟩
        have MD := (g12.1.free hM).1
        refine ⟨rfl, _, rfl, _, rfl, S, D, _, rfl, divW_of (by omega) (by omega), g3.1, fun H4 u u0 u1 g4 => ⟨rfl, _, rfl, ite2 (fun _ => ?_) (fun _ => ?_)⟩⟩
        · refine ⟨_, rfl, _, g4.2 _ _ hM3 MD, by rw [List.length_map]; exact line6 (by omega), bs ++ [j], goU hM g12.1 (g3.trans g4), ?_, (by rw [List.length_append, List.length_singleton]; omega), fun k hk => (List.mem_append.mp hk).elim (bn k) fun e => by rw [List.mem_singleton.mp e]; exact hj⟩
          rw [upd_same, List.map_append, Int.zero_add]
          rfl
        · exact ⟨bs, g3.trans g4, g4.2 _ _ hM3 MD, by omega, bn⟩
      · rintro H3 ⟨bs, g3, hM3, bl, bn⟩
        have hL3 := g3.2 _ _ hL2 LD
        have hzs3 := dpA_keep (Go.keepT g12.1 g3) _ _ (noLs_wr R) hzs2
        have MD := (g12.1.free hM).1
        refine ⟨_, rfl, L, zs, rfl, .inl ⟨SqL.of hL3, fun pt hpt => ?_⟩⟩
        have g4 := Go.new (o := .tup zs) g3.1 hpt
        have hpt4 := upd_same (H := H3) (a := pt) (o := .tup zs)
        have hzs4 := dpA_keep (Go.keepT g3.1 g4) _ _ (noLs_wr R) hzs3
        have hM4 := same_new (o := .tup zs) hpt _ _ hM3
        generalize upd H3 pt (.tup zs) = H4 at g4 hpt4 hzs4 hM4
        refine ⟨_, rfl, M, _, rfl, .inl ⟨SqL.of hM4, fun pb hpb => ⟨by show 3 ≤ sizeLine; decide, fun pw hpw => ?_⟩⟩⟩
        have s5 := same_new (o := .tup (bs.map vN)) hpb
        have s6 := same_new (o := .tup [.str "watch", .ref pt, .ref pb]) hpw
        have hpb6 := s6 _ _ (upd_same (H := H4) (a := pb) (o := .tup (bs.map vN)))
        have s56 := s5.trans s6
        refine q _ _ ⟨R, bs⟩ (((g12.trans g3).trans g4).trans (Go.same g4.1 s56)) (.tup (SqT.of upd_same) (.cons (.str _) (.cons (.tup (SqT.of (s56 _ _ hpt4)) (dpA_same s56 _ _ hzs4)) (.cons (.tup (SqT.of hpb6) (nats_dp _)) .nil)))) ⟨by show 0 < R.length; omega, by show R.length ≤ 20; omega, by show bs.length ≤ 20; omega, (by show ∀ k ∈ bs, k < R.length; rw [hR]; exact bn), fun r hr => ?_⟩ hR
        have := hRr r hr
        unfold rOk at this
        show _ ∧ _ < R.length ∧ ∀ p ∈ r.1, p.2 < R.length
        rw [hR]
        exact this
end
end Mt
namespace Mt
open PySem PySem.Spec PyProof.Rows L2
theorem new_tup {K : PySem.W.Frag} {H : Hp} {p : Addr} {xs : List V} {ds : List PyData} (hp : H p = none) (h : DpAll K H xs ds) : Same H (upd H p (.tup xs)) ∧ Dp K (upd H p (.tup xs)) (.ref p) (.tuple ds) := by
  have s := same_new (o := .tup xs) hp
  exact ⟨s, .tup (SqT.of upd_same) (dpA_same s _ _ h)⟩
theorem z1 : (1 : Nat) ≤ sizeLine := by decide
theorem z2 : (2 : Nat) ≤ sizeLine := by decide
theorem z3 : (3 : Nat) ≤ sizeLine := by decide
def spSWatch (K : PySem.W.Frag) : Sp := fun vs H Q _ => ∃ (S D m : Addr) (n : Int) (ms : List Str), vs = [.ref D, .ref m, .int n] ∧ DrawAt S D H ∧ m ≠ D ∧ H m = some (.lst (ms.map V.str)) ∧ 2 ≤ ms.length ∧ ms.length ≤ 9 ∧ 1 ≤ n ∧ n ≤ 12 ∧
  ∀ (H' : Hp) (v : V) (W : Wt), Go S D H H' → Dp K H' v (dWt W) → WtOk W → Q v H'
def W0 (a : Str) : Wt := ⟨[([(a, 1)], 0), ([], 1)], [1]⟩
def W1 (a b : Str) (n : Nat) : Wt := ⟨[([(a, 1)], 0)] ++ (List.range n).map (fun k => ([(b, 0)], k + 2)) ++ [([], n + 1)], [n + 1]⟩
def W2 (a b : Str) : Wt := ⟨[([(b, 1), (a, 2)], 0), ([], 1), ([], 2)], [2]⟩
theorem W0_ok (a : Str) : WtOk (W0 a) := by
  refine ⟨by show 0 < 2; decide, by show 2 ≤ 20; decide, by show 1 ≤ 20; decide, fun k hk => by rw [List.mem_singleton.mp hk]; show 1 < 2; decide, fun r hr => ?_⟩
  unfold W0 at hr ⊢
  simp only [List.mem_cons, List.not_mem_nil, or_false] at hr
  rcases hr with rfl | rfl <;> simp
theorem W2_ok (a b : Str) : WtOk (W2 a b) := by
  refine ⟨by show 0 < 3; decide, by show 3 ≤ 20; decide, by show 1 ≤ 20; decide, fun k hk => by rw [List.mem_singleton.mp hk]; show 2 < 3; decide, fun r hr => ?_⟩
  unfold W2 at hr ⊢
  simp only [List.mem_cons, List.not_mem_nil, or_false] at hr
  rcases hr with rfl | rfl | rfl <;> simp
theorem W1_ok (a b : Str) {n : Nat} (h : n ≤ 4) : WtOk (W1 a b n) := by
  have len : (W1 a b n).rows.length = n + 2 := by
    unfold W1
    rw [List.length_append, List.length_append, List.length_map, List.length_range]
    show 1 + n + 1 = n + 2
    omega
  refine ⟨by omega, by omega, by show 1 ≤ 20; decide, fun k hk => by rw [len, List.mem_singleton.mp hk]; omega, fun r hr => ?_⟩
  rw [len]
  unfold W1 at hr
  rcases List.mem_append.mp hr with hr | hr
  · rcases List.mem_append.mp hr with hr | hr
    · rw [List.mem_singleton.mp hr]
      refine ⟨by show 1 ≤ 20; decide, by show 0 < n + 2; omega, fun p hp => ?_⟩
      rw [List.mem_singleton.mp hp]
      show 1 < n + 2
      omega
    · obtain ⟨k, hk, rfl⟩ := List.mem_map.mp hr
      have := List.mem_range.mp hk
      refine ⟨by show 1 ≤ 20; decide, by show k + 2 < n + 2; omega, fun p hp => ?_⟩
      rw [List.mem_singleton.mp hp]
      show 0 < n + 2
      omega
  · rw [List.mem_singleton.mp hr]
    exact ⟨by show 0 ≤ 20; decide, by show n + 1 < n + 2; omega, fun p hp => absurd hp List.not_mem_nil⟩
section
variable {P : Program} {w : World} {K : PySem.W.Frag} {mg : Str → Option Value} {base : Heap}
theorem ok__law_some_watch (T : Txt K mg) (D__law_draw : Kept P w K mg base 1 "_law_draw" ["d", "many"] spDraw) (D__law_drawn_watch : Kept P w K mg base 3 "_law_drawn_watch" ["d", "marks", "many"] (spDWatch K)) {f : Addr} {fd : FuncData} (F : FnP K "_law_some_watch" s__law_some_watch f fd) : FnOk P w K mg base CX0 4 f fd ["d", "marks", "most"] (spSWatch K) := by
  refine F.ok sc__law_some_watch (fun vs H Q E h => ?_) (fun cdv A outer s H vs Q E hr h => ?_)
  · obtain ⟨S, D, m, n, ms, rfl, _⟩ := h
    rfl
  · obtain ⟨S, D, m, n, ms, rfl, d, nD, hm, m2, m4, n1, n12, q⟩ := h
    refine ⟨_, PSs.nox (pss_cons (ps_set (i := 3) sc__law_some_watch.nd rfl (Or.inl rfl) (pe_d D__law_draw (hr.mono (by decide)) (by rfl) (pa_cons (pv 0) (pa_cons pe_int pa_nil))))
      (pss_cons (ps_set (i := 4) sc__law_some_watch.nd rfl (Or.inl rfl) (pe_ix ix_list (pv 1) pe_int (fun _ _ => rfl)))
      (pss_cons (ps_set (i := 5) sc__law_some_watch.nd rfl (Or.inr rfl) (pe_ix ix_list (pv 1) pe_int (fun _ _ => rfl)))
      (pss_cons (ps_if (pt_cmpR op_eq (pv 3) pe_int (nomark _)) (pss_one (ps_ret (pe_tup (pa_cons pe_str (pa_cons (pe_tup (pa_cons (pe_tup (pa_cons (pe_tup (pa_cons (pv 4) (pa_cons pe_int pa_nil))) (pa_cons (pe_tup (pa_cons pe_non (pa_cons pe_int pa_nil))) pa_nil))) (pa_cons (pe_tup (pa_cons (pe_tup (pa_cons pe_non (pa_cons pe_int pa_nil))) pa_nil)) pa_nil))) (pa_cons (pe_tup (pa_cons pe_int pa_nil)) pa_nil)))))) pss_nil)
      (pss_cons (ps_if (pt_cmpR op_eq (pv 3) pe_int (nomark _)) (pss_cons (ps_set (i := 6) sc__law_some_watch.nd rfl (Or.inl rfl) (pe_op op_add pe_int (pe_d D__law_draw (hr.mono (by decide)) (by rfl) (pa_cons (pv 0) (pa_cons pe_int pa_nil)))))
      (pss_cons (ps_set (i := 7) sc__law_some_watch.nd rfl (Or.inl rfl) (pe_callTy call_tuple_of (by rfl) T.b_tuple (by decide +kernel) (pa_cons (pe_lc (own := [("k", 8)]) (g := (gName 8)) (tt := tYes) rfl sc__law_some_watch.nd (pi_range1 (by rfl) T.b_range (pa_cons (pv 6) pa_nil)) (blkOk_by (N := N__law_some_watch) (sc := defScope s__law_some_watch) (by decide +kernel)) (fun _ _ _ _ _ => (pg_name (i := 8) sc__law_some_watch.nd rfl (Or.inl rfl))) (fun _ _ _ _ _ => pts_nil) (fun _ _ _ _ _ => (pe_tup (pa_cons (pe_tup (pa_cons (pv 5) (pa_cons pe_int pa_nil))) (pa_cons (pe_tup (pa_cons pe_non (pa_cons (pe_op op_add (pv 8) pe_int) pa_nil))) pa_nil))))) pa_nil)))
      (pss_one (ps_ret (pe_tup (pa_cons pe_str (pa_cons (pe_op op_catA (pe_op op_catA (pe_tup (pa_cons (pe_tup (pa_cons (pe_tup (pa_cons (pv 4) (pa_cons pe_int pa_nil))) (pa_cons (pe_tup (pa_cons pe_non (pa_cons pe_int pa_nil))) pa_nil))) pa_nil)) (pv 7)) (pe_tup (pa_cons (pe_tup (pa_cons (pe_tup (pa_cons pe_non (pa_cons (pe_op op_add (pv 6) pe_int) pa_nil))) pa_nil)) pa_nil))) (pa_cons (pe_tup (pa_cons (pe_op op_add (pv 6) pe_int) pa_nil)) pa_nil)))))))) pss_nil)
      (pss_cons (ps_if (pt_cmpR op_eq (pv 3) pe_int (nomark _)) (pss_one (ps_ret (pe_tup (pa_cons pe_str (pa_cons (pe_tup (pa_cons (pe_tup (pa_cons (pe_tup (pa_cons (pv 5) (pa_cons pe_int pa_nil))) (pa_cons (pe_tup (pa_cons (pv 4) (pa_cons pe_int pa_nil))) (pa_cons (pe_tup (pa_cons pe_non (pa_cons pe_int pa_nil))) pa_nil)))) (pa_cons (pe_tup (pa_cons (pe_tup (pa_cons pe_non (pa_cons pe_int pa_nil))) pa_nil)) (pa_cons (pe_tup (pa_cons (pe_tup (pa_cons pe_non (pa_cons pe_int pa_nil))) pa_nil)) pa_nil)))) (pa_cons (pe_tup (pa_cons pe_int pa_nil)) pa_nil)))))) pss_nil)
      (pss_one (ps_ret (pe_d D__law_drawn_watch (hr.mono (by decide)) (by rfl) (pa_cons (pv 0) (pa_cons (pe_op op_cat (pv 1) (pe_lst (pa_cons pe_str pa_nil))) (pa_cons (pe_op op_add pe_int (pe_d D__law_draw (hr.mono (by decide)) (by rfl) (pa_cons (pv 0) (pa_cons (pv 2) pa_nil)))) pa_nil)))))))))))), ?_⟩
    obtain ⟨a, b, mr, rfl⟩ : ∃ a b mr, ms = a :: b :: mr := by
      match ms, m2 with
      | x :: y :: r, _ => exact ⟨x, y, r, rfl⟩
    refine ⟨_, rfl, S, D, 7, rfl, divW_of (by decide) (by decide), d, fun H1 v v0 v1 g1 => ?_⟩
    have hm1 := g1.2 _ _ hm nD
    refine ⟨_, rfl, m, _, _, _, rfl, rfl, SqL.of hm1, atI_nat (j := 0) rfl, _, rfl, m, _, _, _, rfl, rfl, SqL.of hm1, atI_nat (j := 1) rfl, ?_⟩
    refine ⟨_, rfl, rfl, _, rfl, ite2 (fun _ => ?_) (fun _ => ?_)⟩
    · refine ⟨_, rfl, z2, fun p1 h1 => ⟨z2, fun p2 h2 => ⟨z2, fun p3 h3 => ⟨z2, fun p4 h4 => ⟨z1, fun p5 h5 => ⟨z2, fun p6 h6 => ⟨z1, fun p7 h7 => ⟨z3, fun p8 h8 => ?_⟩⟩⟩⟩⟩⟩⟩⟩
      obtain ⟨s1, d1⟩ := new_tup (K := K) (ds := [.str a, .int 1]) h1 (.cons (.str _) (.cons (.int _) .nil))
      obtain ⟨s2, d2⟩ := new_tup (K := K) (ds := [.none, .int 0]) h2 (.cons .non (.cons (.int _) .nil))
      obtain ⟨s3, d3⟩ := new_tup (K := K) h3 (.cons (dp_same s2 _ _ d1) (.cons d2 .nil))
      obtain ⟨s4, d4⟩ := new_tup (K := K) (ds := [.none, .int 1]) h4 (.cons .non (.cons (.int _) .nil))
      obtain ⟨s5, d5⟩ := new_tup (K := K) h5 (.cons d4 .nil)
      obtain ⟨s6, d6⟩ := new_tup (K := K) h6 (.cons (dp_same (s4.trans s5) _ _ d3) (.cons d5 .nil))
      obtain ⟨s7, d7⟩ := new_tup (K := K) (ds := [.int 1]) h7 (.cons (.int _) .nil)
      obtain ⟨s8, d8⟩ := new_tup (K := K) h8 (.cons (.str "watch") (.cons (dp_same s7 _ _ d6) (.cons d7 .nil)))
      exact q _ _ (W0 a) (g1.trans (Go.same g1.1 (s1.trans (s2.trans (s3.trans (s4.trans (s5.trans (s6.trans (s7.trans s8))))))))) d8 (W0_ok a)
    · refine ⟨_, rfl, rfl, _, rfl, ite2 (fun _ => ?_) (fun _ => ?_)⟩
      · refine ⟨_, rfl, S, D, 4, rfl, divW_of (by decide) (by decide), g1.1, fun H2 u u0 u1 g2 => ⟨_, _, rfl, rfl, ?_⟩⟩
        obtain ⟨k, rfl⟩ : ∃ k : Nat, u = k := ⟨u.toNat, by omega⟩
        have g12 := g1.trans g2
        have ek : (1 + (k : Int)).toNat = k + 1 := by omega
        refine ⟨_, rfl, _, rfl, by omega, by omega, fun L hL => lc_range (lo := 0) (n := (1 + (k : Int)).toNat) (fun j H' => Same H2 H' ∧ ∃ zs, H' L = some (.lst zs) ∧ DpAll K H' zs (((List.range j).map fun k => ([(b, 0)], k + 2)).map dWr)) ⟨same_new hL, [], upd_same, .nil⟩ ?_ ?_⟩
        · rintro j H3 hj ⟨s3, zs, hL3, hzs⟩
          have zl := dpA_len hzs
          rw [List.length_map, List.length_map, List.length_range] at zl
          refine ⟨rfl, _, rfl, z2, fun p1 h1 => ⟨_, rfl, _, _, rfl, rfl, z2, fun p2 h2 => ⟨z2, fun p3 h3 => ?_⟩⟩⟩
          obtain ⟨t1, d1⟩ := new_tup (K := K) (ds := [.str b, .int 0]) h1 (.cons (.str _) (.cons (.int _) .nil))
          obtain ⟨t2, d2⟩ := new_tup (K := K) (ds := [.none, .int (0 + (j : Int) + 2)]) h2 (.cons .non (.cons (.int _) .nil))
          obtain ⟨t3, d3⟩ := new_tup (K := K) h3 (.cons (dp_same t2 _ _ d1) (.cons d2 .nil))
          have t13 := t1.trans (t2.trans t3)
          have ed : PyData.tuple [.tuple [.str b, .int 0], .tuple [.none, .int (0 + (j : Int) + 2)]] = dWr ([(b, 0)], j + 2) := by
            show _ = PyData.tuple [.tuple [.str b, .int ((0 : Nat) : Int)], .tuple [.none, .int ((j + 2 : Nat) : Int)]]
            rw [show ((j + 2 : Nat) : Int) = 0 + (j : Int) + 2 by omega]
            rfl
          rw [ed] at d3
          have hL6 := t13 _ _ hL3
          have hzs6 := dpA_same t13 _ _ hzs
          generalize upd (upd (upd H3 p1 _) p2 _) p3 _ = H6 at t13 d3 hL6 hzs6
          have kL := keepT_nt (o := .lst (zs ++ [.ref p3])) (nt_lst _) hL6
          refine ⟨zs, hL6, line6 (by omega), same_mut (s3.trans t13) hL, zs ++ [.ref p3], upd_same, ?_⟩
          rw [List.range_succ, List.map_append, List.map_append]
          exact dpA_snoc (dpA_keep kL _ _ (noLs_wr _) hzs6) (dp_keep kL _ _ (dWr_noL _) d3)
        · rintro H3 ⟨s3, zs, hL3, hzs⟩
          rw [ek] at hzs
          have zl := dpA_len hzs
          rw [List.length_map, List.length_map, List.length_range] at zl
          refine ⟨L, zs, rfl, .inl ⟨SqL.of hL3, fun ps hps => ?_⟩⟩
          obtain ⟨t0, dS⟩ := new_tup (K := K) hps hzs
          have s4 := s3.trans t0
          generalize upd H3 ps (.tup zs) = H4 at t0 dS s4
          refine ⟨_, rfl, z2, fun p1 h1 => ⟨z2, fun p2 h2 => ⟨z2, fun p3 h3 => ⟨z1, fun p4 h4 => ⟨_, rfl, ?_⟩⟩⟩⟩⟩
          obtain ⟨t1, d1⟩ := new_tup (K := K) (ds := [.str a, .int 1]) h1 (.cons (.str _) (.cons (.int _) .nil))
          obtain ⟨t2, d2⟩ := new_tup (K := K) (ds := [.none, .int 0]) h2 (.cons .non (.cons (.int _) .nil))
          obtain ⟨t3, d3⟩ := new_tup (K := K) h3 (.cons (dp_same t2 _ _ d1) (.cons d2 .nil))
          obtain ⟨t4, d4⟩ := new_tup (K := K) h4 (.cons d3 .nil)
          have t14 := t1.trans (t2.trans (t3.trans t4))
          have dS4 := dp_same t14 _ _ dS
          refine catA_mono (cat_W d4 dS4 (by rw [List.length_map, List.length_map, List.length_range]; show 1 + _ ≤ _; omega)) fun v5 H5 hh => ?_
          obtain ⟨t5, d5⟩ := hh
          refine ⟨_, rfl, _, _, rfl, rfl, z2, fun p6 h6 => ⟨z1, fun p7 h7 => ⟨z1, fun p8 h8 => ?_⟩⟩⟩
          obtain ⟨t6, d6⟩ := new_tup (K := K) (ds := [.none, .int (1 + (k : Int) + 1)]) h6 (.cons .non (.cons (.int _) .nil))
          obtain ⟨t7, d7⟩ := new_tup (K := K) h7 (.cons d6 .nil)
          obtain ⟨t8, d8⟩ := new_tup (K := K) h8 (.cons d7 .nil)
          have t68 := t6.trans (t7.trans t8)
          refine catA_mono (cat_W (dp_same t68 _ _ d5) d8 (by rw [List.length_append, List.length_map, List.length_map, List.length_range]; show 1 + _ + 1 ≤ _; omega)) fun v9 H9 hh => ?_
          obtain ⟨t9, d9⟩ := hh
          refine ⟨_, rfl, _, _, rfl, rfl, z1, fun pA hA => ⟨z3, fun pB hB => ?_⟩⟩
          obtain ⟨tA, dA⟩ := new_tup (K := K) (ds := [.int (1 + (k : Int) + 1)]) hA (.cons (.int _) .nil)
          obtain ⟨tB, dB⟩ := new_tup (K := K) hB (.cons (.str "watch") (.cons (dp_same tA _ _ d9) (.cons dA .nil)))
          have all := s4.trans (t14.trans (t5.trans (t68.trans (t9.trans (tA.trans tB)))))
          have ei : (1 + (k : Int) + 1) = ((k + 1 + 1 : Nat) : Int) := by omega
          refine q _ _ (W1 a b (k + 1)) (g12.trans (Go.same g12.1 all)) ?_ (W1_ok a b (by omega))
          rw [ei] at dB
          have er : (W1 a b (k + 1)).rows.map dWr = [dWr ([(a, 1)], 0)] ++ ((List.range (k + 1)).map fun k => ([(b, 0)], k + 2)).map dWr ++ [dWr ([], k + 1 + 1)] := by
            unfold W1
            rw [List.map_append, List.map_append]
            rfl
          show Dp K _ _ (.tuple [.str "watch", .tuple ((W1 a b (k + 1)).rows.map dWr), dNs (W1 a b (k + 1)).bad])
          rw [er]
          exact dB
      · refine ⟨_, rfl, rfl, _, rfl, ite2 (fun _ => ?_) (fun _ => ?_)⟩
        · refine ⟨_, rfl, z2, fun p1 h1 => ⟨_, rfl, z2, fun p2 h2 => ⟨z2, fun p3 h3 => ⟨z3, fun p4 h4 => ⟨z2, fun p5 h5 => ⟨z1, fun p6 h6 => ⟨z2, fun p7 h7 => ⟨z1, fun p8 h8 => ⟨z3, fun p9 h9 => ⟨z1, fun pA hA => ⟨z3, fun pB hB => ?_⟩⟩⟩⟩⟩⟩⟩⟩⟩⟩⟩
          obtain ⟨s1, d1⟩ := new_tup (K := K) (ds := [.str b, .int 1]) h1 (.cons (.str _) (.cons (.int _) .nil))
          obtain ⟨s2, d2⟩ := new_tup (K := K) (ds := [.str a, .int 2]) h2 (.cons (.str _) (.cons (.int _) .nil))
          obtain ⟨s3, d3⟩ := new_tup (K := K) (ds := [.none, .int 0]) h3 (.cons .non (.cons (.int _) .nil))
          obtain ⟨s4, d4⟩ := new_tup (K := K) h4 (.cons (dp_same (s2.trans s3) _ _ d1) (.cons (dp_same s3 _ _ d2) (.cons d3 .nil)))
          obtain ⟨s5, d5⟩ := new_tup (K := K) (ds := [.none, .int 1]) h5 (.cons .non (.cons (.int _) .nil))
          obtain ⟨s6, d6⟩ := new_tup (K := K) h6 (.cons d5 .nil)
          obtain ⟨s7, d7⟩ := new_tup (K := K) (ds := [.none, .int 2]) h7 (.cons .non (.cons (.int _) .nil))
          obtain ⟨s8, d8⟩ := new_tup (K := K) h8 (.cons d7 .nil)
          have s58 := s5.trans (s6.trans (s7.trans s8))
          obtain ⟨s9, d9⟩ := new_tup (K := K) h9 (.cons (dp_same s58 _ _ d4) (.cons (dp_same (s7.trans s8) _ _ d6) (.cons d8 .nil)))
          obtain ⟨sA, dA⟩ := new_tup (K := K) (ds := [.int 2]) hA (.cons (.int _) .nil)
          obtain ⟨sB, dB⟩ := new_tup (K := K) hB (.cons (.str "watch") (.cons (dp_same sA _ _ d9) (.cons dA .nil)))
          exact q _ _ (W2 a b) (g1.trans (Go.same g1.1 (s1.trans (s2.trans (s3.trans (s4.trans (s58.trans (s9.trans (sA.trans sB))))))))) dB (W2_ok a b)
        · refine ⟨_, rfl, _, rfl, z1, fun p1 h1 => ?_⟩
          have s1 := same_new (o := .lst [.str "zz"]) h1
          have hp1 := upd_same (H := H1) (a := p1) (o := .lst [.str "zz"])
          generalize upd H1 p1 (.lst [.str "zz"]) = H2 at s1 hp1
          refine ⟨m, p1, _, _, rfl, rfl, s1 _ _ hm1, hp1, line5 (by rw [List.length_map]; show _ + 1 ≤ _; omega), fun p2 h2 => ?_⟩
          have s2 := s1.trans (same_new (o := .lst ((a :: b :: mr).map V.str ++ [.str "zz"])) h2)
          have hp2 := upd_same (H := H2) (a := p2) (o := .lst ((a :: b :: mr).map V.str ++ [.str "zz"]))
          have g2 := Go.same g1.1 s2
          have p2D := (g1.1.free (s1.free h2)).1
          generalize upd H2 p2 (.lst ((a :: b :: mr).map V.str ++ [.str "zz"])) = H3 at s2 hp2 g2
          refine ⟨_, rfl, _, rfl, S, D, n, rfl, divW_of (by omega) (by omega), g2.1, fun H4 u u0 u1 g4 => ⟨_, _, rfl, rfl, ?_⟩⟩
          refine ⟨S, D, p2, _, (a :: b :: mr) ++ [("zz" : Str)], rfl, g4.1, p2D, ?_, ?_, ?_, by omega, by omega, fun H5 v W g5 hv okW _ => q _ v W (((g1.trans g2).trans g4).trans g5) hv okW⟩
          · rw [g4.2 _ _ hp2 p2D, List.map_append]
            rfl
          · rw [List.length_append]
            show 2 ≤ _ + 1
            omega
          · rw [List.length_append]
            show _ + 1 ≤ 10
            omega
end
end Mt
namespace Mt
open PySem PySem.Spec PyProof.Rows L2
def spLadder (K : PySem.W.Frag) : Sp := fun vs H Q _ => ∃ (S D m : Addr) (base n : Int) (ms : List Str), vs = [.ref D, .int base, .int n, .ref m] ∧ DrawAt S D H ∧ m ≠ D ∧ H m = some (.lst (ms.map V.str)) ∧ 1 ≤ ms.length ∧ ms.length ≤ 9 ∧ 2 ≤ base ∧ base ≤ 6 ∧ 1 ≤ n ∧ n ≤ 50 ∧
  ∀ (H' : Hp) (v : V) (C : Chn), Go S D H H' → Dp K H' v (dChn base C) → ChnOk base C → Q v H'
def spSomeC (K : PySem.W.Frag) : Sp := fun vs H Q _ => ∃ (S D m : Addr) (n : Int) (ms : List Str), vs = [.ref D, .ref m, .int n] ∧ DrawAt S D H ∧ m ≠ D ∧ H m = some (.lst (ms.map V.str)) ∧ 1 ≤ ms.length ∧ ms.length ≤ 9 ∧ 1 ≤ n ∧ n ≤ 50 ∧
  ∀ (H' : Hp) (v : V) (base : Int) (C : Chn), Go S D H H' → Dp K H' v (dChn base C) → ChnOk base C → Q v H'
theorem cut_from {xs : List V} {k : Nat} (h : k ≤ xs.length) : cutV xs (some (k : Int)) none = xs.drop k := by
  unfold cutV
  rw [HT.sIx_none, HT.sIx_nat, Nat.min_eq_left h]
  exact List.take_of_length_le (by rw [List.length_drop]; exact Nat.le_refl _)
section
variable {P : Program} {w : World} {K : PySem.W.Frag} {mg : Str → Option Value} {base : Heap}
theorem ok__law_ladder (T : Txt K mg) (D__law_draw : Kept P w K mg base 1 "_law_draw" ["d", "many"] spDraw) (D__law_pick : Kept P w K mg base 2 "_law_pick" ["d", "row"] (spPick K)) (D__law_words : Kept P w K mg base 2 "_law_words" ["d", "base", "many"] (spWords K)) {f : Addr} {fd : FuncData} (F : FnP K "_law_ladder" s__law_ladder f fd) : FnOk P w K mg base CX0 3 f fd ["d", "base", "states", "marks"] (spLadder K) := by
  refine F.ok sc__law_ladder (fun vs H Q E h => ?_) (fun cdv A outer s H vs Q E hr h => ?_)
  · obtain ⟨S, D, m, b, n, ms, rfl, _⟩ := h
    rfl
  · obtain ⟨S, D, m, b, n, ms, rfl, d, nD, hm, h0, h1, b2, b6, n1, n2, q⟩ := h
    refine ⟨_, PSs.nox (pss_cons (ps_set (i := 4) sc__law_ladder.nd rfl (Or.inl rfl) (pe_lst pa_nil))
      (pss_cons (ps_for PassesOwn.never rfl (pi_range1 (by rfl) T.b_range (pa_cons (pv 2) pa_nil)) (pg_name (i := 5) sc__law_ladder.nd rfl (Or.inl rfl)) (pss_cons (ps_set (i := 6) sc__law_ladder.nd rfl (Or.inl rfl) (pe_d D__law_words (hr.mono (by decide)) (by rfl) (pa_cons (pv 0) (pa_cons (pv 1) (pa_cons (pe_op op_add pe_int (pe_d D__law_draw (hr.mono (by decide)) (by rfl) (pa_cons (pv 0) (pa_cons pe_int pa_nil)))) pa_nil)))))
      (pss_cons (ps_set (i := 7) sc__law_ladder.nd rfl (Or.inl rfl) (pe_d D__law_draw (hr.mono (by decide)) (by rfl) (pa_cons (pv 0) (pa_cons (pe_callB call_len (by rfl) T.b_len (by decide +kernel) (pa_cons (pv 6) pa_nil)) pa_nil))))
      (pss_cons (ps_set (i := 8) sc__law_ladder.nd rfl (Or.inl rfl) (pe_lst pa_nil))
      (pss_cons (ps_for PassesOwn.never rfl (pi_range1 (by rfl) T.b_range (pa_cons (pe_callB call_len (by rfl) T.b_len (by decide +kernel) (pa_cons (pv 6) pa_nil)) pa_nil)) (pg_name (i := 9) sc__law_ladder.nd rfl (Or.inl rfl)) (pss_cons (ps_set (i := 10) sc__law_ladder.nd rfl (Or.inl rfl) (pe_tup pa_nil))
      (pss_cons (ps_set (i := 11) sc__law_ladder.nd rfl (Or.inl rfl) (pe_d D__law_draw (hr.mono (by decide)) (by rfl) (pa_cons (pv 0) (pa_cons (pe_op op_add (pv 5) pe_int) pa_nil))))
      (Evl.pss_cut (ps_if (PW.pt (pw_or (pt_cmpR op_eq (pv 9) (pv 7) (nomark _)) (pw_or1 (pt_cmpR op_eq (pe_d D__law_draw (hr.mono (by decide)) (by rfl) (pa_cons (pv 0) (pa_cons pe_int pa_nil))) pe_int (nomark _))))) (pss_cons (ps_set (i := 11) sc__law_ladder.nd rfl (Or.inl rfl) (pe_callB (call_min2 rfl) (by rfl) T.b_min (by decide +kernel) (pa_cons (pe_op op_add (pv 5) pe_int) (pa_cons (pe_op op_sub (pv 2) pe_int) pa_nil))))
      (pss_one (ps_if (pt_cmpR op_eq (pv 5) (pe_op op_sub (pv 2) pe_int) (nomark _)) (pss_one (ps_set (i := 10) sc__law_ladder.nd rfl (Or.inl rfl) (pe_tup (pa_cons (pe_ix ix_list (pv 3) pe_int (fun _ _ => rfl)) pa_nil)))) pss_nil))) (pss_one (ps_if (pt_cmpR op_eq (pe_d D__law_draw (hr.mono (by decide)) (by rfl) (pa_cons (pv 0) (pa_cons pe_int pa_nil))) pe_int (nomark _)) (pss_one (ps_set (i := 10) sc__law_ladder.nd rfl (Or.inl rfl) (pe_tup (pa_cons (pe_d D__law_pick (hr.mono (by decide)) (by rfl) (pa_cons (pv 0) (pa_cons (pe_op op_cat (pe_slice sl_list (pv 3) (po_some pe_int) po_none) (pe_lst (pa_cons pe_str pa_nil))) pa_nil))) pa_nil)))) pss_nil)))
      (pss_one (ps_expr (pe_bm PySem.F.plainAttrs_list PySem.F.slot_list_append PySem.F.type_list_append mt_append (pv 8) (pa_cons (pe_tup (pa_cons (pe_ix ix_list (pv 6) (pv 9) (fun _ _ => rfl)) (pa_cons (pv 10) (pa_cons (pv 11) pa_nil)))) pa_nil))))))))
      (pss_one (ps_expr (pe_bm PySem.F.plainAttrs_list PySem.F.slot_list_append PySem.F.type_list_append mt_append (pv 4) (pa_cons (pe_callTy call_tuple_of (by rfl) T.b_tuple (by decide +kernel) (pa_cons (pv 8) pa_nil)) pa_nil)))))))))
      (pss_one (ps_ret (pe_tup (pa_cons pe_str (pa_cons (pv 1) (pa_cons (pe_callTy call_tuple_of (by rfl) T.b_tuple (by decide +kernel) (pa_cons (pv 4) pa_nil)) pa_nil)))))))), ?_⟩
    refine ⟨Nat.zero_le _, fun L hL => ?_⟩
    have g1 := Go.new (o := .lst []) d hL
    have LD := (d.free hL).1
    refine ⟨_, rfl, _, rfl, by omega, by omega, for_range (lo := 0) (n := n.toNat) (fun i σ H' => ∃ (y5 y6 y7 y8 y9 y10 y11 : Option V) (zs : List V) (C : Chn), σ = [some (.ref D), some (.int b), some (.int n), some (.ref m), some (.ref L), y5, y6, y7, y8, y9, y10, y11] ∧ Go S D H H' ∧ H' L = some (.lst zs) ∧ DpAll K H' zs (C.map dRw) ∧ C.length = i ∧ ∀ r ∈ C, RwOk b n.toNat r) ⟨_, _, _, _, _, _, _, [], [], rfl, g1, upd_same, .nil, rfl, fun _ h => absurd h List.not_mem_nil⟩ ?_ ?_⟩
    · rintro i σ H1 hi ⟨y5, y6, y7, y8, y9, y10, y11, zs, C, rfl, g, hL1, hzs, hC, hCr⟩
      have zl := dpA_len hzs
      rw [List.length_map] at zl
      refine ⟨_, rfl, _, rfl, _, rfl, S, D, 2, rfl, divW_of (by decide) (by decide), g.1, fun H3 mm m0 m1 g3 => ⟨_, _, rfl, rfl, S, D, b, 1 + mm, rfl, g3.1, b2, b6, by omega, by omega, fun H4 Lw xs ws g4 hLw0 hLw hA hc w0 w1 => ?_⟩⟩
      have g34 := g3.trans g4
      have LwD := (g3.1.free hLw0).1
      have Lw0 : H1 Lw = none := g3.free g.1 hLw0
      have xl := dpA_len hA
      rw [List.length_map] at xl
      refine ⟨_, rfl, _, rfl, _, _, rfl, .inl ⟨_, SqL.of hLw, rfl⟩, S, D, _, rfl, divW_of (by omega) (by omega), g34.1, fun H5 up u0 u1 g5 => ?_⟩
      have g35 := g34.trans g5
      have hLw5 := g5.2 _ _ hLw LwD
      have hA5 := dpA_keep (Go.keepT g34.1 g5) _ _ (noLs_I ws) hA
      refine ⟨Nat.zero_le _, fun f hf => ?_⟩
      have fD := (g35.1.free hf).1
      have f0 : H1 f = none := g35.free g.1 hf
      have g6 := g35.trans (Go.new (o := .lst []) g35.1 hf)
      have hf6 := upd_same (H := H5) (a := f) (o := .lst [])
      have LwF : Lw ≠ f := ne_of_none hLw5 hf
      have hLw6 := same_new (o := .lst []) hf _ _ hLw5
      have hA6 := dpA_same (same_new (o := .lst []) hf) _ _ hA5
      generalize upd H5 f (.lst []) = H6 at g6 hf6 hLw6 hA6
      refine ⟨_, rfl, _, _, rfl, .inl ⟨_, SqL.of hLw6, rfl⟩, _, rfl, by omega, by omega, for_range (lo := 0) (n := xs.length) (fun j σ H' => ∃ (y9 y10 y11 : Option V) (qs : List V) (r : List Br), σ = [some (.ref D), some (.int b), some (.int n), some (.ref m), some (.ref L), some (.int (0 + (i : Int))), some (.ref Lw), some (.int up), some (.ref f), y9, y10, y11] ∧ Go S D H1 H' ∧ H' Lw = some (.lst xs) ∧ DpAll K H' xs (ws.map dI) ∧ H' f = some (.lst qs) ∧ DpAll K H' qs (r.map dBr) ∧ r.map (·.1) = ws.take j ∧ ∀ b ∈ r, b.2.2 < n.toNat ∧ b.2.1.length ≤ 6) ⟨_, _, _, [], [], rfl, g6, hLw6, hA6, hf6, .nil, rfl, fun _ h => absurd h List.not_mem_nil⟩ ?_ ?_⟩
      · rintro j σ H7 hj ⟨y9, y10, y11, qs, r, rfl, g7, hLw7, hA7, hf7, hr7, er, hrr⟩
        have hjw : ws[j]? = some (ws[j]'(by omega)) := List.getElem?_eq_getElem _
        generalize ws[j]'(by omega) = wd at hjw
        obtain ⟨x, hxj, hx⟩ := dpA_get hA7 hjw
        have hm7 := (g.trans g7).2 _ _ hm nD
        refine ⟨Nat.zero_le _, fun p0 hp0 => ?_⟩
        have s8 := same_new (o := .tup []) hp0
        have g8 := Go.same g7.1 s8
        have hp08 := upd_same (H := H7) (a := p0) (o := .tup [])
        generalize upd H7 p0 (.tup []) = H8 at s8 g8 hp08
        refine ⟨_, rfl, _, rfl, _, _, rfl, rfl, S, D, _, rfl, divW_of (by omega) (by omega), g8.1, fun H9 th t0 t1 g9 => ?_⟩
        have g89 := g8.trans g9
        have p0D := (g7.1.free hp0).1
        refine ⟨fun σ' H' => ∃ (vs : V) (ss : List Str) (t : Int), σ' = [some (.ref D), some (.int b), some (.int n), some (.ref m), some (.ref L), some (.int (0 + (i : Int))), some (.ref Lw), some (.int up), some (.ref f), some (.int (0 + (j : Int))), some vs, some (.int t)] ∧ Go S D H7 H' ∧ Dp K H' vs (dSh ss) ∧ ss.length ≤ 6 ∧ 0 ≤ t ∧ t < n, ?_, ?_⟩
        · have d0 : ∀ H', Go S D H7 H' → Go S D H8 H' → Dp K H' (.ref p0) (dSh []) := fun H' _ g => .tup (sqt_keep (Go.keepT g8.1 g) (SqT.of hp08)) .nil
          have up1 : ∀ H' : Hp, Go S D H8 H' → (∃ (vs : V) (ss : List Str) (t : Int), [some (V.ref D), some (.int b), some (.int n), some (.ref m), some (.ref L), some (.int (0 + (i : Int))), some (.ref Lw), some (.int up), some (.ref f), some (.int (0 + (j : Int))), some (.ref p0), some (.int th)] = [some (.ref D), some (.int b), some (.int n), some (.ref m), some (.ref L), some (.int (0 + (i : Int))), some (.ref Lw), some (.int up), some (.ref f), some (.int (0 + (j : Int))), some vs, some (.int t)] ∧ Go S D H7 H' ∧ Dp K H' vs (dSh ss) ∧ ss.length ≤ 6 ∧ 0 ≤ t ∧ t < n) := fun H' g => ⟨.ref p0, [], th, rfl, g8.trans g, d0 _ (g8.trans g) g, by decide, t0, by omega⟩
          refine ⟨_, rfl, _, rfl, rfl, _, rfl, ?_⟩
          refine ite2 (fun _ => ?_) (fun _ => ?_)
          · have gk := g9
            have gy := gk
            have hmy : H9 m = some (.lst (ms.map V.str)) := (g8.trans gy).2 _ _ hm7 nD
            refine ⟨_, rfl, _, _, rfl, rfl, _, rfl, _, _, rfl, rfl, _, _, rfl, ?_⟩
            have tz : ∃ z : Int, (if n - 1 < 0 + (i : Int) + 1 then n - 1 else 0 + (i : Int) + 1) = z ∧ 0 ≤ z ∧ z < n := ⟨_, rfl, by split <;> omega, by split <;> omega⟩
            obtain ⟨z, ez, z0', z1'⟩ := tz
            rw [ez]
            refine ⟨_, rfl, _, rfl, _, _, rfl, rfl, rfl, _, rfl, ite2 (fun _ => ?_) (fun _ => ?_)⟩
            · obtain ⟨a, ar, rfl⟩ : ∃ a ar, ms = a :: ar := by
                match ms, h0 with
                | a :: ar, _ => exact ⟨a, ar, rfl⟩
              refine ⟨_, rfl, m, _, _, _, rfl, rfl, SqL.of hmy, atI_nat (j := 0) rfl, z1, fun pz hpz => ?_⟩
              exact ⟨.ref pz, [a], z, rfl, (g8.trans gy).trans (Go.new gy.1 hpz), .tup (SqT.of upd_same) (.cons (.str _) .nil), by show 1 ≤ 6; decide, z0', z1'⟩
            · exact ⟨.ref p0, [], z, rfl, g8.trans gy, d0 _ (g8.trans gy) gy, by decide, z0', z1'⟩
          · refine ⟨_, rfl, S, D, 4, rfl, divW_of (by decide) (by decide), g9.1, fun HA w1' w2' w3' gA => ⟨rfl, _, rfl, ite2 (fun _ => ?_) (fun _ => ?_)⟩⟩
            · have gk := g9.trans gA
              have gy := gk
              have hmy : HA m = some (.lst (ms.map V.str)) := (g8.trans gy).2 _ _ hm7 nD
              refine ⟨_, rfl, _, _, rfl, rfl, _, rfl, _, _, rfl, rfl, _, _, rfl, ?_⟩
              have tz : ∃ z : Int, (if n - 1 < 0 + (i : Int) + 1 then n - 1 else 0 + (i : Int) + 1) = z ∧ 0 ≤ z ∧ z < n := ⟨_, rfl, by split <;> omega, by split <;> omega⟩
              obtain ⟨z, ez, z0', z1'⟩ := tz
              rw [ez]
              refine ⟨_, rfl, _, rfl, _, _, rfl, rfl, rfl, _, rfl, ite2 (fun _ => ?_) (fun _ => ?_)⟩
              · obtain ⟨a, ar, rfl⟩ : ∃ a ar, ms = a :: ar := by
                  match ms, h0 with
                  | a :: ar, _ => exact ⟨a, ar, rfl⟩
                refine ⟨_, rfl, m, _, _, _, rfl, rfl, SqL.of hmy, atI_nat (j := 0) rfl, z1, fun pz hpz => ?_⟩
                exact ⟨.ref pz, [a], z, rfl, (g8.trans gy).trans (Go.new gy.1 hpz), .tup (SqT.of upd_same) (.cons (.str _) .nil), by show 1 ≤ 6; decide, z0', z1'⟩
              · exact ⟨.ref p0, [], z, rfl, g8.trans gy, d0 _ (g8.trans gy) gy, by decide, z0', z1'⟩
            · refine ⟨_, rfl, S, D, 2, rfl, divW_of (by decide) (by decide), gA.1, fun HB w4' w5' w6' gB => ⟨rfl, _, rfl, ite2 (fun _ => ?_) (fun _ => ?_)⟩⟩
              · have gy := (g9.trans gA).trans gB
                have hmB := (g8.trans gy).2 _ _ hm7 nD
                refine ⟨_, rfl, _, rfl, _, rfl, m, _, rfl, SqL.of hmB, fun p1 hp1 => ?_⟩
                have ec : cutV (ms.map V.str) (some 1) none = (ms.drop 1).map V.str := by
                  rw [show (some 1 : Option Int) = some ((1 : Nat) : Int) from rfl, cut_from (by rw [List.length_map]; exact h0), List.map_drop]
                rw [ec]
                have c1 := Go.new (o := .lst ((ms.drop 1).map V.str)) gy.1 hp1
                have e1 := upd_same (H := HB) (a := p1) (o := .lst ((ms.drop 1).map V.str))
                generalize upd HB p1 (.lst ((ms.drop 1).map V.str)) = HC at c1 e1
                refine ⟨z1, fun p2 hp2 => ?_⟩
                have c2 := c1.trans (Go.new (o := .lst [.str "zz"]) c1.1 hp2)
                have e2 := upd_same (H := HC) (a := p2) (o := .lst [.str "zz"])
                have e12 := same_new (o := .lst [.str "zz"]) hp2 _ _ e1
                generalize upd HC p2 (.lst [.str "zz"]) = HD at c2 e2 e12
                refine ⟨p1, p2, _, _, rfl, rfl, e12, e2, line5 (by rw [List.length_map, List.length_drop]; show _ + 1 ≤ _; omega), fun p3 hp3 => ?_⟩
                have c3 := c2.trans (Go.new (o := .lst ((ms.drop 1).map V.str ++ [.str "zz"])) c2.1 hp3)
                have e3 := upd_same (H := HD) (a := p3) (o := .lst ((ms.drop 1).map V.str ++ [.str "zz"]))
                have p3D := (c2.1.free hp3).1
                generalize upd HD p3 (.lst ((ms.drop 1).map V.str ++ [.str "zz"])) = HE at c3 e3
                refine ⟨S, D, .ref p3, _, rfl, c3.1, fun H' g => .inr (.inl ⟨p3, rfl, SqL.of (g.2 _ _ e3 p3D)⟩), by rw [List.length_append]; show 0 < _ + 1; omega, by rw [List.length_append, List.length_map, List.length_drop]; show _ + 1 ≤ _; omega, fun HF x hx gF => ⟨z1, fun pz hpz => ?_⟩⟩
                obtain ⟨zz, rfl⟩ : ∃ zz, x = V.str zz := by
                  rcases List.mem_append.mp hx with h | h
                  · obtain ⟨zz, _, rfl⟩ := List.mem_map.mp h
                    exact ⟨zz, rfl⟩
                  · exact ⟨_, List.mem_singleton.mp h⟩
                have all := ((g8.trans gy).trans c3).trans gF
                exact ⟨.ref pz, [zz], th, rfl, all.trans (Go.new all.1 hpz), .tup (SqT.of upd_same) (.cons (.str _) .nil), by show 1 ≤ 6; decide, t0, by omega⟩
              · exact up1 _ ((g9.trans gA).trans gB)
        · rintro σ' H9 ⟨vs, ss, t, rfl, g9, hvs, hss, t0, t1⟩
          have hLw9 := g9.2 _ _ hLw7 LwD
          have hf9 := g9.2 _ _ hf7 fD
          have k9 := Go.keepT g7.1 g9
          have xj0 : xs[j]? = some x := hxj
          have ql := dpA_len hr7
          rw [List.length_map] at ql
          have rl : r.length = j := by
            have := congrArg List.length er
            rw [List.length_map, List.length_take] at this
            omega
          refine ⟨_, rfl, .inl ⟨rfl, _, SqL.of hf9⟩, _, rfl, _, rfl, Lw, _, _, _, rfl, rfl, SqL.of hLw9, (by rw [Int.zero_add]; exact atI_nat xj0), _, rfl, _, rfl, z3, fun pb hpb => ?_⟩
          have gb := g9.trans (Go.new (o := .tup [x, vs, .int t]) g9.1 hpb)
          have hpbA := upd_same (H := H9) (a := pb) (o := .tup [x, vs, .int t])
          have sA := same_new (o := .tup [x, vs, .int t]) hpb
          generalize upd H9 pb (.tup [x, vs, .int t]) = HA at gb hpbA sA
          have kA := Go.keepT g7.1 gb
          have hfA := sA _ _ hf9
          have kf := keepT_nt (o := .lst (qs ++ [.ref pb])) (nt_lst _) hfA
          have dB : Dp K HA (.ref pb) (dBr (wd, ss, t.toNat)) := by
            have e1 : PyData.int ((t.toNat : Nat) : Int) = .int t := by rw [Int.toNat_of_nonneg t0]
            show Dp K HA (.ref pb) (.tuple [dI wd, dSh ss, .int ((t.toNat : Nat) : Int)])
            rw [e1]
            exact .tup (SqT.of hpbA) (.cons (dp_keep kA _ _ (dI_noL wd) hx) (.cons (dp_same sA _ _ hvs) (.cons (.int _) .nil)))
          refine ⟨f, qs, _, rfl, rfl, hfA, line6 (by omega), _, _, _, qs ++ [.ref pb], r ++ [(wd, ss, t.toNat)], rfl, goU f0 g.1 (g7.trans gb), ?_, dpA_keep kf _ _ (noLs_I ws) (dpA_keep kA _ _ (noLs_I ws) hA7), upd_same, ?_, ?_, fun y hy => ?_⟩
          · rw [upd_ne LwF]
            exact sA _ _ hLw9
          · rw [List.map_append]
            exact dpA_snoc (dpA_keep kf _ _ (noLs_br r) (dpA_keep kA _ _ (noLs_br r) hr7)) (dp_keep kf _ _ (dBr_noL _) dB)
          · rw [List.map_append, er, List.take_add_one, hjw]
            rfl
          · rcases List.mem_append.mp hy with h | h
            · exact hrr y h
            · rw [List.mem_singleton.mp h]
              exact ⟨by show t.toNat < n.toNat; omega, hss⟩
      · rintro σ H5 ⟨y9, y10, y11, qs, r, rfl, g5, hLw5, hA5, hf5, hr5, er, hrr⟩
        rw [xl, List.take_length] at er
        have rl : r.length = ws.length := by
          rw [← er, List.length_map]
        have gg := g.trans g5
        have hL5 := g5.2 _ _ hL1 LD
        refine ⟨_, rfl, .inl ⟨rfl, _, SqL.of hL5⟩, _, rfl, f, qs, rfl, .inl ⟨SqL.of hf5, fun pr hpr => ?_⟩⟩
        have gp := Go.new (o := .tup qs) g5.1 hpr
        have kp := Go.keepT g5.1 gp
        have hpr6 := upd_same (H := H5) (a := pr) (o := .tup qs)
        have hL6 := gp.2 _ _ hL5 LD
        generalize upd H5 pr (.tup qs) = H6' at gp kp hpr6 hL6
        have kL := keepT_nt (o := .lst (zs ++ [.ref pr])) (nt_lst _) hL6
        refine ⟨L, zs, _, rfl, rfl, hL6, line6 (by omega), _, _, _, _, _, _, _, zs ++ [.ref pr], C ++ [r], rfl, goU hL d (gg.trans gp), upd_same, ?_, by rw [List.length_append, hC]; rfl, fun x hx => ?_⟩
        · rw [List.map_append]
          exact dpA_snoc (dpA_keep kL _ _ (noLs_rw C) (dpA_keep (Go.keepT g.1 (g5.trans gp)) _ _ (noLs_rw C) hzs)) (dp_keep kL _ _ (dRw_noL _) (.tup (SqT.of hpr6) (dpA_keep kp _ _ (noLs_br r) hr5)))
        · rcases List.mem_append.mp hx with h | h
          · exact hCr x h
          · rw [List.mem_singleton.mp h]
            exact ⟨by omega, by omega, hrr, by rw [er]; exact hc⟩
    · rintro σ H1 ⟨y5, y6, y7, y8, y9, y10, y11, zs, C, rfl, g, hL1, hzs, hC, hCr⟩
      refine ⟨_, rfl, _, rfl, L, zs, rfl, .inl ⟨SqL.of hL1, fun pq hpq => ⟨by show 3 ≤ sizeLine; decide, fun pw hpw => ?_⟩⟩⟩
      have gq := Go.new (o := .tup zs) g.1 hpq
      have gw := gq.trans (Go.new (o := .tup [.str "chain", .int b, .ref pq]) gq.1 hpw)
      have hpq2 := same_new (o := .tup [.str "chain", .int b, .ref pq]) hpw _ _ (upd_same (H := H1) (a := pq) (o := .tup zs))
      refine q _ _ C (g.trans gw) (.tup (SqT.of upd_same) (.cons (.str _) (.cons (.int _) (.cons (.tup (SqT.of hpq2) (dpA_keep (Go.keepT g.1 gw) _ _ (noLs_rw C) hzs)) .nil)))) ⟨b2, b6, by omega, by omega, fun r hr => ?_⟩
      rw [hC]
      exact hCr r hr
theorem ok__law_some_chain (T : Txt K mg) (D__law_draw : Kept P w K mg base 1 "_law_draw" ["d", "many"] spDraw) (D__law_rare : Kept P w K mg base 2 "_law_rare" ["d", "many"] spRare) (D__law_ladder : Kept P w K mg base 3 "_law_ladder" ["d", "base", "states", "marks"] (spLadder K)) (D__law_wide_chain : Kept P w K mg base 4 "_law_wide_chain" ["d", "base", "states", "marks"] (spWChain K)) {f : Addr} {fd : FuncData} (F : FnP K "_law_some_chain" s__law_some_chain f fd) : FnOk P w K mg base CX0 5 f fd ["d", "marks", "most"] (spSomeC K) := by
  refine F.ok sc__law_some_chain (fun vs H Q E h => ?_) (fun cdv A outer s H vs Q E hr h => ?_)
  · obtain ⟨S, D, m, n, ms, rfl, _⟩ := h
    rfl
  · obtain ⟨S, D, m, n, ms, rfl, d, nD, hm, h0, h1, n1, n2, q⟩ := h
    refine ⟨_, PSs.nox (pss_cons (ps_set (i := 3) sc__law_some_chain.nd rfl (Or.inl rfl) (pe_op op_add pe_int (pe_d D__law_draw (hr.mono (by decide)) (by rfl) (pa_cons (pv 0) (pa_cons pe_int pa_nil)))))
      (Evl.pss_cut (ps_if (pt_val (pe_d D__law_rare (hr.mono (by decide)) (by rfl) (pa_cons (pv 0) (pa_cons pe_int pa_nil)))) (pss_one (ps_set (i := 3) sc__law_some_chain.nd rfl (Or.inl rfl) pe_int)) pss_nil)
      (pss_cons (ps_set (i := 4) sc__law_some_chain.nd rfl (Or.inl rfl) (pe_op op_add pe_int (pe_d D__law_draw (hr.mono (by decide)) (by rfl) (pa_cons (pv 0) (pa_cons pe_int pa_nil)))))
      (Evl.pss_cut (ps_if (pt_val (pe_d D__law_rare (hr.mono (by decide)) (by rfl) (pa_cons (pv 0) (pa_cons pe_int pa_nil)))) (pss_one (ps_set (i := 4) sc__law_some_chain.nd rfl (Or.inl rfl) (pv 2))) pss_nil)
      (pss_cons (ps_if (pt_cmpR op_eq (pe_d D__law_draw (hr.mono (by decide)) (by rfl) (pa_cons (pv 0) (pa_cons pe_int pa_nil))) pe_int (nomark _)) (pss_one (ps_ret (pe_d D__law_ladder (hr.mono (by decide)) (by rfl) (pa_cons (pv 0) (pa_cons (pv 3) (pa_cons (pv 4) (pa_cons (pv 1) pa_nil))))))) pss_nil)
      (pss_one (ps_ret (pe_d D__law_wide_chain (hr.mono (by decide)) (by rfl) (pa_cons (pv 0) (pa_cons (pv 3) (pa_cons (pv 4) (pa_cons (pv 1) pa_nil)))))))))))), ?_⟩
    refine ⟨_, rfl, S, D, 2, rfl, divW_of (by decide) (by decide), d, fun H1 v v0 v1 g1 => ⟨_, _, rfl, rfl, ?_⟩⟩
    refine ⟨fun σ' H' => ∃ b : Int, σ' = [some (.ref D), some (.ref m), some (.int n), some (.int b), none] ∧ 2 ≤ b ∧ b ≤ 6 ∧ Go S D H H', ?_, ?_⟩
    · refine ⟨_, rfl, S, D, 7, rfl, by decide, by decide, g1.1, fun H2 bb g2 => ⟨bb, rfl, ite2 (fun _ => ?_) (fun _ => ?_)⟩⟩
      · exact ⟨6, rfl, by decide, by decide, g1.trans g2⟩
      · exact ⟨_, rfl, by omega, by omega, g1.trans g2⟩
    · rintro σ' H2 ⟨b, rfl, b2, b6, g2⟩
      refine ⟨_, rfl, S, D, 5, rfl, divW_of (by decide) (by decide), g2.1, fun H3 u u0 u1 g3 => ⟨_, _, rfl, rfl, ?_⟩⟩
      refine ⟨fun σ' H' => ∃ k : Int, σ' = [some (.ref D), some (.ref m), some (.int n), some (.int b), some (.int k)] ∧ 1 ≤ k ∧ k ≤ 50 ∧ Go S D H H', ?_, ?_⟩
      · refine ⟨_, rfl, S, D, 9, rfl, by decide, by decide, g3.1, fun H4 bb g4 => ⟨bb, rfl, ite2 (fun _ => ?_) (fun _ => ?_)⟩⟩
        · exact ⟨_, rfl, n, rfl, n1, n2, (g2.trans g3).trans g4⟩
        · exact ⟨_, rfl, by omega, by omega, (g2.trans g3).trans g4⟩
      · rintro σ' H4 ⟨k, rfl, k1, k2, g4⟩
        refine ⟨_, rfl, S, D, 3, rfl, divW_of (by decide) (by decide), g4.1, fun H5 t t0 t1 g5 => ⟨rfl, _, rfl, ite2 (fun _ => ?_) (fun _ => ?_)⟩⟩
        · have g := g4.trans g5
          exact ⟨_, rfl, _, rfl, _, rfl, _, rfl, S, D, m, b, k, ms, rfl, g.1, nD, g.2 _ _ hm nD, h0, h1, b2, b6, k1, k2, fun H6 v C g6 hv ok => q _ v b C (g.trans g6) hv ok⟩
        · have g := g4.trans g5
          exact ⟨_, rfl, _, rfl, _, rfl, _, rfl, S, D, m, b, k, ms, rfl, g.1, nD, g.2 _ _ hm nD, h0, by omega, b2, b6, k1, k2, fun H6 v C g6 hv ok _ => q _ v b C (g.trans g6) hv ok⟩
end
end Mt
namespace Mt
open PySem PySem.Spec PyProof.Rows L2
theorem nodup_le : ∀ (n : Nat) {l : List Nat}, l.Nodup → (∀ x ∈ l, x < n) → l.length ≤ n
  | 0, l, _, h => by
    cases l with
    | nil => exact Nat.le_refl _
    | cons x r => exact absurd (h x List.mem_cons_self) (Nat.not_lt_zero x)
  | n + 1, l, nd, h => by
    have h2 := nodup_le n (l := l.erase n) (nd.erase n) fun x hx => by
      have h3 := h x (List.mem_of_mem_erase hx)
      have : x ≠ n := fun e => by
        subst e
        exact (List.Nodup.not_mem_erase nd) hx
      omega
    by_cases k : n ∈ l
    · rw [List.length_erase_of_mem k] at h2
      omega
    · rw [List.erase_of_not_mem k] at h2
      omega
def inR (n m : Nat) (p : Pr) : Prop := 0 ≤ p.1 ∧ p.1 < n ∧ 0 ≤ p.2 ∧ p.2 < m
def numP (m : Nat) (p : Pr) : Nat := p.1.toNat * m + p.2.toNat
theorem numP_lt {n m : Nat} {p : Pr} (h : inR n m p) : numP m p < n * m := by
  obtain ⟨h1, h2, h3, h4⟩ := h
  unfold numP
  have a : p.1.toNat + 1 ≤ n := by omega
  have b : p.2.toNat < m := by omega
  have c : (p.1.toNat + 1) * m ≤ n * m := Nat.mul_le_mul_right m a
  rw [Nat.add_mul, Nat.one_mul] at c
  omega
theorem numP_inj {n m : Nat} {p q : Pr} (hp : inR n m p) (hq : inR n m q) (e : numP m p = numP m q) : p = q := by
  obtain ⟨h1, h2, h3, h4⟩ := hp
  obtain ⟨k1, k2, k3, k4⟩ := hq
  unfold numP at e
  have b : p.2.toNat < m := by omega
  have b' : q.2.toNat < m := by omega
  have mp : 0 < m := by omega
  have d1 : (p.1.toNat * m + p.2.toNat) / m = p.1.toNat := by
    rw [Nat.add_comm, Nat.add_mul_div_right _ _ mp, Nat.div_eq_of_lt b, Nat.zero_add]
  have d2 : (q.1.toNat * m + q.2.toNat) / m = q.1.toNat := by
    rw [Nat.add_comm, Nat.add_mul_div_right _ _ mp, Nat.div_eq_of_lt b', Nat.zero_add]
  rw [e, d2] at d1
  have e2 : p.2.toNat = q.2.toNat := by
    rw [d1] at e
    omega
  exact Prod.ext (by omega) (by omega)
theorem pr_few {n m : Nat} {ps : List Pr} (nd : ps.Nodup) (h : ∀ p ∈ ps, inR n m p) : ps.length ≤ n * m := by
  have := nodup_le (n * m) (l := ps.map (numP m)) ?_ fun x hx => ?_
  · rw [List.length_map] at this
    exact this
  · refine List.pairwise_map.mpr ?_
    exact nd.imp_of_mem fun {a b} ha hb hab e => hab (numP_inj (h a ha) (h b hb) e)
  · obtain ⟨p, hp, rfl⟩ := List.mem_map.mp hx
    exact numP_lt (h p hp)
theorem PrA.nt {H : Hp} {d : Addr} {o o2 : HO} {x : V} {p : Pr} (nt : NT o2) (hd : H d = some o2) (h : PrA H x p) : PrA (upd H d o) x p := by
  obtain ⟨q, e, h⟩ := h
  refine ⟨q, e, ?_⟩
  rw [upd_ne fun k => ?_]
  · exact h
  · rw [k, hd] at h
    exact nt.1 _ (Option.some.inj h)
theorem PrAs.nt {H : Hp} {d : Addr} {o o2 : HO} {xs : List V} {ps : List Pr} (nt : NT o2) (hd : H d = some o2) (h : PrAs H xs ps) : PrAs (upd H d o) xs ps := h.imp fun _ _ => PrA.nt nt hd
theorem PrAs.snoc {H : Hp} {x : V} {p : Pr} : ∀ {xs : List V} {ps : List Pr}, PrAs H xs ps → PrA H x p → PrAs H (xs ++ [x]) (ps ++ [p]) := fun {xs ps} h hx => by
  induction h with
  | nil => exact .cons hx .nil
  | cons a _ ih => exact .cons a ih
theorem PrAs.get {H : Hp} {xs : List V} {ps : List Pr} {i : Nat} {p : Pr} (h : PrAs H xs ps) (e : ps[i]? = some p) : ∃ x, xs[i]? = some x ∧ PrA H x p := by
  have il := (List.getElem?_eq_some_iff.mp e).1
  have l := h.len
  have hx : xs[i]? = some (xs[i]'(by omega)) := List.getElem?_eq_getElem _
  obtain ⟨q, hq, hp⟩ := h.at hx
  rw [e] at hq
  exact ⟨_, hx, by rw [Option.some.inj hq]; exact hp⟩
/-- what is met so far: the list at L, the dict at d -/
structure MetAt (n m : Nat) (H : Hp) (L d : Addr) (ps : List Pr) : Prop where
  l : ∃ zs, H L = some (.lst zs) ∧ PrAs H zs ps
  d : ∃ kvs, H d = some (.dT kvs) ∧ KnD kvs ps
  nd : ps.Nodup
  rg : ∀ p ∈ ps, inR n m p
theorem MetAt.same {n m : Nat} {H H' : Hp} {L d : Addr} {ps : List Pr} (s : Same H H') (h : MetAt n m H L d ps) : MetAt n m H' L d ps := by
  obtain ⟨zs, h1, h2⟩ := h.l
  obtain ⟨kvs, h3, h4⟩ := h.d
  exact ⟨⟨zs, s _ _ h1, h2.same s⟩, ⟨kvs, s _ _ h3, h4⟩, h.nd, h.rg⟩
def sc (C : Chn) (W : Wt) (p : Pr) : List Pr := (rowOf C p.1.toNat).map fun br => ((br.2.2 : Int), (wStep W p.2.toNat br.2.1 : Int))
/-- what the search knows: begun with ps, the first k of qs done -/
structure MetI (C : Chn) (W : Wt) (ps : List Pr) (k : Nat) (qs : List Pr) : Prop where
  sub : ∀ p ∈ ps, p ∈ qs
  lfp : ∀ Z : Pr → Prop, (∀ z ∈ ps, Z z) → (∀ p, Z p → ∀ s ∈ sc C W p, Z s) → ∀ z ∈ qs, Z z
  done : ∀ p ∈ qs.take k, ∀ s ∈ sc C W p, s ∈ qs
  le : k ≤ qs.length
theorem MetI.snoc {C : Chn} {W : Wt} {ps : List Pr} {k : Nat} {qs : List Pr} {p x : Pr} (h : MetI C W ps k qs) (hp : p ∈ qs) (hx : x ∈ sc C W p) : MetI C W ps k (qs ++ [x]) :=
  ⟨fun z hz => List.mem_append_left _ (h.sub z hz), fun Z h1 h2 z hz => by
    rcases List.mem_append.mp hz with hz | hz
    · exact h.lfp Z h1 h2 z hz
    · rw [List.mem_singleton.mp hz]
      exact h2 p (h.lfp Z h1 h2 p hp) x hx, fun z hz s hs => by
    rw [List.take_append_of_le_length h.le] at hz
    exact List.mem_append_left _ (h.done z hz s hs), by
    have := h.le
    rw [List.length_append]
    omega⟩
theorem MetI.next {C : Chn} {W : Wt} {ps : List Pr} {k : Nat} {qs : List Pr} {p : Pr} (h : MetI C W ps k qs) (hp : qs[k]? = some p) (hs : ∀ s ∈ sc C W p, s ∈ qs) : MetI C W ps (k + 1) qs :=
  ⟨h.sub, h.lfp, fun z hz s hz2 => by
    rw [take_snoc hp] at hz
    rcases List.mem_append.mp hz with hz | hz
    · exact h.done z hz s hz2
    · rw [List.mem_singleton.mp hz] at hz2
      exact hs s hz2, (List.getElem?_eq_some_iff.mp hp).1⟩
theorem get_snoc {α : Type} {l : List α} {k : Nat} {x y : α} (h : l[k]? = some x) : (l ++ [y])[k]? = some x := by
  rw [List.getElem?_append_left (List.getElem?_eq_some_iff.mp h).1]
  exact h
def spMet (K : PySem.W.Frag) : Sp := fun vs H Q _ => ∃ (vc vw : V) (pl : Addr) (base : Int) (C : Chn) (W : Wt) (xs : List V) (ps : List Pr), vs = [vc, vw, .ref pl] ∧ Dp K H vc (dChn base C) ∧ ChnOk base C ∧ Dp K H vw (dWt W) ∧ WtOk W ∧ SqL K H pl xs ∧ PrAs H xs ps ∧ 0 < ps.length ∧ (∀ p ∈ ps, inR C.length W.rows.length p) ∧
  ∀ (H' : Hp) (L : Addr) (zs : List V) (qs : List Pr), Same H H' → H L = none → H' L = some (.lst zs) → PrAs H' zs qs → 0 < qs.length → qs.length ≤ 1000 → (∀ p ∈ qs, inR C.length W.rows.length p) → qs.Nodup → MetI C W ps qs.length qs → Q (.ref L) H'
section
variable {P : Program} {w : World} {K : PySem.W.Frag} {mg : Str → Option Value} {base : Heap}
theorem ok__law_met_pairs (T : Txt K mg) (D__law_watch_step : Kept P w K mg base 1 "_law_watch_step" ["watch", "state", "shown"] (spPlace K)) {f : Addr} {fd : FuncData} (F : FnP K "_law_met_pairs" s__law_met_pairs f fd) : FnOk P w K mg base CX0 2 f fd ["chain", "watch", "starts"] (spMet K) := by
  refine F.ok sc__law_met_pairs (fun vs H Q E h => ?_) (fun cdv A outer s H vs Q E hr h => ?_)
  · obtain ⟨vc, vw, pl, b, C, W, xs, ps, rfl, _⟩ := h
    rfl
  · obtain ⟨vc, vw, pl, b, C, W, xs, ps, rfl, hC, ok, hW, okw, hpl, hps, pos, rg, q⟩ := h
    refine ⟨_, PSs.nox (pss_cons (ps_set (i := 3) sc__law_met_pairs.nd rfl (Or.inl rfl) (pe_lst pa_nil))
      (pss_cons (ps_set (i := 4) sc__law_met_pairs.nd rfl (Or.inl rfl) pe_dnewT)
      (pss_cons (ps_for PassesOwn.never rfl (pi_list (pv 2)) (pg_name (i := 5) sc__law_met_pairs.nd rfl (Or.inl rfl)) (pss_one (ps_if (pt_cmp (pc_dnotin (hu_of hr) (pv 5) (pv 4))) (pss_cons (ps_asg pe_bl (pg_sub (pv 4) (pv 5) (set_dict (hu_of hr))))
      (pss_one (ps_expr (pe_bm PySem.F.plainAttrs_list PySem.F.slot_list_append PySem.F.type_list_append mt_append (pv 3) (pa_cons (pv 5) pa_nil))))) pss_nil)))
      (pss_cons (ps_set (i := 6) sc__law_met_pairs.nd rfl (Or.inl rfl) pe_int)
      (pss_cons (ps_while PassesOwn.never (pt_cmpR op_lt (pv 6) (pe_callB call_len (by rfl) T.b_len (by decide +kernel) (pa_cons (pv 3) pa_nil)) (nomark _)) (pss_cons (ps_asg (pe_ix ix_list (pv 3) (pv 6) (fun _ _ => rfl)) (pg_tup rfl (pgs_cons (pg_name (i := 7) sc__law_met_pairs.nd rfl (Or.inl rfl)) (pgs_cons (pg_name (i := 8) sc__law_met_pairs.nd rfl (Or.inl rfl)) pgs_nil))))
      (pss_cons (ps_for PassesOwn.never rfl (pi_tup (pe_ix ix_tup (pe_ix ix_tup (pv 0) pe_int (fun _ _ => rfl)) (pv 7) (fun _ _ => rfl))) (pg_tup rfl (pgs_cons (pg_name (i := 9) sc__law_met_pairs.nd rfl (Or.inl rfl)) (pgs_cons (pg_name (i := 10) sc__law_met_pairs.nd rfl (Or.inl rfl)) (pgs_cons (pg_name (i := 11) sc__law_met_pairs.nd rfl (Or.inl rfl)) pgs_nil)))) (pss_cons (ps_set (i := 5) sc__law_met_pairs.nd rfl (Or.inl rfl) (pe_tup (pa_cons (pv 11) (pa_cons (pe_d D__law_watch_step (hr.mono (by decide)) (by rfl) (pa_cons (pv 1) (pa_cons (pv 8) (pa_cons (pv 10) pa_nil)))) pa_nil))))
      (pss_one (ps_if (pt_cmp (pc_dnotin (hu_of hr) (pv 5) (pv 4))) (pss_cons (ps_asg pe_bl (pg_sub (pv 4) (pv 5) (set_dict (hu_of hr))))
      (pss_one (ps_expr (pe_bm PySem.F.plainAttrs_list PySem.F.slot_list_append PySem.F.type_list_append mt_append (pv 3) (pa_cons (pv 5) pa_nil))))) pss_nil))))
      (pss_one (ps_aug (i := 6) sc__law_met_pairs.nd rfl (Or.inl rfl) pe_int ip_add)))))
      (pss_one (ps_ret (pv 3)))))))), ?_⟩
    obtain ⟨pc, pq, ys, rfl, hpc, hpq, hA⟩ := chn_at (id hC)
    have xl := hps.len
    have area : C.length * W.rows.length ≤ 1000 := by
      have h1 := ok.few
      have h2 := okw.few
      have := Nat.mul_le_mul h1 h2
      omega
    refine ⟨Nat.zero_le _, fun L hL => fun d hd => ?_⟩
    have s1 := same_new (o := .lst []) hL
    have hL1 := upd_same (H := H) (a := L) (o := .lst [])
    have hd0 : H d = none := s1.free hd
    have Ld : L ≠ d := ne_of_none hL1 hd
    have s2 := s1.trans (same_new (o := .dT []) hd)
    have hL2 := same_new (o := .dT []) hd _ _ hL1
    have hd2 := upd_same (H := upd H L (.lst [])) (a := d) (o := .dT [])
    generalize upd (upd H L (.lst [])) d (.dT []) = H2 at s2 hL2 hd2
    have m2 : MetAt C.length W.rows.length H2 L d [] := ⟨⟨[], hL2, .nil⟩, ⟨[], hd2, .nil⟩, List.nodup_nil, fun _ h => absurd h List.not_mem_nil⟩
    -- one pair more
    have more : ∀ {H3 : Hp} {qs : List Pr} {p : Pr} {x : V}, Same H H3 → MetAt C.length W.rows.length H3 L d qs → PrA H3 x p → p ∉ qs → inR C.length W.rows.length p → ∀ zs kvs, H3 L = some (.lst zs) → H3 d = some (.dT kvs) → Same H (upd (upd H3 d (.dT (putK kvs (kP p) (.bl true)))) L (.lst (zs ++ [x]))) ∧ MetAt C.length W.rows.length (upd (upd H3 d (.dT (putK kvs (kP p) (.bl true)))) L (.lst (zs ++ [x]))) L d (qs ++ [p]) := fun {H3 qs p x} s3 mt hx no hin zs kvs hL3 hd3 => by
      obtain ⟨zs', e1, h1⟩ := mt.l
      obtain ⟨kvs', e2, h2⟩ := mt.d
      rw [hL3] at e1
      cases e1
      rw [hd3] at e2
      cases e2
      have hL4 : (upd H3 d (.dT (putK kvs (kP p) (.bl true)))) L = some (.lst zs) := by
        rw [upd_ne Ld]
        exact hL3
      refine ⟨same_mut (same_mut s3 hd0) hL, ⟨_, upd_same, ?_⟩, ⟨_, by rw [upd_ne Ld.symm, upd_same], h2.put p⟩, ?_, fun z hz => ?_⟩
      · exact ((h1.nt (nt_dt _) hd3).nt (nt_lst _) hL4).snoc ((hx.nt (nt_dt _) hd3).nt (nt_lst _) hL4)
      · exact List.nodup_append.mpr ⟨mt.nd, List.nodup_cons.mpr ⟨List.not_mem_nil, List.nodup_nil⟩, fun a ha b hb e => by
          rw [List.mem_singleton.mp hb] at e
          exact no (e ▸ ha)⟩
      · rcases List.mem_append.mp hz with h | h
        · exact mt.rg z h
        · rw [List.mem_singleton.mp h]
          exact hin
    refine ⟨_, rfl, pl, rfl, ⟨_, same_l s2 hpl⟩, for_list (K := K) (a := pl) (xs := xs) (fun i σ H' => ∃ (y5 : Option V) (qs : List Pr), σ = [some (.ref pc), some vw, some (.ref pl), some (.ref L), some (.ref d), y5, none, none, none, none, none, none] ∧ Same H H' ∧ MetAt C.length W.rows.length H' L d qs ∧ (∀ z ∈ qs, z ∈ ps) ∧ ∀ p ∈ ps.take i, p ∈ qs) ⟨_, [], rfl, s2, m2, fun p h => absurd h List.not_mem_nil, fun p h => absurd h List.not_mem_nil⟩ (fun i σ H' _ ⟨_, _, _, s, _⟩ => same_l s hpl) ?_ ?_⟩
    · rintro i x σ H3 hi ⟨y5, qs, rfl, s3, mt, back, sub⟩
      obtain ⟨p, hp, hx⟩ := hps.at hi
      have hx3 := hx.same s3
      obtain ⟨qx, rfl, hqx⟩ := id hx3
      obtain ⟨zs, hL3, hzs⟩ := mt.l
      obtain ⟨kvs, hd3, kn⟩ := mt.d
      have few := pr_few mt.nd mt.rg
      have kl := kn.len
      have zl := hzs.len
      refine ⟨_, rfl, _, rfl, d, _, rfl, DGet.t (k := kP p) hd3 hqx, _, rfl, ?_⟩
      rw [kn.val]
      by_cases m0 : p ∈ qs
      · rw [if_pos m0]
        refine ite2 (fun h => (nomatch (show false = true from h))) (fun _ => ?_)
        refine ⟨_, qs, rfl, s3, mt, back, fun z hz => ?_⟩
        rw [take_snoc hp] at hz
        rcases List.mem_append.mp hz with h | h
        · exact sub z h
        · rw [List.mem_singleton.mp h]
          exact m0
      · rw [if_neg m0]
        refine ite2 (fun _ => ?_) (fun h => absurd rfl h)
        obtain ⟨s4, mt4⟩ := more s3 mt hx3 m0 (rg p (List.mem_of_getElem? hp)) zs kvs hL3 hd3
        have hL4 : (upd H3 d (.dT (putK kvs (kP p) (.bl true)))) L = some (.lst zs) := by
          rw [upd_ne Ld]
          exact hL3
        refine ⟨_, rfl, _, rfl, d, _, rfl, DPut.t (k := kP p) hd3 hqx (line6 (by omega)), ?_⟩
        refine ⟨_, rfl, .inl ⟨rfl, _, SqL.of hL4⟩, _, rfl, L, zs, _, rfl, rfl, hL4, line6 (by omega), ?_⟩
        refine ⟨_, qs ++ [p], rfl, s4, mt4, fun z hz => (List.mem_append.mp hz).elim (back z) fun k => by rw [List.mem_singleton.mp k]; exact List.mem_of_getElem? hp, fun z hz => ?_⟩
        rw [take_snoc hp] at hz
        rcases List.mem_append.mp hz with h | h
        · exact List.mem_append_left _ (sub z h)
        · exact List.mem_append_right _ h
    · rintro σ H3 ⟨y5, qs, rfl, s3, mt, back, sub⟩
      rw [xl, List.take_length] at sub
      have qpos : 0 < qs.length := by
        cases ps with
        | nil => exact absurd pos (Nat.lt_irrefl 0)
        | cons a r => exact List.length_pos_iff.mpr (List.ne_nil_of_mem (sub a List.mem_cons_self))
      refine ⟨fun m σ H' => ∃ (k : Nat) (y5 y7 y8 y9 y10 y11 : Option V) (qs : List Pr), m = 1001 - k ∧ σ = [some (.ref pc), some vw, some (.ref pl), some (.ref L), some (.ref d), y5, some (.int (k : Int)), y7, y8, y9, y10, y11] ∧ Same H H' ∧ MetAt C.length W.rows.length H' L d qs ∧ 0 < qs.length ∧ k ≤ 1000 ∧ MetI C W ps k qs, ⟨_, 0, _, _, _, _, _, _, qs, rfl, rfl, s3, mt, qpos, Nat.zero_le _, sub, fun Z h1 _ z hz => h1 z (back z hz), fun p h => absurd h List.not_mem_nil, Nat.zero_le _⟩, ?_⟩
      rintro m σ H4 ⟨k, y5, y7, y8, y9, y10, y11, qs, rfl, rfl, s4, mt, qpos, k1, mi⟩
      obtain ⟨zs, hL4, hzs⟩ := mt.l
      have few := pr_few mt.nd mt.rg
      have zl := hzs.len
      refine ⟨_, rfl, _, rfl, _, _, rfl, .inl ⟨_, SqL.of hL4, rfl⟩, _, _, rfl, rfl, ?_⟩
      refine ⟨_, rfl, ite2 (fun hk => ?_) (fun _ => ?_)⟩
      · have klt : k < qs.length := by
          have : (k : Int) < (zs.length : Int) := of_decide_eq_true hk
          omega
        have kb : k < 1000 := by omega
        obtain ⟨⟨a, c⟩, hp⟩ : ∃ p, qs[k]? = some p := ⟨qs[k]'klt, List.getElem?_eq_getElem _⟩
        obtain ⟨x, hx, qx, rfl, hqx⟩ := hzs.get hp
        obtain ⟨a0, a1, c0, c1⟩ := mt.rg _ (List.mem_of_getElem? hp)
        have a0 : 0 ≤ a := a0
        have a1 : a < (C.length : Int) := a1
        have c0 : 0 ≤ c := c0
        have c1 : c < (W.rows.length : Int) := c1
        obtain ⟨an, rfl⟩ : ∃ n : Nat, a = n := ⟨a.toNat, by omega⟩
        obtain ⟨cn, rfl⟩ : ∃ n : Nat, c = n := ⟨c.toNat, by omega⟩
        have alt : an < C.length := by omega
        have clt : cn < W.rows.length := by omega
        obtain ⟨xr, hxr, hdr⟩ := dpA_get hA (rowOf_at alt)
        have okr := ok.row _ (List.mem_of_getElem? (rowOf_at alt))
        obtain ⟨pr, rs, rfl, hpr, hrs⟩ := dp_tup hdr
        have rl := dpA_len hrs
        rw [List.length_map] at rl
        refine ⟨fun σ' H' => ∃ (y5 y7 y8 y9 y10 y11 : Option V) (qs : List Pr), σ' = [some (.ref pc), some vw, some (.ref pl), some (.ref L), some (.ref d), y5, some (.int ((k + 1 : Nat) : Int)), y7, y8, y9, y10, y11] ∧ Same H H' ∧ MetAt C.length W.rows.length H' L d qs ∧ 0 < qs.length ∧ MetI C W ps (k + 1) qs, fun σ' H' ⟨z5, z7, z8, z9, z10, z11, qs', e, s', mt', pos', mi'⟩ => ⟨1001 - (k + 1), by omega, k + 1, z5, z7, z8, z9, z10, z11, qs', rfl, e, s', mt', pos', by omega, mi'⟩, ?_⟩
        refine ⟨_, rfl, _, rfl, L, _, _, _, rfl, rfl, SqL.of hL4, atI_nat hx, qx, _, rfl, SqT.of hqx, rfl, _, _, rfl, _, _, rfl, rfl, ?_⟩
        refine ⟨_, rfl, pc, _, _, _, rfl, rfl, same_t s4 hpc, atI_nat (j := 2) rfl, _, rfl, pq, _, _, _, rfl, rfl, same_t s4 hpq, atI_nat hxr, pr, rfl, ⟨_, same_t s4 hpr⟩, for_tup (K := K) (a := pr) (xs := rs) (fun j σ H' => ∃ (y5 y9 y10 y11 : Option V) (qs : List Pr), σ = [some (.ref pc), some vw, some (.ref pl), some (.ref L), some (.ref d), y5, some (.int (k : Int)), some (.int (an : Int)), some (.int (cn : Int)), y9, y10, y11] ∧ Same H H' ∧ MetAt C.length W.rows.length H' L d qs ∧ 0 < qs.length ∧ MetI C W ps k qs ∧ qs[k]? = some ((an : Int), (cn : Int)) ∧ ∀ s ∈ (sc C W ((an : Int), (cn : Int))).take j, s ∈ qs) ⟨_, _, _, _, qs, rfl, s4, mt, qpos, mi, hp, fun s h => absurd h List.not_mem_nil⟩ (fun j σ H' _ ⟨_, _, _, _, _, _, s, _⟩ => same_t s hpr) ?_ ?_⟩
        · rintro j y σ H5 hj ⟨y5, y9, y10, y11, qs, rfl, s5, mt, qpos, mi, hp, som⟩
          obtain ⟨br, hbr, hy⟩ := dpA_mem (dpA_same s5 _ _ hrs) hj
          have okb := okr.to br (List.mem_of_getElem? hbr)
          have hsc : (sc C W ((an : Int), (cn : Int)))[j]? = some ((br.2.2 : Int), (wStep W cn br.2.1 : Int)) := by
            unfold sc
            rw [List.getElem?_map, show ((an : Int), (cn : Int)).1.toNat = an from rfl, hbr]
            rfl
          obtain ⟨pb, x0, x1, rfl, hpb, hd0', hx1⟩ := br_at hy
          refine ⟨pb, _, rfl, hpb, rfl, _, _, rfl, _, _, rfl, _, _, rfl, rfl, ?_⟩
          refine ⟨_, rfl, _, rfl, _, rfl, _, rfl, vw, x1, cn, W, br.2.1, rfl, dp_same s5 _ _ hW, okw, clt, hx1, fun H6 s6 => ⟨z2, fun pt hpt => ?_⟩⟩
          have st := s6.trans (same_new (o := .tup [.int (br.2.2 : Int), .int (wStep W cn br.2.1 : Int)]) hpt)
          have s7 := s5.trans st
          have mt7 := mt.same st
          have hpt7 := upd_same (H := H6) (a := pt) (o := .tup [.int (br.2.2 : Int), .int (wStep W cn br.2.1 : Int)])
          generalize upd H6 pt (.tup [.int (br.2.2 : Int), .int (wStep W cn br.2.1 : Int)]) = H7 at s7 mt7 hpt7
          obtain ⟨zs, hL7, hzs⟩ := mt7.l
          obtain ⟨kvs, hd7, kn⟩ := mt7.d
          have few := pr_few mt7.nd mt7.rg
          have kl := kn.len
          have zl := hzs.len
          refine ⟨_, rfl, _, rfl, d, _, rfl, DGet.t (k := kP ((br.2.2 : Int), (wStep W cn br.2.1 : Int))) hd7 hpt7, _, rfl, ?_⟩
          rw [kn.val]
          by_cases m0 : (((br.2.2 : Int), (wStep W cn br.2.1 : Int)) : Pr) ∈ qs
          · rw [if_pos m0]
            refine ite2 (fun h => (nomatch (show false = true from h))) (fun _ => ?_)
            exact ⟨_, _, _, _, qs, rfl, s7, mt7, qpos, mi, hp, fun s hs => by
              rw [take_snoc hsc] at hs
              rcases List.mem_append.mp hs with hs | hs
              · exact som s hs
              · rw [List.mem_singleton.mp hs]; exact m0⟩
          · rw [if_neg m0]
            refine ite2 (fun _ => ?_) (fun h => absurd rfl h)
            have wl := wStep_lt okw clt br.2.1
            obtain ⟨s8, mt8⟩ := more (p := ((br.2.2 : Int), (wStep W cn br.2.1 : Int))) (x := .ref pt) s7 mt7 ⟨pt, rfl, hpt7⟩ m0 ⟨by show (0 : Int) ≤ (br.2.2 : Int); omega, by show (br.2.2 : Int) < _; omega, by show (0 : Int) ≤ (wStep W cn br.2.1 : Int); omega, by show (wStep W cn br.2.1 : Int) < _; omega⟩ zs kvs hL7 hd7
            have hL8 : (upd H7 d (.dT (putK kvs (kP ((br.2.2 : Int), (wStep W cn br.2.1 : Int))) (.bl true)))) L = some (.lst zs) := by
              rw [upd_ne Ld]
              exact hL7
            refine ⟨_, rfl, _, rfl, d, _, rfl, DPut.t (k := kP ((br.2.2 : Int), (wStep W cn br.2.1 : Int))) hd7 hpt7 (line6 (by omega)), ?_⟩
            refine ⟨_, rfl, .inl ⟨rfl, _, SqL.of hL8⟩, _, rfl, L, zs, _, rfl, rfl, hL8, line6 (by omega), ?_⟩
            exact ⟨_, _, _, _, _, rfl, s8, mt8, (by rw [List.length_append]; show 0 < _ + 1; omega), mi.snoc (List.mem_of_getElem? hp) (List.mem_of_getElem? hsc), get_snoc hp, fun s hs => by
              rw [take_snoc hsc] at hs
              rcases List.mem_append.mp hs with hs | hs
              · exact List.mem_append_left _ (som s hs)
              · exact List.mem_append_right _ hs⟩
        · rintro σ H5 ⟨y5, y9, y10, y11, qs, rfl, s5, mt, qpos, mi, hp, som⟩
          refine ⟨_, rfl, _, _, rfl, rfl, ?_⟩
          refine ⟨_, _, _, _, _, _, qs, rfl, s5, mt, qpos, mi.next hp ?_⟩
          rw [List.take_of_length_le (by unfold sc; rw [List.length_map, show ((an : Int), (cn : Int)).1.toNat = an from rfl]; omega)] at som
          exact som
      · rename_i hk
        have e : k = qs.length := by
          have h1 := mi.le
          have h2 : ¬ (k : Int) < (zs.length : Int) := fun z => hk (decide_eq_true z)
          omega
        exact ⟨_, rfl, q _ L zs qs s4 hL hL4 hzs qpos (by omega) mt.rg mt.nd (e ▸ mi)⟩
end
end Mt
namespace Mt
open PySem PySem.Spec PyProof.Rows L2
def spSpared (K : PySem.W.Frag) : Sp := fun vs H Q _ => ∃ (S D : Addr) (vc vw : V) (base : Int) (C : Chn) (W : Wt), vs = [.ref D, vc, vw] ∧ DrawAt S D H ∧ Dp K H vc (dChn base C) ∧ ChnOk base C ∧ Dp K H vw (dWt W) ∧ WtOk W ∧
  ∀ (H' : Hp) (v : V) (W' : Wt), Go S D H H' → Dp K H' v (dWt W') → WtOk W' → Q v H'
theorem flat_ints (l : List Int) : (l.map V.int).all flatV = true := by
  rw [List.all_map]
  exact List.all_eq_true.mpr fun _ _ => rfl
section
variable {P : Program} {w : World} {K : PySem.W.Frag} {mg : Str → Option Value} {base : Heap}
theorem ok__law_spared (T : Txt K mg) (D__law_draw : Kept P w K mg base 1 "_law_draw" ["d", "many"] spDraw) (D__law_met_pairs : Kept P w K mg base 2 "_law_met_pairs" ["chain", "watch", "starts"] (spMet K)) {f : Addr} {fd : FuncData} (F : FnP K "_law_spared" s__law_spared f fd) : FnOk P w K mg base CX0 3 f fd ["d", "chain", "watch"] (spSpared K) := by
  refine F.ok sc__law_spared (fun vs H Q E h => ?_) (fun cdv A outer s H vs Q E hr h => ?_)
  · obtain ⟨S, D, vc, vw, b, C, W, rfl, _⟩ := h
    rfl
  · obtain ⟨S, D, vc, vw, b, C, W, rfl, d, hC, ok, hW, okw, q⟩ := h
    refine ⟨_, PSs.nox (pss_cons (ps_if (pt_cmpR op_eq (pe_d D__law_draw (hr.mono (by decide)) (by rfl) (pa_cons (pv 0) (pa_cons pe_int pa_nil))) pe_int (nomark _)) (pss_one (ps_ret (pv 2))) pss_nil)
      (pss_cons (ps_set (i := 3) sc__law_spared.nd rfl (Or.inr rfl) (pe_lc (own := [("pair", 4)]) (g := (gName 4)) (tt := tYes) rfl sc__law_spared.nd (pi_list (pe_d D__law_met_pairs (hr.mono (by decide)) (by rfl) (pa_cons (pv 1) (pa_cons (pv 2) (pa_cons (pe_lst (pa_cons (pe_tup (pa_cons pe_int (pa_cons pe_int pa_nil))) pa_nil)) pa_nil))))) (blkOk_by (N := N__law_spared) (sc := defScope s__law_spared) (by decide +kernel)) (fun _ _ _ _ _ => (pg_name (i := 4) sc__law_spared.nd rfl (Or.inl rfl))) (fun _ _ _ _ _ => pts_nil) (fun _ _ _ _ _ => (pe_ix (ixT (K := K) rfl) (pv 4) pe_int (fun _ _ => rfl)))))
      (pss_one (ps_ret (pe_tup (pa_cons (pe_ix ix_tup (pv 2) pe_int (fun _ _ => rfl)) (pa_cons (pe_ix ix_tup (pv 2) pe_int (fun _ _ => rfl)) (pa_cons (pe_callTy call_tuple_of (by rfl) T.b_tuple (by decide +kernel) (pa_cons (pe_lc (own := [("one", 5)]) (g := (gName 5)) rfl sc__law_spared.nd (pi_tup (pe_ix ix_tup (pv 2) pe_int (fun _ _ => rfl))) (blkOk_by (N := N__law_spared) (sc := defScope s__law_spared) (by decide +kernel)) (fun _ _ _ _ _ => (pg_name (i := 5) sc__law_spared.nd rfl (Or.inl rfl))) (fun _ _ _ _ _ => (pts_one (pt_cmpR (ninK (K := K) rfl) (pv 5) (pv 3) (by rfl)))) (fun _ _ _ _ _ => (pv 5))) pa_nil)) pa_nil)))))))), ?_⟩
    refine ⟨_, rfl, S, D, 2, rfl, divW_of (by decide) (by decide), d, fun H1 v v0 v1 g1 => ⟨rfl, _, rfl, ite2 (fun _ => ?_) (fun _ => ?_)⟩⟩
    · exact ⟨_, rfl, q _ vw W g1 (dp_keep (Go.keepT d g1) _ _ (dWt_noL W) hW) okw⟩
    · have hC1 := dp_keep (Go.keepT d g1) _ _ (dChn_noL b C) hC
      have hW1 := dp_keep (Go.keepT d g1) _ _ (dWt_noL W) hW
      refine ⟨_, rfl, _, rfl, z2, fun p0 hp0 => ⟨z1, fun l0 hl0 => ?_⟩⟩
      have s2 := same_new (o := .tup [.int 0, .int 0]) hp0
      have hp02 := upd_same (H := H1) (a := p0) (o := .tup [.int 0, .int 0])
      generalize upd H1 p0 (.tup [.int 0, .int 0]) = H2 at s2 hp02 hl0
      have s3 := s2.trans (same_new (o := .lst [.ref p0]) hl0)
      have hp03 := same_new (o := .lst [.ref p0]) hl0 _ _ hp02
      have hl03 := upd_same (H := H2) (a := l0) (o := .lst [.ref p0])
      generalize upd H2 l0 (.lst [.ref p0]) = H3 at s3 hp03 hl03
      refine ⟨vc, vw, l0, b, C, W, _, [(0, 0)], rfl, dp_same s3 _ _ hC1, ok, dp_same s3 _ _ hW1, okw, SqL.of hl03, .cons ⟨p0, rfl, hp03⟩ .nil, by decide, fun p hp => ?_, fun H4 L zs qs s4 hL0 hL hzs qpos ql rg _ _ => ?_⟩
      · rw [List.mem_singleton.mp hp]
        have := ok.pos
        have := okw.pos
        exact ⟨by decide, by show (0 : Int) < _; omega, by decide, by show (0 : Int) < _; omega⟩
      · have zl := hzs.len
        refine ⟨L, rfl, ⟨_, SqL.of hL⟩, fun M hM => lc_list (K := K) (a := L) (xs := zs) (fun i H' => Same H4 H' ∧ H' M = some (.lst (((qs.take i).map (·.2)).map V.int))) ⟨same_new hM, upd_same⟩ (fun i H' _ e => SqL.of (e.1 _ _ hL)) ?_ ?_⟩
        · rintro i x H5 hi ⟨s5, hM5⟩
          obtain ⟨p, hp, qx, rfl, hqx⟩ := hzs.at hi
          have il := (List.getElem?_eq_some_iff.mp hp).1
          refine ⟨rfl, _, rfl, qx, _, _, _, rfl, rfl, SqT.of (s5 _ _ hqx), atI_nat (j := 1) rfl, _, hM5, by rw [List.length_map, List.length_map, List.length_take]; exact line6 (by omega), same_mut s5 hM, ?_⟩
          rw [upd_same, take_snoc hp, List.map_append, List.map_append]
          rfl
        · rintro H5 ⟨s5, hM5⟩
          rw [zl, List.take_length] at hM5
          have s15 := s3.trans (s4.trans s5)
          have hW5 := dp_same s15 _ _ hW1
          obtain ⟨pw, pwq, pwb, us, rfl, hpw, hpwq, hAw, hpwb⟩ := wt_at hW5
          have fewB := okw.fewB
          refine ⟨_, rfl, pw, _, _, _, rfl, rfl, hpw, atI_nat (j := 0) rfl, _, rfl, pw, _, _, _, rfl, rfl, hpw, atI_nat (j := 1) rfl, _, rfl, pw, _, _, _, rfl, rfl, hpw, atI_nat (j := 2) rfl, ?_⟩
          refine ⟨pwb, rfl, ⟨_, hpwb⟩, fun N hN => lc_tup (K := K) (a := pwb) (xs := W.bad.map vN) (fun i H' => Same H5 H' ∧ ∃ bs : List Nat, H' N = some (.lst (bs.map vN)) ∧ bs.length ≤ i ∧ ∀ k ∈ bs, k ∈ W.bad) ⟨same_new hN, [], upd_same, Nat.le_refl _, fun _ h => absurd h List.not_mem_nil⟩ (fun i H' _ e => same_t e.1 hpwb) ?_ ?_⟩
          · rintro i x H6 hi ⟨s6, bs, hN6, bl, bw⟩
            rw [List.getElem?_map] at hi
            obtain ⟨k, hk, rfl⟩ := Option.map_eq_some_iff.mp hi
            have il := (List.getElem?_eq_some_iff.mp hk).1
            refine ⟨rfl, _, rfl, _, rfl, M, _, rfl, .inl (SqL.of (s6 _ _ hM5)), rfl, flat_ints _, _, rfl, ite2 (fun _ => ?_) (fun _ => ?_)⟩
            · refine ⟨_, rfl, _, hN6, by rw [List.length_map]; exact line6 (by omega), same_mut s6 hN, bs ++ [k], ?_, (by rw [List.length_append, List.length_singleton]; omega), fun z hz => (List.mem_append.mp hz).elim (bw z) fun e => by rw [List.mem_singleton.mp e]; exact List.mem_of_getElem? hk⟩
              rw [upd_same, List.map_append]
              rfl
            · exact ⟨s6, bs, hN6, by omega, bw⟩
          · rintro H6 ⟨s6, bs, hN6, bl, bw⟩
            rw [List.length_map] at bl
            refine ⟨N, _, rfl, .inl ⟨SqL.of hN6, fun pb hpb => ⟨z3, fun pf hpf => ?_⟩⟩⟩
            obtain ⟨s7, d7⟩ := new_tup (K := K) (ds := bs.map fun k : Nat => .int (k : Int)) hpb (nats_dp bs)
            have dR : Dp K H6 (.ref pwq) (.tuple (W.rows.map dWr)) := .tup (same_t s6 hpwq) (dpA_same s6 _ _ hAw)
            obtain ⟨s8, d8⟩ := new_tup (K := K) hpf (.cons (.str "watch") (.cons (dp_same s7 _ _ dR) (.cons d7 .nil)))
            exact q _ _ ⟨W.rows, bs⟩ (g1.trans (Go.same g1.1 (s15.trans (s6.trans (s7.trans s8))))) d8 ⟨okw.pos, okw.few, by show bs.length ≤ 20; omega, fun k hk => okw.badlt k (bw k hk), okw.row⟩
end
end Mt
namespace Mt
open PySem PySem.Spec PyProof.Rows L2
theorem cut_at {l : List Int} {k m : Nat} (h : k + m ≤ l.length) : cutV (l.map V.int) (some (k : Int)) (some ((k : Int) + (m : Int))) = ((l.drop k).take m).map V.int := by
  unfold cutV
  rw [HT.sIx_nat, ← Int.natCast_add, HT.sIx_nat, List.length_map, Nat.min_eq_left (by omega), Nat.min_eq_left (by omega), Nat.add_sub_cancel_left, List.map_take, List.map_drop]
def spBranch (K : PySem.W.Frag) : Sp := fun vs H Q _ => ∃ (vr vt : V) (k : Nat) (base : Int) (n : Nat) (r : List Br) (tape : List Int), vs = [vr, vt, .int k] ∧ Dp K H vr (dRw r) ∧ RwOk base n r ∧ Dp K H vt (dI tape) ∧ (∀ x ∈ tape, 0 ≤ x ∧ x < base) ∧ k + 3 ≤ tape.length ∧ tape.length ≤ 10000 ∧
  ∀ H' v b, Same H H' → b ∈ r → Dp K H' v (dBr b) → Q v H'
section
variable {P : Program} {w : World} {K : PySem.W.Frag} {mg : Str → Option Value} {base : Heap}
theorem ok_branch_at (T : Txt K mg) {f : Addr} {fd : FuncData} (F : FnP K "branch_at" s_branch_at f fd) : FnOk P w K mg base CX0 1 f fd ["row", "tape", "at"] (spBranch K) := by
  refine F.ok sc_branch_at (fun vs H Q E h => ?_) (fun cdv A outer s H vs Q E hr h => ?_)
  · obtain ⟨vr, vt, k, b, n, r, tape, rfl, _⟩ := h
    rfl
  · obtain ⟨vr, vt, k, b, n, r, tape, rfl, hR, ok, ht, htb, hk, hl, q⟩ := h
    refine ⟨_, PSs.nox (pss_cons (ps_for PassesOwn.never rfl (pi_tup (pv 0)) (pg_name (i := 3) sc_branch_at.nd rfl (Or.inl rfl)) (pss_one (ps_if (pt_cmpR (op_eqD (hr.units)) (pe_slice sl_tupA (pv 1) (po_some (pv 2)) (po_some (pe_op op_add (pv 2) (pe_callB call_len (by rfl) T.b_len (by decide +kernel) (pa_cons (pe_ix ix_tup (pv 3) pe_int (fun _ _ => rfl)) pa_nil))))) (pe_ix ix_tup (pv 3) pe_int (fun _ _ => rfl)) (nomark _)) (pss_one (ps_ret (pv 3))) pss_nil)))
      (pss_one ps_never)), ?_⟩
    obtain ⟨pr, rs, rfl, hpr, hrs⟩ := dp_tup hR
    have rl := dpA_len hrs
    rw [List.length_map] at rl
    obtain ⟨pt, rfl, hpt⟩ := i_at ht
    refine ⟨_, rfl, pr, rfl, ⟨_, hpr⟩, for_tup (K := K) (a := pr) (xs := rs) (fun i σ H' => ∃ y3 : Option V, σ = [some (.ref pr), some (.ref pt), some (.int k), y3] ∧ Same H H' ∧ ∀ b ∈ r.take i, (tape.drop k).take b.1.length ≠ b.1) ⟨_, rfl, Same.refl _, by simp⟩ (fun i σ H' _ ⟨_, _, s, _⟩ => same_t s hpr) ?_ ?_⟩
    · rintro i x σ H1 hi ⟨y3, rfl, s1, hno⟩
      obtain ⟨br, hbr, hx⟩ := dpA_mem (dpA_same s1 _ _ hrs) hi
      obtain ⟨pb, x0, x1, rfl, hpb, hd0, hd1⟩ := br_at hx
      obtain ⟨p0, rfl, hp0⟩ := i_at hd0
      have short := ok.cm.short br.1 (List.mem_map.mpr ⟨br, List.mem_of_getElem? hbr, rfl⟩)
      have ec := cut_at (l := tape) (k := k) (m := br.1.length) (by omega)
      have htk : r.take (i + 1) = r.take i ++ [br] := by
        rw [List.take_add_one, hbr]
        rfl
      have fin : ∀ (H2 : Hp) (p : Addr), Same H1 H2 → SqT K H2 p (((tape.drop k).take br.1.length).map V.int) → ∃ d e, Dp K H2 (.ref p) d ∧ Dp K H2 (.ref p0) e ∧ SeqAt.shaped d = true ∧ SeqAt.shaped e = true ∧ PyData.eqv d e = decide ((tape.drop k).take br.1.length = br.1) := fun H2 p s2 hp =>
        ⟨_, _, i_of hp, dp_same s2 _ _ hd0, dI_sh _, dI_sh _, eqv_I _ _⟩
      refine ⟨_, rfl, _, rfl, _, rfl, _, rfl, _, rfl, pb, _, _, _, rfl, rfl, hpb, atI_nat (j := 0) rfl, _, _, rfl, .inr ⟨_, hp0, rfl⟩, _, _, rfl, rfl, _, rfl, pt, _, rfl, same_t s1 hpt, fun hwh => ?_, fun _ p hp => ?_⟩
      · rw [HT.sIx_nat, List.length_map, ← Int.natCast_add, HT.sIx_nat, List.length_map] at hwh
        have e1 : (tape.drop k).take br.1.length = tape := by
          rw [show k = 0 by omega, List.drop_zero]
          exact List.take_of_length_le (by omega)
        obtain ⟨d, e, f1, f2, f3, f4, f5⟩ := fin _ pt (Same.refl _) (by rw [e1]; exact same_t s1 hpt)
        refine ⟨_, rfl, pb, _, _, _, rfl, rfl, hpb, atI_nat (j := 0) rfl, d, e, f1, f2, f3, f4, _, rfl, ?_⟩
        rw [f5]
        refine ite2 (fun _ => ⟨_, rfl, q _ _ br s1 (List.mem_of_getElem? hbr) hx⟩) (fun hne => ⟨_, rfl, s1, fun b hb => ?_⟩)
        rw [htk] at hb
        rcases List.mem_append.mp hb with h | h
        · exact hno b h
        · rw [List.mem_singleton.mp h]
          exact fun h => hne (decide_eq_true h)
      · rw [List.length_map, ec]
        have s2 := same_new (o := .tup (((tape.drop k).take br.1.length).map V.int)) hp
        obtain ⟨d, e, f1, f2, f3, f4, f5⟩ := fin _ p s2 (SqT.of upd_same)
        refine ⟨_, rfl, pb, _, _, _, rfl, rfl, same_t s2 hpb, atI_nat (j := 0) rfl, d, e, f1, f2, f3, f4, _, rfl, ?_⟩
        rw [f5]
        refine ite2 (fun _ => ⟨_, rfl, q _ _ br (s1.trans s2) (List.mem_of_getElem? hbr) (dp_same s2 _ _ hx)⟩) (fun hne => ⟨_, rfl, s1.trans s2, fun b hb => ?_⟩)
        rw [htk] at hb
        rcases List.mem_append.mp hb with h | h
        · exact hno b h
        · rw [List.mem_singleton.mp h]
          exact fun h => hne (decide_eq_true h)
    · rintro σ H1 ⟨y3, rfl, s1, hno⟩
      rw [rl, List.take_length] at hno
      obtain ⟨w, hw, hp⟩ := ok.cm.all (tape.drop k) (fun x hx => htb x (List.mem_of_mem_drop hx)) (by rw [List.length_drop]; omega)
      obtain ⟨br, hbr, rfl⟩ := List.mem_map.mp hw
      exact hno br hbr (List.prefix_iff_eq_take.mp hp).symm
end
end Mt
namespace Mt
open PySem PySem.Spec PyProof.Rows L2
/-- what is shown on a way from state 0, and where it ends -/
inductive Way (C : Chn) : List (List Str) → Nat → Prop
  | nil : Way C [] 0
  | snoc {l : List (List Str)} {t : Nat} {r : List Br} {b : Br} : Way C l t → C[t]? = some r → b ∈ r → Way C (l ++ [b.2.1]) b.2.2
def spWalk (K : PySem.W.Frag) : Sp := fun vs H Q _ => ∃ (vc vt : V) (n : Nat) (base : Int) (C : Chn) (tape : List Int), vs = [vc, vt, .int n] ∧ Dp K H vc (dChn base C) ∧ ChnOk base C ∧ Dp K H vt (dI tape) ∧ (∀ x ∈ tape, 0 ≤ x ∧ x < base) ∧ 3 * n ≤ tape.length ∧ tape.length ≤ 10000 ∧
  ∀ H' v shs s rd, Same H H' → Way C shs s → shs.length = n → (∀ sh ∈ shs, sh.length ≤ 6) → Dp K H' v (.tuple [.tuple (shs.map dSh), .int s, .int rd]) → Q v H'
theorem noLs_sh (l : List (List Str)) : noLs (l.map dSh) = true := noLs_map _ _ fun s _ => dSh_noL s
section
variable {P : Program} {w : World} {K : PySem.W.Frag} {mg : Str → Option Value} {base : Heap}
theorem ok_walk (T : Txt K mg) (D_branch_at : Kept P w K mg base 1 "branch_at" ["row", "tape", "at"] (spBranch K)) {f : Addr} {fd : FuncData} (F : FnP K "walk" s_walk f fd) : FnOk P w K mg base CX0 2 f fd ["chain", "tape", "ticks"] (spWalk K) := by
  refine F.ok sc_walk (fun vs H Q E h => ?_) (fun cdv A outer s H vs Q E hr h => ?_)
  · obtain ⟨vc, vt, n, b, C, tape, rfl, _⟩ := h
    rfl
  · obtain ⟨vc, vt, n, b, C, tape, rfl, hC, ok, ht, htb, hn, hl, q⟩ := h
    refine ⟨_, PSs.nox (pss_cons (ps_set (i := 3) sc_walk.nd rfl (Or.inl rfl) (pe_ix ix_tup (pv 0) pe_int (fun _ _ => rfl)))
      (pss_cons (ps_set (i := 4) sc_walk.nd rfl (Or.inl rfl) pe_int)
      (pss_cons (ps_set (i := 5) sc_walk.nd rfl (Or.inl rfl) pe_int)
      (pss_cons (ps_set (i := 6) sc_walk.nd rfl (Or.inl rfl) (pe_lst pa_nil))
      (pss_cons (ps_for PassesOwn.never rfl (pi_range1 (by rfl) T.b_range (pa_cons (pv 2) pa_nil)) (pg_name (i := 7) sc_walk.nd rfl (Or.inl rfl)) (pss_cons (ps_asg (pe_d D_branch_at (hr.mono (by decide)) (by rfl) (pa_cons (pe_ix ix_tup (pv 3) (pv 4) (fun _ _ => rfl)) (pa_cons (pv 1) (pa_cons (pv 5) pa_nil)))) (pg_tup rfl (pgs_cons (pg_name (i := 8) sc_walk.nd rfl (Or.inl rfl)) (pgs_cons (pg_name (i := 9) sc_walk.nd rfl (Or.inl rfl)) (pgs_cons (pg_name (i := 4) sc_walk.nd rfl (Or.inl rfl)) pgs_nil)))))
      (pss_cons (ps_expr (pe_bm PySem.F.plainAttrs_list PySem.F.slot_list_append PySem.F.type_list_append mt_append (pv 6) (pa_cons (pv 9) pa_nil)))
      (pss_one (ps_aug (i := 5) sc_walk.nd rfl (Or.inl rfl) (pe_callB call_len (by rfl) T.b_len (by decide +kernel) (pa_cons (pv 8) pa_nil)) ip_add)))))
      (pss_one (ps_ret (pe_tup (pa_cons (pe_callTy call_tuple_of (by rfl) T.b_tuple (by decide +kernel) (pa_cons (pv 6) pa_nil)) (pa_cons (pv 4) (pa_cons (pv 5) pa_nil))))))))))), ?_⟩
    obtain ⟨pc, pq, xs, rfl, hpc, hpq, hA⟩ := chn_at hC
    have xl := dpA_len hA
    rw [List.length_map] at xl
    refine ⟨_, rfl, pc, _, _, _, rfl, rfl, hpc, atI_nat (j := 2) rfl, Nat.zero_le _, fun L hL => ?_⟩
    have s1 := same_new (o := .lst []) hL
    have hL1 := upd_same (H := H) (a := L) (o := .lst [])
    generalize upd H L (.lst []) = H1 at s1 hL1
    refine ⟨_, rfl, _, rfl, by omega, by omega, for_range (lo := 0) (n := n) (fun i σ H' => ∃ (st rd : Nat) (y7 y8 y9 : Option V) (zs : List V) (shs : List (List Str)), σ = [some (.ref pc), some vt, some (.int n), some (.ref pq), some (.int st), some (.int rd), some (.ref L), y7, y8, y9] ∧ Same H H' ∧ H' L = some (.lst zs) ∧ DpAll K H' zs (shs.map dSh) ∧ shs.length = i ∧ Way C shs st ∧ st < C.length ∧ rd ≤ 3 * i ∧ ∀ sh ∈ shs, sh.length ≤ 6) ⟨0, 0, _, _, _, [], [], rfl, s1, hL1, .nil, rfl, .nil, ok.pos, by omega, fun _ h => absurd h List.not_mem_nil⟩ ?_ ?_⟩
    · rintro i σ H2 hi ⟨st, rd, y7, y8, y9, zs, shs, rfl, s2, hL2, hzs, hsl, way, hst, hrd, h6⟩
      obtain ⟨r, hr1⟩ : ∃ r, C[st]? = some r := ⟨_, getElem?_lt hst⟩
      obtain ⟨xr, hxr, hdr⟩ := dpA_get hA hr1
      have okr := ok.row r (List.mem_of_getElem? hr1)
      have zl := dpA_len hzs
      rw [List.length_map] at zl
      refine ⟨_, rfl, _, rfl, pq, _, _, _, rfl, rfl, same_t s2 hpq, atI_nat hxr, _, rfl, _, rfl, xr, vt, rd, b, C.length, r, tape, rfl, dp_same s2 _ _ hdr, okr, dp_same s2 _ _ ht, htb, by omega, hl, fun H3 v br s3 hb hv => ?_⟩
      obtain ⟨pb, x0, x1, rfl, hpb, hd0, hd1⟩ := br_at hv
      obtain ⟨p0, rfl, hp0⟩ := i_at hd0
      have okb := okr.to br hb
      have short := okr.cm.short br.1 (List.mem_map.mpr ⟨br, hb, rfl⟩)
      have hL3 := s3 _ _ hL2
      have k4 := keepT_nt (o := .lst (zs ++ [x1])) (nt_lst _) hL3
      refine ⟨pb, _, rfl, hpb, rfl, _, _, rfl, _, _, rfl, _, _, rfl, rfl, ?_⟩
      refine ⟨_, rfl, .inl ⟨rfl, _, SqL.of hL3⟩, _, rfl, L, zs, _, rfl, rfl, hL3, line6 (by omega), ?_⟩
      refine ⟨_, rfl, _, rfl, _, _, rfl, .inr ⟨_, sqt_keep k4 hp0, rfl⟩, _, _, rfl, rfl, ?_⟩
      refine ⟨br.2.2, rd + br.1.length, some (.int (0 + (i : Int))), some (.ref p0), some x1, zs ++ [x1], shs ++ [br.2.1], ?_, same_mut (s2.trans s3) hL, upd_same, ?_, by rw [List.length_append, hsl]; rfl, way.snoc hr1 hb, okb.1, by omega, fun sh h => ?_⟩
      · rw [Int.natCast_add, List.length_map]
        rfl
      · rw [List.map_append]
        exact dpA_snoc (dpA_keep k4 _ _ (noLs_sh shs) (dpA_same s3 _ _ hzs)) (dp_keep k4 _ _ (dSh_noL _) hd1)
      · rcases List.mem_append.mp h with h | h
        · exact h6 sh h
        · rw [List.mem_singleton.mp h]
          exact okb.2
    · rintro σ H2 ⟨st, rd, y7, y8, y9, zs, shs, rfl, s2, hL2, hzs, hsl, way, hst, hrd, h6⟩
      refine ⟨_, rfl, L, zs, rfl, .inl ⟨SqL.of hL2, fun pt hpt => ⟨_, rfl, _, rfl, by show 3 ≤ sizeLine; decide, fun p hp => ?_⟩⟩⟩
      have s3 := same_new (o := .tup zs) hpt
      have s4 := same_new (o := .tup [.ref pt, .int st, .int rd]) hp
      exact q _ _ shs st rd (s2.trans (s3.trans s4)) way hsl h6 (.tup (SqT.of upd_same) (.cons (.tup (SqT.of (s4 _ _ upd_same)) (dpA_same (s3.trans s4) _ _ hzs)) (.cons (.int _) (.cons (.int _) .nil))))
end
end Mt
namespace Mt
open PySem PySem.Spec PyProof.Rows L2
abbrev Lf : Type := List Int × List (List Str) × Nat
def dSs (l : List (List Str)) : PyData := .tuple (l.map dSh)
def dLf (x : Lf) : PyData := .tuple [dI x.1, dSs x.2.1, .int (x.2.2 : Int)]
def ext (x : Lf) (b : Br) : Lf := (x.1 ++ b.1, x.2.1 ++ [b.2.1], b.2.2)
def lv (C : Chn) : Nat → List Lf
  | 0 => [([], [], 0)]
  | n + 1 => (lv C n).flatMap fun x => (rowOf C x.2.2).map (ext x)
theorem dSs_noL (l : List (List Str)) : noL (dSs l) = true := noLs_sh l
theorem dLf_noL (x : Lf) : noL (dLf x) = true := by
  show (noL (dI x.1) && (noL (dSs x.2.1) && (true && true))) = true
  rw [dI_noL, dSs_noL]
  rfl
theorem noLs_lf (l : List Lf) : noLs (l.map dLf) = true := noLs_map _ _ fun x _ => dLf_noL x
theorem lv_ok {base : Int} {C : Chn} (ok : ChnOk base C) : ∀ (n : Nat) (x : Lf), x ∈ lv C n → x.1.length ≤ 3 * n ∧ x.2.1.length = n ∧ x.2.2 < C.length
  | 0, x, h => by
    have : x = ([], [], 0) := List.mem_singleton.mp h
    rw [this]
    exact ⟨Nat.le_refl _, rfl, ok.pos⟩
  | n + 1, x, h => by
    obtain ⟨y, hy, h⟩ := List.mem_flatMap.mp h
    obtain ⟨b, hb, rfl⟩ := List.mem_map.mp h
    obtain ⟨h1, h2, h3⟩ := lv_ok ok n y hy
    have hr := List.mem_of_getElem? (rowOf_at h3)
    have okr := ok.row _ hr
    have short := okr.cm.short b.1 (List.mem_map.mpr ⟨b, hb, rfl⟩)
    refine ⟨?_, ?_, (okr.to b hb).1⟩
    · show (y.1 ++ b.1).length ≤ _
      rw [List.length_append]
      omega
    · show (y.2.1 ++ [b.2.1]).length = _
      rw [List.length_append, h2]
      rfl
theorem lf_at {K : PySem.W.Frag} {H : Hp} {v : V} {x : Lf} (h : Dp K H v (dLf x)) : ∃ p x0 x1, v = .ref p ∧ SqT K H p [x0, x1, .int x.2.2] ∧ Dp K H x0 (dI x.1) ∧ Dp K H x1 (dSs x.2.1) := by
  obtain ⟨p, xs, rfl, h1, hA⟩ := dp_tup h
  obtain ⟨x0, r0, rfl, h0, hA⟩ := dpA_cons hA
  obtain ⟨x1, r1, rfl, h2, hA⟩ := dpA_cons hA
  obtain ⟨x2, r2, rfl, h3, hA⟩ := dpA_cons hA
  cases dpA_nil hA
  rw [dp_int h3] at h1
  exact ⟨p, x0, x1, rfl, h1, h0, h2⟩
def spLeaves (K : PySem.W.Frag) : Sp := fun vs H Q _ => ∃ (vc : V) (n : Nat) (base : Int) (C : Chn), vs = [vc, .int n, .int 64] ∧ Dp K H vc (dChn base C) ∧ ChnOk base C ∧ n ≤ 10 ∧
  (∀ H', Same H H' → (∃ m, m ≤ n ∧ 64 < (lv C m).length) → Q .non H') ∧ ∀ H' v, Same H H' → Dp K H' v (.list ((lv C n).map dLf)) → (lv C n).length ≤ 64 → Q v H'
theorem flat_take {α β : Type} {f : α → List β} {l : List α} {i : Nat} {x : α} (h : l[i]? = some x) : (l.take (i + 1)).flatMap f = (l.take i).flatMap f ++ f x := by
  rw [List.take_add_one, h, List.flatMap_append]
  simp
theorem lenflat {base : Int} {C : Chn} (ok : ChnOk base C) {l : List Lf} (h : ∀ x ∈ l, x.2.2 < C.length) : (l.flatMap fun x => (rowOf C x.2.2).map (ext x)).length ≤ 20 * l.length := by
  induction l with
  | nil => exact Nat.le_refl _
  | cons x r ih =>
    rw [List.flatMap_cons, List.length_append, List.length_map, List.length_cons]
    have a := (ok.row _ (List.mem_of_getElem? (rowOf_at (h x List.mem_cons_self)))).few
    have b := ih fun y hy => h y (List.mem_cons_of_mem _ hy)
    omega
section
variable {P : Program} {w : World} {K : PySem.W.Frag} {mg : Str → Option Value} {base : Heap}
theorem ok__law_leaves (T : Txt K mg) {f : Addr} {fd : FuncData} (F : FnP K "_law_leaves" s__law_leaves f fd) : FnOk P w K mg base CX0 1 f fd ["chain", "n", "most"] (spLeaves K) := by
  refine F.ok sc__law_leaves (fun vs H Q E h => ?_) (fun cdv A outer s H vs Q E hr h => ?_)
  · obtain ⟨vc, n, b, C, rfl, _⟩ := h
    rfl
  · obtain ⟨vc, n, b, C, rfl, hC, ok, hn, qn, q⟩ := h
    refine ⟨_, PSs.nox (pss_cons (ps_set (i := 3) sc__law_leaves.nd rfl (Or.inl rfl) (pe_lst (pa_cons (pe_tup (pa_cons (pe_tup pa_nil) (pa_cons (pe_tup pa_nil) (pa_cons pe_int pa_nil)))) pa_nil)))
      (pss_cons (ps_for PassesOwn.never rfl (pi_range1 (by rfl) T.b_range (pa_cons (pv 1) pa_nil)) (pg_name (i := 4) sc__law_leaves.nd rfl (Or.inl rfl)) (pss_cons (ps_set (i := 5) sc__law_leaves.nd rfl (Or.inl rfl) (pe_lst pa_nil))
      (pss_cons (ps_for PassesOwn.never rfl (pi_list (pv 3)) (pg_tup rfl (pgs_cons (pg_name (i := 6) sc__law_leaves.nd rfl (Or.inl rfl)) (pgs_cons (pg_name (i := 7) sc__law_leaves.nd rfl (Or.inl rfl)) (pgs_cons (pg_name (i := 8) sc__law_leaves.nd rfl (Or.inl rfl)) pgs_nil)))) (pss_one (ps_for PassesOwn.never rfl (pi_tup (pe_ix ix_tup (pe_ix ix_tup (pv 0) pe_int (fun _ _ => rfl)) (pv 8) (fun _ _ => rfl))) (pg_tup rfl (pgs_cons (pg_name (i := 9) sc__law_leaves.nd rfl (Or.inl rfl)) (pgs_cons (pg_name (i := 10) sc__law_leaves.nd rfl (Or.inl rfl)) (pgs_cons (pg_name (i := 11) sc__law_leaves.nd rfl (Or.inl rfl)) pgs_nil)))) (pss_one (ps_expr (pe_bm PySem.F.plainAttrs_list PySem.F.slot_list_append PySem.F.type_list_append mt_append (pv 5) (pa_cons (pe_tup (pa_cons (pe_op op_catA (pv 6) (pv 9)) (pa_cons (pe_op op_catA (pv 7) (pe_tup (pa_cons (pv 10) pa_nil))) (pa_cons (pv 11) pa_nil)))) pa_nil)))))))
      (pss_cons (ps_set (i := 3) sc__law_leaves.nd rfl (Or.inl rfl) (pv 5))
      (pss_one (ps_if (pt_cmpR op_gt (pe_callB call_len (by rfl) T.b_len (by decide +kernel) (pa_cons (pv 3) pa_nil)) (pv 2) (nomark _)) (pss_one (ps_ret pe_non)) pss_nil))))))
      (pss_one (ps_ret (pv 3))))), ?_⟩
    obtain ⟨pc, pq, xs, rfl, hpc, hpq, hA⟩ := chn_at hC
    have xl := dpA_len hA
    rw [List.length_map] at xl
    refine ⟨Nat.zero_le _, fun p1 hp1 => ⟨Nat.zero_le _, fun p2 hp2 => ⟨by show 3 ≤ sizeLine; decide, fun p3 hp3 => ⟨by show 1 ≤ sizeLine; decide, fun L hL => ?_⟩⟩⟩⟩
    have s1 := (((same_new (o := .tup []) hp1).trans (same_new (o := .tup []) hp2)).trans (same_new (o := .tup [.ref p1, .ref p2, .int 0]) hp3)).trans (same_new (o := .lst [.ref p3]) hL)
    have hd : DpAll K (upd (upd (upd (upd H p1 (.tup [])) p2 (.tup [])) p3 (.tup [.ref p1, .ref p2, .int 0])) L (.lst [.ref p3])) [.ref p3] ((lv C 0).map dLf) := by
      have s4 := same_new (o := .lst [.ref p3]) hL
      have s34 := (same_new (o := .tup [.ref p1, .ref p2, .int 0]) hp3).trans s4
      refine .cons (.tup (SqT.of (s4 _ _ upd_same)) (.cons (.tup (SqT.of (s34 _ _ ((same_new hp2) _ _ upd_same))) .nil) (.cons (.tup (SqT.of (s34 _ _ upd_same)) .nil) (.cons (.int _) .nil)))) .nil
    have hL1 := upd_same (H := upd (upd (upd H p1 (.tup [])) p2 (.tup [])) p3 (.tup [.ref p1, .ref p2, .int 0])) (a := L) (o := .lst [.ref p3])
    generalize upd (upd (upd (upd H p1 (.tup [])) p2 (.tup [])) p3 (.tup [.ref p1, .ref p2, .int 0])) L (.lst [.ref p3]) = H1 at s1 hd hL1
    refine ⟨_, rfl, _, rfl, by omega, by omega, for_range (lo := 0) (n := n) (fun i σ H' => ∃ (L0 : Addr) (zs : List V) (y4 y5 y6 y7 y8 y9 y10 y11 : Option V), σ = [some (.ref pc), some (.int n), some (.int 64), some (.ref L0), y4, y5, y6, y7, y8, y9, y10, y11] ∧ Same H H' ∧ H' L0 = some (.lst zs) ∧ DpAll K H' zs ((lv C i).map dLf) ∧ (lv C i).length ≤ 64) ⟨L, _, _, _, _, _, _, _, _, _, rfl, s1, hL1, hd, (by show 1 ≤ 64; decide)⟩ ?_ ?_⟩
    · rintro i σ H2 hi ⟨L0, zs, y4, y5, y6, y7, y8, y9, y10, y11, rfl, s2, hL2, hzs, h64⟩
      have zl := dpA_len hzs
      rw [List.length_map] at zl
      have lok := lv_ok ok i
      refine ⟨Nat.zero_le _, fun F hF => ?_⟩
      have sF := same_new (o := .lst []) hF
      have hF3 := upd_same (H := H2) (a := F) (o := .lst [])
      generalize upd H2 F (.lst []) = H3 at sF hF3
      refine ⟨_, rfl, L0, rfl, ⟨_, SqL.of (sF _ _ hL2)⟩, for_list (K := K) (a := L0) (xs := zs) (fun j σ H' => ∃ (qs : List V) (y6 y7 y8 y9 y10 y11 : Option V), σ = [some (.ref pc), some (.int n), some (.int 64), some (.ref L0), some (.int (0 + (i : Int))), some (.ref F), y6, y7, y8, y9, y10, y11] ∧ Same H2 H' ∧ H' F = some (.lst qs) ∧ DpAll K H' qs ((((lv C i).take j).flatMap fun x => (rowOf C x.2.2).map (ext x)).map dLf)) ⟨[], _, _, _, _, _, _, rfl, sF, hF3, .nil⟩ (fun j σ H' _ ⟨_, _, _, _, _, _, _, _, s, _⟩ => SqL.of (s _ _ hL2)) ?_ ?_⟩
      · rintro j x σ H4 hj ⟨qs, y6, y7, y8, y9, y10, y11, rfl, s4, hF4, hqs⟩
        obtain ⟨lf, hlf, hx⟩ := dpA_mem hzs hj
        obtain ⟨k1, k2, k3⟩ := lok lf (List.mem_of_getElem? hlf)
        obtain ⟨pl, x0, x1, rfl, hpl, hd0, hd1⟩ := lf_at hx
        obtain ⟨p0, rfl, hp0⟩ := i_at hd0
        obtain ⟨p1, ys, rfl, hp1, hys⟩ := dp_tup hd1
        have yl := dpA_len hys
        rw [List.length_map] at yl
        obtain ⟨xr, hxr, hdr⟩ := dpA_get hA (rowOf_at k3)
        obtain ⟨pr, rs, rfl, hpr, hrs⟩ := dp_tup hdr
        have rl := dpA_len hrs
        rw [List.length_map] at rl
        have okr := ok.row _ (List.mem_of_getElem? (rowOf_at k3))
        have jl := (List.getElem?_eq_some_iff.mp hlf).1
        have fl := lenflat ok (l := (lv C i).take j) fun x hx => (lok x (List.mem_of_mem_take hx)).2.2
        rw [List.length_take] at fl
        have ql := dpA_len hqs
        rw [List.length_map] at ql
        have few := okr.few
        refine ⟨_, _, rfl, same_t s4 hpl, rfl, _, _, rfl, _, _, rfl, _, _, rfl, rfl, ?_⟩
        refine ⟨_, rfl, pc, _, _, _, rfl, rfl, same_t (s2.trans s4) hpc, atI_nat (j := 2) rfl, _, rfl, pq, _, _, _, rfl, rfl, same_t (s2.trans s4) hpq, atI_nat hxr, pr, rfl, ⟨_, same_t (s2.trans s4) hpr⟩, for_tup (K := K) (a := pr) (xs := rs) (fun k σ H' => ∃ (qs : List V) (y9 y10 y11 : Option V), σ = [some (.ref pc), some (.int n), some (.int 64), some (.ref L0), some (.int (0 + (i : Int))), some (.ref F), some (.ref p0), some (.ref p1), some (.int lf.2.2), y9, y10, y11] ∧ Same H2 H' ∧ H' F = some (.lst qs) ∧ DpAll K H' qs (((((lv C i).take j).flatMap fun x => (rowOf C x.2.2).map (ext x)) ++ ((rowOf C lf.2.2).take k).map (ext lf)).map dLf)) ⟨qs, _, _, _, rfl, s4, hF4, by rw [List.take_zero, List.map_nil, List.append_nil]; exact hqs⟩ (fun k σ H' _ ⟨_, _, _, _, _, s, _⟩ => same_t (s2.trans s) hpr) ?_ ?_⟩
        · rintro k y σ H5 hk ⟨qs, y9, y10, y11, rfl, s5, hF5, hqs⟩
          obtain ⟨br, hbr, hy⟩ := dpA_mem hrs hk
          have kl := (List.getElem?_eq_some_iff.mp hbr).1
          obtain ⟨pb, z0, z1, rfl, hpb, he0, he1⟩ := br_at hy
          obtain ⟨q0, rfl, hq0⟩ := i_at he0
          have okb := okr.to br (List.mem_of_getElem? hbr)
          have short := okr.cm.short br.1 (List.mem_map.mpr ⟨br, List.mem_of_getElem? hbr, rfl⟩)
          have s25 := s2.trans s5
          have ql2 := dpA_len hqs
          rw [List.length_map, List.length_append, List.length_map, List.length_take] at ql2
          refine ⟨_, _, rfl, same_t s25 hpb, rfl, _, _, rfl, _, _, rfl, _, _, rfl, rfl, ?_⟩
          refine ⟨_, rfl, .inl ⟨rfl, _, SqL.of hF5⟩, _, rfl, _, rfl, ?_⟩
          refine catA_mono (cat_D (same_t s5 hp0) (same_t s25 hq0) (ints_dp lf.1) (ints_dp br.1) (by rw [List.length_map, List.length_map]; omega)) fun v6 H6 ⟨s6, d6⟩ => ?_
          have s56 := s5.trans s6
          refine ⟨_, rfl, _, rfl, by show 1 ≤ sizeLine; decide, fun p7 hp7 => ?_⟩
          have s7 := same_new (o := .tup [z1]) hp7
          have hp71 := upd_same (H := H6) (a := p7) (o := .tup [z1])
          generalize upd H6 p7 (.tup [z1]) = H7 at s7 hp71
          have s67 := s6.trans s7
          refine catA_mono (cat_D (same_t (s5.trans s67) hp1) (SqT.of hp71) (dpA_same (s5.trans s67) _ _ hys) (.cons (dp_same (s25.trans s67) _ _ he1) .nil) (by rw [List.length_map]; show _ + 1 ≤ _; omega)) fun v8 H8 ⟨s8, d8⟩ => ?_
          refine ⟨_, rfl, by show 3 ≤ sizeLine; decide, fun pn hpn => ?_⟩
          have s9 := (s67.trans s8).trans (same_new (o := .tup [v6, v8, .int br.2.2]) hpn)
          have sn := same_new (o := .tup [v6, v8, .int br.2.2]) hpn
          have hpn9 := upd_same (H := H8) (a := pn) (o := .tup [v6, v8, .int br.2.2])
          generalize upd H8 pn (.tup [v6, v8, .int br.2.2]) = H9 at s9 sn hpn9
          have hF9 := s9 _ _ hF5
          have kF := keepT_nt (o := .lst (qs ++ [.ref pn])) (nt_lst _) hF9
          have dn : Dp K H9 (.ref pn) (dLf (ext lf br)) := by
            refine .tup (SqT.of hpn9) (.cons ?_ (.cons ?_ (.cons (.int _) .nil)))
            · have := dp_same (s7.trans (s8.trans sn)) _ _ d6
              rw [← List.map_append] at this
              exact this
            · have := dp_same sn _ _ d8
              show Dp K H9 v8 (.tuple ((lf.2.1 ++ [br.2.1]).map dSh))
              rw [List.map_append]
              exact this
          refine ⟨F, qs, _, rfl, rfl, hF9, line6 (by omega), qs ++ [.ref pn], _, _, _, rfl, same_mut (s5.trans s9) hF, upd_same, ?_⟩
          rw [List.take_add_one, hbr, List.map_append (f := ext lf), ← List.append_assoc, List.map_append (f := dLf)]
          exact dpA_snoc (dpA_keep kF _ _ (noLs_lf _) (dpA_same s9 _ _ hqs)) (dp_keep kF _ _ (dLf_noL _) dn)
        · rintro σ H5 ⟨qs, y9, y10, y11, rfl, s5, hF5, hqs⟩
          rw [rl, List.take_length] at hqs
          refine ⟨qs, _, _, _, _, _, _, rfl, s5, hF5, ?_⟩
          rw [flat_take hlf]
          exact hqs
      · rintro σ H4 ⟨qs, y6, y7, y8, y9, y10, y11, rfl, s4, hF4, hqs⟩
        rw [zl, List.take_length] at hqs
        have ql := dpA_len hqs
        rw [List.length_map] at ql
        have hqs' : DpAll K H4 qs ((lv C (i + 1)).map dLf) := hqs
        refine ⟨_, rfl, _, rfl, _, _, rfl, .inl ⟨_, SqL.of hF4, rfl⟩, _, rfl, _, _, rfl, rfl, _, rfl, ?_⟩
        refine ite2 (fun h => qn _ (s2.trans s4) ⟨i + 1, by omega, by have h' : (64 : Int) < (qs.length : Int) := of_decide_eq_true h; have ql' := dpA_len hqs'; rw [List.length_map] at ql'; omega⟩) (fun h => ⟨F, qs, _, _, _, _, _, _, _, _, rfl, s2.trans s4, hF4, hqs', ?_⟩)
        have h' : ¬ ((64 : Int) < (qs.length : Int)) := fun k => h (decide_eq_true k)
        have ql' := dpA_len hqs'
        rw [List.length_map] at ql'
        omega
    · rintro σ H2 ⟨L0, zs, y4, y5, y6, y7, y8, y9, y10, y11, rfl, s2, hL2, hzs, h64⟩
      exact ⟨_, rfl, q _ _ s2 (.lst (SqL.of hL2) hzs) h64⟩
end
end Mt
namespace Mt
open PySem PySem.Spec PyProof.Rows L2
def sucB (W : Wt) (p : Pr) (br : Br) : Pr := ((br.2.2 : Int), (wStep W p.2.toNat br.2.1 : Int))
theorem sc_eq (C : Chn) (W : Wt) (p : Pr) : sc C W p = (rowOf C p.1.toNat).map (sucB W p) := rfl
theorem sc_get {C : Chn} {W : Wt} {p : Pr} {j : Nat} {br : Br} (h : (rowOf C p.1.toNat)[j]? = some br) : (sc C W p)[j]? = some (sucB W p br) := by
  rw [sc_eq, List.getElem?_map, h]
  rfl
/-- how many steps away the nearest bad pair is -/
structure FarOk (C : Chn) (W : Wt) (F : Pr → Option Nat) : Prop where
  bad : ∀ p, inR C.length W.rows.length p → (F p = some 0 ↔ p.2.toNat ∈ W.bad)
  step : ∀ p, inR C.length W.rows.length p → ∀ s ∈ sc C W p, ∀ k, F s = some k → ∃ j, j ≤ k + 1 ∧ F p = some j
  ex : ∀ p, inR C.length W.rows.length p → ∀ k, F p = some (k + 1) → ∃ s ∈ sc C W p, F s = some k
def gr (C : Chn) (W : Wt) (F : Pr → Option Nat) : Nat → Pr → List (List Int)
  | 0, _ => []
  | k + 1, p => match (rowOf C p.1.toNat).find? fun br => decide (F (sucB W p br) = some k) with
    | some br => br.1 :: gr C W F k (sucB W p br)
    | none => []
theorem find_first {α : Type} {l : List α} {j : Nat} {x : α} {f : α → Bool} (h : l[j]? = some x) (hx : f x = true) (no : ∀ y ∈ l.take j, ¬ f y = true) : l.find? f = some x := by
  refine List.find?_eq_some_iff_append.mpr ⟨hx, l.take j, l.drop (j + 1), ?_, fun a ha => ?_⟩
  · have jl := (List.getElem?_eq_some_iff.mp h).1
    have e : l.drop j = x :: l.drop (j + 1) := by
      rw [List.drop_eq_getElem_cons jl]
      rw [(List.getElem?_eq_some_iff.mp h).2]
    rw [← e, List.take_append_drop]
  · have := no a ha
    cases q : f a
    · rfl
    · exact absurd q this
theorem gr_at {C : Chn} {W : Wt} {F : Pr → Option Nat} {k : Nat} {p : Pr} {j : Nat} {br : Br} (h : (rowOf C p.1.toNat)[j]? = some br) (e : F (sucB W p br) = some k) (no : ∀ s ∈ (sc C W p).take j, F s ≠ some k) : gr C W F (k + 1) p = br.1 :: gr C W F k (sucB W p br) := by
  have := find_first (f := fun br => decide (F (sucB W p br) = some k)) h (decide_eq_true e) fun y hy hh => by
    refine no (sucB W p y) ?_ (of_decide_eq_true hh)
    rw [sc_eq, ← List.map_take]
    exact List.mem_map.mpr ⟨y, hy, rfl⟩
  show (match (rowOf C p.1.toNat).find? fun br => decide (F (sucB W p br) = some k) with
    | some br => br.1 :: gr C W F k (sucB W p br)
    | none => []) = _
  rw [this]
theorem sc_in {base : Int} {C : Chn} {W : Wt} (ok : ChnOk base C) (okw : WtOk W) {p s : Pr} (h : inR C.length W.rows.length p) (hs : s ∈ sc C W p) : inR C.length W.rows.length s := by
  rw [sc_eq] at hs
  obtain ⟨br, hbr, rfl⟩ := List.mem_map.mp hs
  obtain ⟨h1, h2, h3, h4⟩ := h
  have a : p.1.toNat < C.length := by omega
  have b : p.2.toNat < W.rows.length := by omega
  have okb := (ok.row _ (List.mem_of_getElem? (rowOf_at a))).to br hbr
  have wl := wStep_lt okw b br.2.1
  have := okb.1
  exact ⟨by show (0 : Int) ≤ (br.2.2 : Int); omega, by show (br.2.2 : Int) < _; omega, by show (0 : Int) ≤ (wStep W p.2.toNat br.2.1 : Int); omega, by show (wStep W p.2.toNat br.2.1 : Int) < _; omega⟩
def Rch (C : Chn) (W : Wt) (p : Pr) : Prop := ∀ Z : Pr → Prop, Z (0, 0) → (∀ p, Z p → ∀ s ∈ sc C W p, Z s) → Z p
theorem Rch.root {C : Chn} {W : Wt} : Rch C W (0, 0) := fun _ h _ => h
theorem Rch.next {C : Chn} {W : Wt} {p s : Pr} (h : Rch C W p) (hs : s ∈ sc C W p) : Rch C W s := fun Z h1 h2 => h2 p (h Z h1 h2) s hs
theorem root_in {base : Int} {C : Chn} {W : Wt} (ok : ChnOk base C) (okw : WtOk W) : inR C.length W.rows.length (0, 0) := by
  have := ok.pos
  have := okw.pos
  exact ⟨by decide, by show (0 : Int) < _; omega, by decide, by show (0 : Int) < _; omega⟩
theorem Rch.in {base : Int} {C : Chn} {W : Wt} (ok : ChnOk base C) (okw : WtOk W) {p : Pr} (h : Rch C W p) : inR C.length W.rows.length p := h _ (root_in ok okw) fun _ hp _ hs => sc_in ok okw hp hs
/-- nothing bad from the beginning: nothing bad anywhere -/
theorem Rch.none {base : Int} {C : Chn} {W : Wt} {F : Pr → Option Nat} (ok : ChnOk base C) (okw : WtOk W) (fo : FarOk C W F) (h0 : F (0, 0) = none) {p : Pr} (h : Rch C W p) : F p = none := by
  refine (h (fun p => F p = Option.none ∧ inR C.length W.rows.length p) ⟨h0, root_in ok okw⟩ fun p hp s hs => ⟨?_, sc_in ok okw hp.2 hs⟩).1
  cases e : F s with
  | none => rfl
  | some k =>
    obtain ⟨j, _, hj⟩ := fo.step p hp.2 s hs k e
    rw [hp.1] at hj
    cases hj
theorem Met.rch {C : Chn} {W : Wt} {qs : List Pr} (m : MetI C W [(0, 0)] qs.length qs) (p : Pr) : p ∈ qs ↔ Rch C W p :=
  ⟨fun h Z h1 h2 => m.lfp Z (fun z hz => by rw [List.mem_singleton.mp hz]; exact h1) h2 p h, fun h => h _ (m.sub _ (List.mem_singleton.mpr rfl)) fun p hp s hs => m.done p (by rw [List.take_length]; exact hp) s hs⟩
def dP (p : Pr) : PyData := .tuple [.int p.1, .int p.2]
def dBreaks (bl : List (List Int)) : PyData := .tuple [.str "breaks", .tuple (bl.map dI)]
def dHolds (L : List Pr) : PyData := .tuple [.str "holds", .tuple (L.map dP)]
def leP (a b : Pr) : Prop := SrtO.lexB b a = false
structure HoldL (C : Chn) (W : Wt) (L : List Pr) : Prop where
  srt : L.Pairwise leP
  nd : L.Nodup
  all : ∀ p, p ∈ L ↔ Rch C W p
theorem HoldL.uniq {C : Chn} {W : Wt} {L M : List Pr} (a : HoldL C W L) (b : HoldL C W M) : L = M := by
  refine List.Perm.eq_of_pairwise (fun x y _ _ h1 h2 => ?_) a.srt b.srt ((List.perm_ext_iff_of_nodup a.nd b.nd).mpr fun p => (a.all p).trans (b.all p).symm)
  have k1 := SrtO.lexB_no.mp h1
  have k2 := SrtO.lexB_no.mp h2
  exact Prod.ext (by omega) (by omega)
/-- the answer that is due -/
def DueP (C : Chn) (W : Wt) (d : PyData) : Prop := ∀ F, FarOk C W F → (∀ k, F (0, 0) = some k → d = dBreaks (gr C W F k (0, 0))) ∧ (F (0, 0) = none → ∃ L, d = dHolds L ∧ HoldL C W L)
theorem DueP.uniq {C : Chn} {W : Wt} {F : Pr → Option Nat} {d e : PyData} (fo : FarOk C W F) (a : DueP C W d) (b : DueP C W e) : d = e := by
  obtain ⟨a1, a2⟩ := a F fo
  obtain ⟨b1, b2⟩ := b F fo
  cases h : F (0, 0) with
  | some k => rw [a1 k h, b1 k h]
  | none =>
    obtain ⟨L, rfl, hL⟩ := a2 h
    obtain ⟨M, rfl, hM⟩ := b2 h
    rw [hL.uniq hM]
theorem dBreaks_noL (bl : List (List Int)) : noL (dBreaks bl) = true := by
  show (true && (noLs (bl.map dI) && true)) = true
  rw [noLs_I]
  rfl
theorem dHolds_noL (L : List Pr) : noL (dHolds L) = true := by
  show (true && (noLs (L.map dP) && true)) = true
  rw [noLs_map _ _ fun _ _ => rfl]
  rfl
theorem gr_len (C : Chn) (W : Wt) (F : Pr → Option Nat) : ∀ k p, (gr C W F k p).length ≤ k
  | 0, _ => Nat.le_refl _
  | k + 1, p => by
    show (match (rowOf C p.1.toNat).find? fun br => decide (F (sucB W p br) = some k) with
      | some br => br.1 :: gr C W F k (sucB W p br)
      | none => []).length ≤ k + 1
    split
    · rw [List.length_cons]
      have := gr_len C W F k (sucB W p ‹Br›)
      omega
    · exact Nat.zero_le _
/-! ### a dict keyed by pairs -/
structure FD (n m : Nat) (kvs : List (List L2.Key × V)) (F : Pr → Option V) (ps : List Pr) : Prop where
  val : ∀ p, valV kvs (kP p) = F p
  ks : kvs.map (·.1) = ps.map kP
  nd : ps.Nodup
  rg : ∀ p ∈ ps, inR n m p
theorem FD.nil {n m : Nat} : FD n m [] (fun _ => none) [] := ⟨fun _ => rfl, rfl, List.nodup_nil, fun _ h => absurd h List.not_mem_nil⟩
theorem FD.len {n m : Nat} {kvs : List (List L2.Key × V)} {F : Pr → Option V} {ps : List Pr} (h : FD n m kvs F ps) : kvs.length = ps.length := by
  have := congrArg List.length h.ks
  rw [List.length_map, List.length_map] at this
  exact this
theorem FD.few {n m : Nat} {kvs : List (List L2.Key × V)} {F : Pr → Option V} {ps : List Pr} (h : FD n m kvs F ps) : kvs.length ≤ n * m := by
  rw [h.len]
  exact pr_few h.nd h.rg
theorem FD.mem {n m : Nat} {kvs : List (List L2.Key × V)} {F : Pr → Option V} {ps : List Pr} (h : FD n m kvs F ps) (p : Pr) : p ∈ ps ↔ F p ≠ none := by
  have e := valV_any (kP p) kvs
  rw [h.val p] at e
  constructor
  · intro hp hn
    rw [hn] at e
    have : kP p ∈ kvs.map (·.1) := by
      rw [h.ks]
      exact List.mem_map.mpr ⟨p, hp, rfl⟩
    obtain ⟨kv, hkv, e2⟩ := List.mem_map.mp this
    have t : (kvs.any fun kv => decide (kv.1 = kP p)) = true := List.any_eq_true.mpr ⟨kv, hkv, decide_eq_true e2⟩
    rw [t] at e
    cases e
  · intro hn
    have t : (kvs.any fun kv => decide (kv.1 = kP p)) = true := by
      cases hF : F p with
      | none => exact absurd hF hn
      | some v =>
        rw [hF] at e
        exact e
    obtain ⟨kv, hkv, e2⟩ := List.any_eq_true.mp t
    have : kv.1 ∈ ps.map kP := by
      rw [← h.ks]
      exact List.mem_map.mpr ⟨kv, hkv, rfl⟩
    obtain ⟨q, hq, e3⟩ := List.mem_map.mp this
    rw [of_decide_eq_true e2] at e3
    rw [← kP_inj e3]
    exact hq
theorem FD.has {n m : Nat} {kvs : List (List L2.Key × V)} {F : Pr → Option V} {ps : List Pr} (h : FD n m kvs F ps) {p : Pr} (hp : p ∈ ps) : (kvs.any fun kv => decide (kv.1 = kP p)) = true := by
  have : kP p ∈ kvs.map (·.1) := by
    rw [h.ks]
    exact List.mem_map.mpr ⟨p, hp, rfl⟩
  obtain ⟨kv, hkv, e2⟩ := List.mem_map.mp this
  exact List.any_eq_true.mpr ⟨kv, hkv, decide_eq_true e2⟩
theorem FD.old {n m : Nat} {kvs : List (List L2.Key × V)} {F : Pr → Option V} {ps : List Pr} (h : FD n m kvs F ps) {p : Pr} (hp : p ∈ ps) (v : V) : FD n m (putK kvs (kP p) v) (fun q => if q = p then some v else F q) ps := by
  refine ⟨fun q => ?_, ?_, h.nd, h.rg⟩
  · rw [valV_put, h.val]
    by_cases e : q = p
    · rw [if_pos (by rw [e]), if_pos e]
    · rw [if_neg fun k => e (kP_inj k), if_neg e]
  · unfold putK
    rw [if_pos (h.has hp), List.map_map, ← h.ks]
    refine List.map_congr_left fun kv _ => ?_
    show (if kv.1 = kP p then (kv.1, v) else kv).1 = kv.1
    split <;> rfl
theorem FD.new {n m : Nat} {kvs : List (List L2.Key × V)} {F : Pr → Option V} {ps : List Pr} (h : FD n m kvs F ps) {p : Pr} (hp : p ∉ ps) (hr : inR n m p) (v : V) : FD n m (putK kvs (kP p) v) (fun q => if q = p then some v else F q) (ps ++ [p]) := by
  refine ⟨fun q => ?_, ?_, ?_, fun z hz => ?_⟩
  · rw [valV_put, h.val]
    by_cases e : q = p
    · rw [if_pos (by rw [e]), if_pos e]
    · rw [if_neg fun k => e (kP_inj k), if_neg e]
  · have no : ¬ (kvs.any fun kv => decide (kv.1 = kP p)) = true := fun t => by
      obtain ⟨kv, hkv, e2⟩ := List.any_eq_true.mp t
      have : kv.1 ∈ ps.map kP := by
        rw [← h.ks]
        exact List.mem_map.mpr ⟨kv, hkv, rfl⟩
      obtain ⟨q, hq, e3⟩ := List.mem_map.mp this
      rw [of_decide_eq_true e2] at e3
      exact hp (kP_inj e3 ▸ hq)
    unfold putK
    rw [if_neg no, List.map_append, List.map_append, h.ks]
    rfl
  · exact List.nodup_append.mpr ⟨h.nd, List.nodup_cons.mpr ⟨List.not_mem_nil, List.nodup_nil⟩, fun a ha b hb e => by
      rw [List.mem_singleton.mp hb] at e
      exact hp (e ▸ ha)⟩
  · rcases List.mem_append.mp hz with k | k
    · exact h.rg z k
    · rw [List.mem_singleton.mp k]
      exact hr
end Mt
namespace Mt
open PySem PySem.Spec PyProof.Rows L2
def spLeads (K : PySem.W.Frag) : Sp := fun vs H Q _ => ∃ (vc vw : V) (sn cn : Nat) (d : Addr) (base : Int) (C : Chn) (W : Wt) (kvs : List (List L2.Key × V)) (Fv : Pr → Option V) (ps : List Pr), vs = [vc, vw, .int (sn : Int), .int (cn : Int), .ref d] ∧ Dp K H vc (dChn base C) ∧ ChnOk base C ∧ Dp K H vw (dWt W) ∧ WtOk W ∧ sn < C.length ∧ cn < W.rows.length ∧ H d = some (.dT kvs) ∧ FD C.length W.rows.length kvs Fv ps ∧
  ∀ H' b, Same H H' → (b = true ↔ ∃ x ∈ sc C W ((sn : Int), (cn : Int)), Fv x ≠ none) → Q (.bl b) H'
section
variable {P : Program} {w : World} {K : PySem.W.Frag} {mg : Str → Option Value} {base : Heap}
theorem ok__law_leads (T : Txt K mg) (D__law_watch_step : Kept P w K mg base 1 "_law_watch_step" ["watch", "state", "shown"] (spPlace K)) {f : Addr} {fd : FuncData} (F : FnP K "_law_leads" s__law_leads f fd) : FnOk P w K mg base CX0 2 f fd ["chain", "watch", "state", "here", "found"] (spLeads K) := by
  refine F.ok sc__law_leads (fun vs H Q E h => ?_) (fun cdv A outer s H vs Q E hr h => ?_)
  · obtain ⟨vc, vw, sn, cn, d, b, C, W, kvs, Fv, ps, rfl, _⟩ := h
    rfl
  · obtain ⟨vc, vw, sn, cn, d, b, C, W, kvs, Fv, ps, rfl, hC, ok, hW, okw, sl, cl, hd, fdd, q⟩ := h
    refine ⟨_, PSs.nox (pss_cons (ps_for PassesOwn.never rfl (pi_tup (pe_ix ix_tup (pe_ix ix_tup (pv 0) pe_int (fun _ _ => rfl)) (pv 2) (fun _ _ => rfl))) (pg_tup rfl (pgs_cons (pg_name (i := 5) sc__law_leads.nd rfl (Or.inl rfl)) (pgs_cons (pg_name (i := 6) sc__law_leads.nd rfl (Or.inl rfl)) (pgs_cons (pg_name (i := 7) sc__law_leads.nd rfl (Or.inl rfl)) pgs_nil)))) (pss_one (ps_if (pt_cmp (pc_din (hu_of hr) (pe_tup (pa_cons (pv 7) (pa_cons (pe_d D__law_watch_step (hr.mono (by decide)) (by rfl) (pa_cons (pv 1) (pa_cons (pv 3) (pa_cons (pv 6) pa_nil)))) pa_nil))) (pv 4))) (pss_one (ps_ret pe_bl)) pss_nil)))
      (pss_one (ps_ret pe_bl))), ?_⟩
    obtain ⟨pc, pq, ys, rfl, hpc, hpq, hA⟩ := chn_at (id hC)
    obtain ⟨xr, hxr, hdr⟩ := dpA_get hA (rowOf_at sl)
    obtain ⟨pr, rs, rfl, hpr, hrs⟩ := dp_tup hdr
    have rl := dpA_len hrs
    rw [List.length_map] at rl
    refine ⟨_, rfl, pc, _, _, _, rfl, rfl, hpc, atI_nat (j := 2) rfl, _, rfl, pq, _, _, _, rfl, rfl, hpq, atI_nat hxr, pr, rfl, ⟨_, hpr⟩, for_tup (K := K) (a := pr) (xs := rs) (fun j σ H' => ∃ (y5 y6 y7 : Option V), σ = [some (.ref pc), some vw, some (.int (sn : Int)), some (.int (cn : Int)), some (.ref d), y5, y6, y7] ∧ Same H H' ∧ ∀ s ∈ (sc C W ((sn : Int), (cn : Int))).take j, Fv s = none) ⟨_, _, _, rfl, Same.refl _, fun s h => absurd h List.not_mem_nil⟩ (fun j σ H' _ ⟨_, _, _, _, s, _⟩ => same_t s hpr) ?_ ?_⟩
    · rintro j y σ H5 hj ⟨y5, y6, y7, rfl, s5, no⟩
      obtain ⟨br, hbr, hy⟩ := dpA_mem (dpA_same s5 _ _ hrs) hj
      obtain ⟨pb, x0, x1, rfl, hpb, hd0, hx1⟩ := br_at hy
      have hsc : (sc C W ((sn : Int), (cn : Int)))[j]? = some (sucB W ((sn : Int), (cn : Int)) br) := sc_get (p := ((sn : Int), (cn : Int))) hbr
      refine ⟨pb, _, rfl, hpb, rfl, _, _, rfl, _, _, rfl, _, _, rfl, rfl, ?_⟩
      refine ⟨_, rfl, _, rfl, _, rfl, _, rfl, vw, x1, cn, W, br.2.1, rfl, dp_same s5 _ _ hW, okw, cl, hx1, fun H6 s6 => ⟨z2, fun pt hpt => ?_⟩⟩
      have s7 := (s5.trans s6).trans (same_new (o := .tup [.int (br.2.2 : Int), .int (wStep W cn br.2.1 : Int)]) hpt)
      have hpt7 := upd_same (H := H6) (a := pt) (o := .tup [.int (br.2.2 : Int), .int (wStep W cn br.2.1 : Int)])
      generalize upd H6 pt (.tup [.int (br.2.2 : Int), .int (wStep W cn br.2.1 : Int)]) = H7 at s7 hpt7
      refine ⟨_, rfl, d, _, rfl, DGet.t (k := kP (sucB W ((sn : Int), (cn : Int)) br)) (s7 _ _ hd) hpt7, _, rfl, ?_⟩
      rw [fdd.val]
      cases e : Fv (sucB W ((sn : Int), (cn : Int)) br) with
      | none =>
        refine ite2 (fun h => (nomatch (show false = true from h))) (fun _ => ?_)
        refine ⟨_, _, _, rfl, s7, fun x hx => ?_⟩
        rw [take_snoc hsc] at hx
        rcases List.mem_append.mp hx with hx | hx
        · exact no x hx
        · rw [List.mem_singleton.mp hx]
          exact e
      | some v =>
        refine ite2 (fun _ => ?_) (fun h => absurd rfl h)
        exact q _ _ s7 ⟨fun _ => ⟨_, List.mem_of_getElem? hsc, fun z => by rw [e] at z; cases z⟩, fun _ => rfl⟩
    · rintro σ H5 ⟨y5, y6, y7, rfl, s5, no⟩
      rw [rl, List.take_of_length_le (by rw [sc_eq, List.length_map]; exact Nat.le_refl _)] at no
      exact q _ _ s5 ⟨fun h => (nomatch h), fun ⟨x, hx, hn⟩ => absurd (no x hx) hn⟩
end
/-! ### the search from the bad ones -/
structure FarI (C : Chn) (W : Wt) (i : Nat) (F : Pr → Option Nat) : Prop where
  bad : ∀ p, inR C.length W.rows.length p → (F p = some 0 ↔ p.2.toNat ∈ W.bad)
  bd : ∀ p k, F p = some k → k ≤ i
  ex : ∀ p, inR C.length W.rows.length p → ∀ k, F p = some (k + 1) → ∃ s ∈ sc C W p, F s = some k
  st : ∀ p, inR C.length W.rows.length p → ∀ s ∈ sc C W p, ∀ k, F s = some k → k < i → ∃ j, j ≤ k + 1 ∧ F p = some j
theorem FarI.chain {base : Int} {C : Chn} {W : Wt} {i : Nat} {F : Pr → Option Nat} (ok : ChnOk base C) (okw : WtOk W) (fi : FarI C W i F) : ∀ (k : Nat) (p : Pr), inR C.length W.rows.length p → F p = some k → ∃ l : List Pr, l.length = k + 1 ∧ l.Nodup ∧ ∀ x ∈ l, inR C.length W.rows.length x ∧ ∃ j, j ≤ k ∧ F x = some j
  | 0, p, hp, e => ⟨[p], rfl, List.nodup_cons.mpr ⟨List.not_mem_nil, List.nodup_nil⟩, fun x hx => by
      rw [List.mem_singleton.mp hx]
      exact ⟨hp, 0, Nat.le_refl _, e⟩⟩
  | k + 1, p, hp, e => by
    obtain ⟨s, hs, es⟩ := fi.ex p hp k e
    obtain ⟨l, h1, h2, h3⟩ := fi.chain ok okw k s (sc_in ok okw hp hs) es
    refine ⟨p :: l, by rw [List.length_cons, h1], List.nodup_cons.mpr ⟨fun z => ?_, h2⟩, fun x hx => ?_⟩
    · obtain ⟨_, j, hj, ej⟩ := h3 p z
      rw [e] at ej
      cases ej
      omega
    · rcases List.mem_cons.mp hx with rfl | hx
      · exact ⟨hp, k + 1, Nat.le_refl _, e⟩
      · obtain ⟨a, j, hj, ej⟩ := h3 x hx
        exact ⟨a, j, by omega, ej⟩
theorem FarI.all {base : Int} {C : Chn} {W : Wt} {F : Pr → Option Nat} (ok : ChnOk base C) (okw : WtOk W) (fi : FarI C W (C.length * W.rows.length) F) : FarOk C W F :=
  ⟨fi.bad, fun p hp s hs k e => by
    obtain ⟨l, h1, h2, h3⟩ := fi.chain ok okw k s (sc_in ok okw hp hs) e
    have := pr_few h2 fun x hx => (h3 x hx).1
    exact fi.st p hp s hs k e (by omega), fi.ex⟩
theorem FarI.stop {C : Chn} {W : Wt} {i : Nat} {F : Pr → Option Nat} (fi : FarI C W i F) (h : ∀ p, inR C.length W.rows.length p → F p = none → ∀ x ∈ sc C W p, F x = none) : FarOk C W F :=
  ⟨fi.bad, fun p hp s hs k e => by
    by_cases c : k < i
    · exact fi.st p hp s hs k e c
    · cases ep : F p with
      | none =>
        rw [h p hp ep s hs] at e
        cases e
      | some j =>
        have a := fi.bd p j ep
        exact ⟨j, by omega, rfl⟩, fi.ex⟩
theorem FarI.next {C : Chn} {W : Wt} {i : Nat} {F : Pr → Option Nat} {fs : List Pr} (fi : FarI C W i F) (h : ∀ p, p ∈ fs ↔ inR C.length W.rows.length p ∧ F p = none ∧ ∃ x ∈ sc C W p, F x ≠ none) : FarI C W (i + 1) (fun p => if p ∈ fs then some (i + 1) else F p) := by
  have no : ∀ {p k}, F p = some k → p ∉ fs := fun {p k} e z => by
    rw [((h p).mp z).2.1] at e
    cases e
  have keep : ∀ {p k}, F p = some k → (if p ∈ fs then some (i + 1) else F p) = some k := fun {p k} e => by rw [if_neg (no e), e]
  refine ⟨fun p hp => ?_, fun p k e => ?_, fun p hp k e => ?_, fun p hp s hs k e hk => ?_⟩
  · rw [← fi.bad p hp]
    constructor
    · intro e
      by_cases m : p ∈ fs
      · rw [if_pos m] at e
        cases e
      · rw [if_neg m] at e
        exact e
    · exact keep
  · by_cases m : p ∈ fs
    · rw [if_pos m] at e
      cases e
      exact Nat.le_refl _
    · rw [if_neg m] at e
      exact Nat.le_succ_of_le (fi.bd p k e)
  · by_cases m : p ∈ fs
    · rw [if_pos m] at e
      cases e
      obtain ⟨_, hn, x, hx, hxn⟩ := (h p).mp m
      cases ex : F x with
      | none => exact absurd ex hxn
      | some j =>
        have b := fi.bd x j ex
        by_cases c : j < i
        · obtain ⟨j', _, e'⟩ := fi.st p hp x hx j ex c
          rw [hn] at e'
          cases e'
        · obtain rfl : j = i := by omega
          exact ⟨x, hx, keep ex⟩
    · rw [if_neg m] at e
      obtain ⟨s, hs, es⟩ := fi.ex p hp k e
      exact ⟨s, hs, keep es⟩
  · have es : F s = some k := by
      by_cases m : s ∈ fs
      · rw [if_pos m] at e
        cases e
        omega
      · rw [if_neg m] at e
        exact e
    cases ep : F p with
    | none =>
      have m : p ∈ fs := (h p).mpr ⟨hp, ep, s, hs, fun z => by rw [es] at z; cases z⟩
      by_cases c : k < i
      · obtain ⟨j', _, e'⟩ := fi.st p hp s hs k es c
        rw [ep] at e'
        cases e'
      · exact ⟨i + 1, by omega, if_pos m⟩
    | some j =>
      by_cases c : k < i
      · obtain ⟨j', hj', e'⟩ := fi.st p hp s hs k es c
        rw [ep] at e'
        cases e'
        exact ⟨j, hj', if_neg (no ep)⟩
      · have := fi.bd p j ep
        exact ⟨j, by omega, if_neg (no ep)⟩
def fV (F : Pr → Option Nat) (p : Pr) : Option V := (F p).map vN
theorem fV_none {F : Pr → Option Nat} {p : Pr} : fV F p = none ↔ F p = none := by
  unfold fV
  cases F p <;> simp
def spFar (K : PySem.W.Frag) : Sp := fun vs H Q _ => ∃ (vc vw : V) (base : Int) (C : Chn) (W : Wt), vs = [vc, vw] ∧ Dp K H vc (dChn base C) ∧ ChnOk base C ∧ Dp K H vw (dWt W) ∧ WtOk W ∧
  ∀ (H' : Hp) (d : Addr) (kvs : List (List L2.Key × V)) (F : Pr → Option Nat) (ps : List Pr), Same H H' → H' d = some (.dT kvs) → FD C.length W.rows.length kvs (fV F) ps → FarOk C W F → Q (.ref d) H'
end Mt
namespace Mt
open PySem PySem.Spec PyProof.Rows L2
theorem FD.set {n m : Nat} {kvs : List (List L2.Key × V)} {F : Pr → Option Nat} {ps : List Pr} (h : FD n m kvs (fV F) ps) {p : Pr} (hr : inR n m p) (k : Nat) : ∃ ps', FD n m (putK kvs (kP p) (vN k)) (fV fun q => if q = p then some k else F q) ps' := by
  have e : (fun q => if q = p then some (vN k) else fV F q) = fV fun q => if q = p then some k else F q := by
    funext q
    show (if q = p then some (vN k) else (F q).map vN) = (if q = p then some k else F q).map vN
    split <;> rfl
  rw [← e]
  by_cases m : p ∈ ps
  · exact ⟨_, h.old m _⟩
  · exact ⟨_, h.new m hr _⟩
section
variable {P : Program} {w : World} {K : PySem.W.Frag} {mg : Str → Option Value} {base : Heap}
theorem ok__law_far (T : Txt K mg) (D__law_leads : Kept P w K mg base 2 "_law_leads" ["chain", "watch", "state", "here", "found"] (spLeads K)) {f : Addr} {fd : FuncData} (F : FnP K "_law_far" s__law_far f fd) : FnOk P w K mg base CX0 3 f fd ["chain", "watch"] (spFar K) := by
  refine F.ok sc__law_far (fun vs H Q E h => ?_) (fun cdv A outer s H vs Q E hr h => ?_)
  · obtain ⟨vc, vw, b, C, W, rfl, _⟩ := h
    rfl
  · obtain ⟨vc, vw, b, C, W, rfl, hC, ok, hW, okw, q⟩ := h
    refine ⟨_, PSs.nox (pss_cons (ps_set (i := 2) sc__law_far.nd rfl (Or.inl rfl) pe_dnewT)
      (pss_cons (ps_for PassesOwn.never rfl (pi_range1 (by rfl) T.b_range (pa_cons (pe_callB call_len (by rfl) T.b_len (by decide +kernel) (pa_cons (pe_ix ix_tup (pv 0) pe_int (fun _ _ => rfl)) pa_nil)) pa_nil)) (pg_name (i := 3) sc__law_far.nd rfl (Or.inl rfl)) (pss_one (ps_for PassesOwn.never rfl (pi_tup (pe_ix ix_tup (pv 1) pe_int (fun _ _ => rfl))) (pg_name (i := 4) sc__law_far.nd rfl (Or.inl rfl)) (pss_one (ps_asg pe_int (pg_sub (pv 2) (pe_tup (pa_cons (pv 3) (pa_cons (pv 4) pa_nil))) (set_dict (hu_of hr))))))))
      (pss_cons (ps_for PassesOwn.never rfl (pi_range2 (by rfl) T.b_range (pa_cons pe_int (pa_cons (pe_op op_add (pe_op op_mul (pe_callB call_len (by rfl) T.b_len (by decide +kernel) (pa_cons (pe_ix ix_tup (pv 0) pe_int (fun _ _ => rfl)) pa_nil)) (pe_callB call_len (by rfl) T.b_len (by decide +kernel) (pa_cons (pe_ix ix_tup (pv 1) pe_int (fun _ _ => rfl)) pa_nil))) pe_int) pa_nil))) (pg_name (i := 5) sc__law_far.nd rfl (Or.inl rfl)) (pss_cons (ps_set (i := 6) sc__law_far.nd rfl (Or.inl rfl) (pe_lst pa_nil))
      (pss_cons (ps_for PassesOwn.never rfl (pi_range1 (by rfl) T.b_range (pa_cons (pe_callB call_len (by rfl) T.b_len (by decide +kernel) (pa_cons (pe_ix ix_tup (pv 0) pe_int (fun _ _ => rfl)) pa_nil)) pa_nil)) (pg_name (i := 3) sc__law_far.nd rfl (Or.inl rfl)) (pss_one (ps_for PassesOwn.never rfl (pi_range1 (by rfl) T.b_range (pa_cons (pe_callB call_len (by rfl) T.b_len (by decide +kernel) (pa_cons (pe_ix ix_tup (pv 1) pe_int (fun _ _ => rfl)) pa_nil)) pa_nil)) (pg_name (i := 4) sc__law_far.nd rfl (Or.inl rfl)) (pss_one (ps_if (PW.pt (pw_and (pt_cmp (pc_dnotin (hu_of hr) (pe_tup (pa_cons (pv 3) (pa_cons (pv 4) pa_nil))) (pv 2))) (pw_and1 (pt_val (pe_d D__law_leads (hr.mono (by decide)) (by rfl) (pa_cons (pv 0) (pa_cons (pv 1) (pa_cons (pv 3) (pa_cons (pv 4) (pa_cons (pv 2) pa_nil)))))))))) (pss_one (ps_expr (pe_bm PySem.F.plainAttrs_list PySem.F.slot_list_append PySem.F.type_list_append mt_append (pv 6) (pa_cons (pe_tup (pa_cons (pv 3) (pa_cons (pv 4) pa_nil))) pa_nil)))) pss_nil)))))
      (pss_cons (ps_if (pt_cmpR op_eq (pe_callB call_len (by rfl) T.b_len (by decide +kernel) (pa_cons (pv 6) pa_nil)) pe_int (nomark _)) (pss_one (ps_ret (pv 2))) pss_nil)
      (pss_one (ps_for PassesOwn.never rfl (pi_list (pv 6)) (pg_name (i := 7) sc__law_far.nd rfl (Or.inl rfl)) (pss_one (ps_asg (pv 5) (pg_sub (pv 2) (pv 7) (set_dict (hu_of hr)))))))))))
      (pss_one (ps_ret (pv 2)))))), ?_⟩
    obtain ⟨pc, pq, ys, rfl, hpc, hpq, hA⟩ := chn_at (id hC)
    obtain ⟨pw, pwq, pwb, us, rfl, hpw, hpwq, hAw, hpwb⟩ := wt_at (id hW)
    have yl := dpA_len hA
    rw [List.length_map] at yl
    have ul := dpA_len hAw
    rw [List.length_map] at ul
    have fewC := ok.few
    have fewW := okw.few
    have fewB := okw.fewB
    refine fun d hd => ?_
    have s1 := same_new (o := .dT []) hd
    have hd1 := upd_same (H := H) (a := d) (o := .dT [])
    generalize upd H d (.dT []) = H1 at s1 hd1
    refine ⟨_, rfl, pc, _, _, _, rfl, rfl, same_t s1 hpc, atI_nat (j := 2) rfl, _, _, rfl, .inr ⟨_, same_t s1 hpq, rfl⟩, ?_⟩
    refine ⟨_, rfl, by omega, by omega, for_range (lo := 0) (n := ys.length) (fun i σ H' => ∃ (y3 y4 : Option V) (kvs : List (List L2.Key × V)) (F : Pr → Option Nat) (ps : List Pr), σ = [some (.ref pc), some (.ref pw), some (.ref d), y3, y4, none, none, none] ∧ Same H H' ∧ H' d = some (.dT kvs) ∧ FD C.length W.rows.length kvs (fV F) ps ∧ (∀ p k, F p = some k → k = 0) ∧ ∀ p, F p = some 0 ↔ 0 ≤ p.1 ∧ p.1 < i ∧ 0 ≤ p.2 ∧ p.2.toNat ∈ W.bad) ⟨_, _, [], fun _ => none, [], rfl, s1, hd1, FD.nil, (fun _ _ e => nomatch e), fun p => ⟨fun e => (nomatch e), fun e => absurd e.2.1 (by have := e.1; omega)⟩⟩ ?_ ?_⟩
    · rintro i σ H2 hi ⟨y3, y4, kvs, F, ps, rfl, s2, hd2, fd2, z0, iff0⟩
      refine ⟨_, rfl, pw, _, _, _, rfl, rfl, same_t s2 hpw, atI_nat (j := 2) rfl, pwb, rfl, ⟨_, same_t s2 hpwb⟩, for_tup (K := K) (a := pwb) (xs := W.bad.map vN) (fun j σ H' => ∃ (y4 : Option V) (kvs : List (List L2.Key × V)) (F : Pr → Option Nat) (ps : List Pr), σ = [some (.ref pc), some (.ref pw), some (.ref d), some (.int (0 + (i : Int))), y4, none, none, none] ∧ Same H H' ∧ H' d = some (.dT kvs) ∧ FD C.length W.rows.length kvs (fV F) ps ∧ (∀ p k, F p = some k → k = 0) ∧ ∀ p, F p = some 0 ↔ (0 ≤ p.1 ∧ p.1 < i ∧ 0 ≤ p.2 ∧ p.2.toNat ∈ W.bad) ∨ (p.1 = i ∧ 0 ≤ p.2 ∧ p.2.toNat ∈ W.bad.take j)) ⟨_, kvs, F, ps, rfl, s2, hd2, fd2, z0, fun p => by rw [iff0 p]; simp⟩ (fun j σ H' _ ⟨_, _, _, _, _, s, _⟩ => same_t s hpwb) ?_ ?_⟩
      · rintro j x σ H3 hj ⟨y4, kvs, F, ps, rfl, s3, hd3, fd3, z0, iff0⟩
        rw [List.getElem?_map] at hj
        obtain ⟨c, hc, rfl⟩ := Option.map_eq_some_iff.mp hj
        have cb := okw.badlt c (List.mem_of_getElem? hc)
        have hin : inR C.length W.rows.length ((i : Int), (c : Int)) := ⟨by show (0 : Int) ≤ (i : Int); omega, by show (i : Int) < _; omega, by show (0 : Int) ≤ (c : Int); omega, by show (c : Int) < _; omega⟩
        obtain ⟨ps', fd4⟩ := fd3.set hin 0
        have kl := fd3.few
        have area : C.length * W.rows.length ≤ 50 * 20 := Nat.mul_le_mul fewC fewW
        rw [Int.zero_add]
        refine ⟨_, rfl, _, rfl, _, rfl, z2, fun pt hpt => ?_⟩
        have s4 := same_new (o := .tup [.int (i : Int), vN c]) hpt
        have hpt4 : (upd H3 pt (.tup [.int (i : Int), vN c])) pt = some (.tup ((kP ((i : Int), (c : Int))).map kV)) := upd_same
        generalize upd H3 pt (.tup [.int (i : Int), vN c]) = H4 at s4 hpt4
        refine ⟨d, _, rfl, DPut.t (k := kP ((i : Int), (c : Int))) (s4 _ _ hd3) hpt4 (line6 (by omega)), ?_⟩
        refine ⟨_, _, _, ps', rfl, same_mut (s3.trans s4) hd, upd_same, fd4, fun p k e => ?_, fun p => ?_⟩
        · by_cases ep : p = ((i : Int), (c : Int))
          · rw [if_pos ep] at e
            cases e
            rfl
          · rw [if_neg ep] at e
            exact z0 p k e
        · rw [take_snoc hc]
          by_cases ep : p = ((i : Int), (c : Int))
          · rw [if_pos ep]
            subst ep
            refine ⟨fun _ => .inr ⟨rfl, by show (0 : Int) ≤ (c : Int); omega, ?_⟩, fun _ => rfl⟩
            exact List.mem_append_right _ (List.mem_singleton.mpr rfl)
          · rw [if_neg ep, iff0 p]
            constructor
            · rintro (h | ⟨h1, h2, h3⟩)
              · exact .inl h
              · exact .inr ⟨h1, h2, List.mem_append_left _ h3⟩
            · rintro (h | ⟨h1, h2, h3⟩)
              · exact .inl h
              · rcases List.mem_append.mp h3 with h3 | h3
                · exact .inr ⟨h1, h2, h3⟩
                · have := List.mem_singleton.mp h3
                  exact absurd (Prod.ext h1 (by show p.2 = (c : Int); omega)) ep
      · rintro σ H3 ⟨y4, kvs, F, ps, rfl, s3, hd3, fd3, z0, iff0⟩
        refine ⟨_, _, kvs, F, ps, rfl, s3, hd3, fd3, z0, fun p => ?_⟩
        rw [iff0 p, List.take_of_length_le (by rw [List.length_map]; exact Nat.le_refl _)]
        constructor
        · rintro (⟨h1, h2, h3, h4⟩ | ⟨h1, h2, h3⟩)
          · exact ⟨h1, by omega, h3, h4⟩
          · exact ⟨by omega, by omega, h2, h3⟩
        · rintro ⟨h1, h2, h3, h4⟩
          by_cases e : p.1 = (i : Int)
          · exact .inr ⟨e, h3, h4⟩
          · exact .inl ⟨h1, by omega, h3, h4⟩
    · rintro σ H2 ⟨y3, y4, kvs, F, ps, rfl, s2, hd2, fd2, z0, iff0⟩
      have fi0 : FarI C W 0 F := ⟨fun p ⟨h1, h2, h3, h4⟩ => by
          rw [iff0 p]
          exact ⟨fun h => h.2.2.2, fun h => ⟨h1, by omega, h3, h⟩⟩, fun p k e => by rw [z0 p k e]; exact Nat.le_refl _, fun p _ k e => by
          have := z0 p _ e
          omega, fun p _ s _ k _ h => absurd h (Nat.not_lt_zero _)⟩
      have area : C.length * W.rows.length ≤ 50 * 20 := Nat.mul_le_mul fewC fewW
      have eN : ((ys.length : Int) * (us.length : Int) + 1 - 1).toNat = C.length * W.rows.length := by
        rw [yl, ul, Int.add_sub_cancel, ← Int.natCast_mul, Int.toNat_natCast]
      have eM : (ys.length : Int) * (us.length : Int) = ((C.length * W.rows.length : Nat) : Int) := by
        rw [yl, ul, Int.natCast_mul]
      refine ⟨_, rfl, pc, _, _, _, rfl, rfl, same_t s2 hpc, atI_nat (j := 2) rfl, _, _, rfl, .inr ⟨_, same_t s2 hpq, rfl⟩, _, rfl, pw, _, _, _, rfl, rfl, same_t s2 hpw, atI_nat (j := 1) rfl, _, _, rfl, .inr ⟨_, same_t s2 hpwq, rfl⟩, _, _, rfl, rfl, .inl ⟨by omega, by omega⟩, _, _, rfl, rfl, _, _, rfl, ⟨by omega, by omega, by omega, by omega⟩, ?_⟩
      rw [eN]
      refine for_range (lo := 1) (n := C.length * W.rows.length) (fun i σ H' => ∃ (y3 y4 y5 y6 y7 : Option V) (kvs : List (List L2.Key × V)) (F : Pr → Option Nat) (ps : List Pr), σ = [some (.ref pc), some (.ref pw), some (.ref d), y3, y4, y5, y6, y7] ∧ Same H H' ∧ H' d = some (.dT kvs) ∧ FD C.length W.rows.length kvs (fV F) ps ∧ FarI C W i F) ⟨_, _, _, _, _, kvs, F, ps, rfl, s2, hd2, fd2, fi0⟩ ?_ ?_
      · rintro i σ H3 hi ⟨y3, y4, y5, y6, y7, kvs, F, ps, rfl, s3, hd3, fd3, fi⟩
        refine ⟨Nat.zero_le _, fun L hL => ?_⟩
        have s4 := same_new (o := .lst []) hL
        have hL4 := upd_same (H := H3) (a := L) (o := .lst [])
        generalize upd H3 L (.lst []) = H4 at s4 hL4
        have s34 := s3.trans s4
        refine ⟨_, rfl, pc, _, _, _, rfl, rfl, same_t s34 hpc, atI_nat (j := 2) rfl, _, _, rfl, .inr ⟨_, same_t s34 hpq, rfl⟩, _, rfl, by omega, by omega, for_range (lo := 0) (n := ys.length) (fun a σ H' => ∃ (y3 y4 y7 : Option V) (zs : List V) (fs : List Pr), σ = [some (.ref pc), some (.ref pw), some (.ref d), y3, y4, some (.int (1 + (i : Int))), some (.ref L), y7] ∧ Same H3 H' ∧ H' L = some (.lst zs) ∧ PrAs H' zs fs ∧ (∀ p ∈ fs, inR C.length W.rows.length p ∧ F p = none ∧ ∃ x ∈ sc C W p, F x ≠ none) ∧ (∀ p, inR C.length W.rows.length p → F p = none → (∃ x ∈ sc C W p, F x ≠ none) → p.1 < a → p ∈ fs) ∧ fs.length ≤ a * 20) ⟨_, _, _, [], [], rfl, s4, hL4, .nil, fun _ h => absurd h List.not_mem_nil, fun p h1 _ _ h => absurd h1.1 (by omega), Nat.zero_le _⟩ ?_ ?_⟩
        · rintro a σ H5 ha ⟨y3, y4, y7, zs, fs, rfl, s5, hL5, hzs, in1, in2, fl⟩
          have s35 := s3.trans s5
          rw [Int.zero_add]
          refine ⟨_, rfl, pw, _, _, _, rfl, rfl, same_t s35 hpw, atI_nat (j := 1) rfl, _, _, rfl, .inr ⟨_, same_t s35 hpwq, rfl⟩, _, rfl, by omega, by omega, for_range (lo := 0) (n := us.length) (fun c σ H' => ∃ (y4 y7 : Option V) (zs : List V) (fs : List Pr), σ = [some (.ref pc), some (.ref pw), some (.ref d), some (.int (a : Int)), y4, some (.int (1 + (i : Int))), some (.ref L), y7] ∧ Same H3 H' ∧ H' L = some (.lst zs) ∧ PrAs H' zs fs ∧ (∀ p ∈ fs, inR C.length W.rows.length p ∧ F p = none ∧ ∃ x ∈ sc C W p, F x ≠ none) ∧ (∀ p, inR C.length W.rows.length p → F p = none → (∃ x ∈ sc C W p, F x ≠ none) → (p.1 < a ∨ p.1 = a ∧ p.2 < c) → p ∈ fs) ∧ fs.length ≤ a * 20 + c) ⟨_, _, zs, fs, rfl, s5, hL5, hzs, in1, fun p h1 h2 h3 h => in2 p h1 h2 h3 (by have := h1.2.2.1; omega), by omega⟩ ?_ ?_⟩
          · rintro c σ H6 hc ⟨y4, y7, zs, fs, rfl, s6, hL6, hzs, in1, in2, fl⟩
            rw [Int.zero_add]
            have zl := hzs.len
            have hin : inR C.length W.rows.length ((a : Int), (c : Int)) := ⟨by show (0 : Int) ≤ (a : Int); omega, by show (a : Int) < _; omega, by show (0 : Int) ≤ (c : Int); omega, by show (c : Int) < _; omega⟩
            refine ⟨_, rfl, _, rfl, z2, fun pt hpt => ?_⟩
            have s7 := s6.trans (same_new (o := .tup [.int (a : Int), .int (c : Int)]) hpt)
            have hpt7 := upd_same (H := H6) (a := pt) (o := .tup [.int (a : Int), .int (c : Int)])
            have hL7 := same_new (o := .tup [.int (a : Int), .int (c : Int)]) hpt _ _ hL6
            have hzs7 := hzs.same (same_new (o := .tup [.int (a : Int), .int (c : Int)]) hpt)
            generalize upd H6 pt (.tup [.int (a : Int), .int (c : Int)]) = H7 at s7 hpt7 hL7 hzs7
            have s37 := s3.trans s7
            refine ⟨_, rfl, d, _, rfl, DGet.t (k := kP ((a : Int), (c : Int))) (s7 _ _ hd3) hpt7, ?_⟩
            rw [fd3.val]
            have skip : (F ((a : Int), (c : Int)) ≠ none ∨ ¬ ∃ x ∈ sc C W ((a : Int), (c : Int)), F x ≠ none) → ∀ p, inR C.length W.rows.length p → F p = none → (∃ x ∈ sc C W p, F x ≠ none) → (p.1 < a ∨ p.1 = a ∧ p.2 < ((c + 1 : Nat) : Int)) → p ∈ fs := fun no p h1 h2 h3 h => by
              by_cases e : p = ((a : Int), (c : Int))
              · subst e
                rcases no with no | no
                · exact absurd h2 no
                · exact absurd h3 no
              · refine in2 p h1 h2 h3 ?_
                rcases h with h | ⟨h, k⟩
                · exact .inl h
                · refine .inr ⟨h, ?_⟩
                  have : p.2 ≠ (c : Int) := fun z => e (Prod.ext h z)
                  omega
            by_cases hn : F ((a : Int), (c : Int)) = none
            · rw [fV_none.mpr hn]
              refine ⟨_, rfl, ite2 (fun _ => ?_) (fun h => absurd rfl h)⟩
              refine ⟨_, rfl, _, rfl, _, rfl, _, rfl, _, rfl, .ref pc, .ref pw, a, c, d, b, C, W, kvs, fV F, ps, rfl, dp_same s37 _ _ hC, ok, dp_same s37 _ _ hW, okw, by omega, by omega, s7 _ _ hd3, fd3, fun H8 bb s8 hb => ?_⟩
              have hb' : bb = true ↔ ∃ x ∈ sc C W ((a : Int), (c : Int)), F x ≠ none := hb.trans ⟨fun ⟨x, h1, h2⟩ => ⟨x, h1, fun z => h2 (fV_none.mpr z)⟩, fun ⟨x, h1, h2⟩ => ⟨x, h1, fun z => h2 (fV_none.mp z)⟩⟩
              refine ⟨_, rfl, ite2 (fun h => ?_) (fun h => ?_)⟩
              · refine ⟨_, rfl, .inl ⟨rfl, _, SqL.of (s8 _ _ hL7)⟩, _, rfl, _, rfl, z2, fun pn hpn => ?_⟩
                have s9 := s8.trans (same_new (o := .tup [.int (a : Int), .int (c : Int)]) hpn)
                have hpn9 : (upd H8 pn (.tup [.int (a : Int), .int (c : Int)])) pn = some (.tup ((kP ((a : Int), (c : Int))).map kV)) := upd_same
                generalize upd H8 pn (.tup [.int (a : Int), .int (c : Int)]) = H9 at s9 hpn9
                refine ⟨L, zs, _, rfl, rfl, s9 _ _ hL7, line6 (by omega), ?_⟩
                have hL9 := s9 _ _ hL7
                have hzs9 := hzs7.same s9
                refine ⟨_, _, _, fs ++ [((a : Int), (c : Int))], rfl, same_mut (s7.trans s9) hL, upd_same, (hzs9.nt (nt_lst _) hL9).snoc (PrA.nt (nt_lst _) hL9 ⟨pn, rfl, hpn9⟩), fun p hp => ?_, fun p h1 h2 h3 h4 => ?_, ?_⟩
                · rcases List.mem_append.mp hp with hp | hp
                  · exact in1 p hp
                  · rw [List.mem_singleton.mp hp]
                    exact ⟨hin, hn, hb'.mp h⟩
                · by_cases e : p = ((a : Int), (c : Int))
                  · exact List.mem_append_right _ (List.mem_singleton.mpr e)
                  · refine List.mem_append_left _ (in2 p h1 h2 h3 ?_)
                    rcases h4 with h4 | ⟨h4, k⟩
                    · exact .inl h4
                    · refine .inr ⟨h4, ?_⟩
                      have : p.2 ≠ (c : Int) := fun z => e (Prod.ext h4 z)
                      omega
                · rw [List.length_append]
                  show fs.length + 1 ≤ _
                  omega
              · exact ⟨_, _, zs, fs, rfl, s7.trans s8, s8 _ _ hL7, hzs7.same s8, in1, skip (.inr fun z => h (hb'.mpr z)), by omega⟩
            · obtain ⟨k, hk⟩ : ∃ k, F ((a : Int), (c : Int)) = some k := by
                cases e : F ((a : Int), (c : Int)) with
                | none => exact absurd e hn
                | some k => exact ⟨k, rfl⟩
              have e2 : fV F ((a : Int), (c : Int)) = some (vN k) := by
                unfold fV
                rw [hk]
                rfl
              rw [e2]
              refine ⟨_, rfl, ite2 (fun h => (nomatch (show false = true from h))) (fun _ => ?_)⟩
              exact ⟨_, _, zs, fs, rfl, s7, hL7, hzs7, in1, skip (.inl hn), by omega⟩
          · rintro σ H6 ⟨y4, y7, zs, fs, rfl, s6, hL6, hzs, in1, in2, fl⟩
            refine ⟨_, _, _, zs, fs, rfl, s6, hL6, hzs, in1, fun p h1 h2 h3 h4 => in2 p h1 h2 h3 ?_, by omega⟩
            by_cases e : p.1 = (a : Int)
            · refine .inr ⟨e, ?_⟩
              have := h1.2.2.2
              omega
            · exact .inl (by omega)
        · rintro σ H5 ⟨y3, y4, y7, zs, fs, rfl, s5, hL5, hzs, in1, in2, fl⟩
          have s35 := s3.trans s5
          have zl := hzs.len
          have mem : ∀ p, p ∈ fs ↔ inR C.length W.rows.length p ∧ F p = none ∧ ∃ x ∈ sc C W p, F x ≠ none := fun p => ⟨in1 p, fun ⟨h1, h2, h3⟩ => in2 p h1 h2 h3 (by have := h1.2.1; omega)⟩
          refine ⟨_, rfl, _, _, rfl, .inl ⟨_, SqL.of hL5, rfl⟩, rfl, _, rfl, ite2 (fun h => ?_) (fun h => ?_)⟩
          · have z0 : zs.length = 0 := by
              have h1 : V.int (zs.length : Int) = V.int 0 := of_decide_eq_true h
              injection h1 with h1
              omega
            have f0 : fs = [] := List.length_eq_zero_iff.mp (by omega)
            refine ⟨_, rfl, q H5 d kvs F ps s35 (s5 _ _ hd3) fd3 (fi.stop fun p h1 h2 x hx => ?_)⟩
            cases e : F x with
            | none => rfl
            | some k =>
              have := (mem p).mpr ⟨h1, h2, x, hx, fun z => by rw [e] at z; cases z⟩
              rw [f0] at this
              exact absurd this List.not_mem_nil
          · refine ⟨_, rfl, L, rfl, ⟨_, SqL.of hL5⟩, for_list (K := K) (a := L) (xs := zs) (fun j σ H' => ∃ (y3 y4 y7 : Option V) (kvs : List (List L2.Key × V)) (ps : List Pr), σ = [some (.ref pc), some (.ref pw), some (.ref d), y3, y4, some (.int (1 + (i : Int))), some (.ref L), y7] ∧ Same H H' ∧ H' L = some (.lst zs) ∧ PrAs H' zs fs ∧ H' d = some (.dT kvs) ∧ FD C.length W.rows.length kvs (fV fun p => if p ∈ fs.take j then some (i + 1) else F p) ps) ⟨_, _, _, kvs, ps, rfl, s35, hL5, hzs, s5 _ _ hd3, by simpa using fd3⟩ (fun j σ H' _ ⟨_, _, _, _, _, _, _, h, _⟩ => SqL.of h) ?_ ?_⟩
            · rintro j x σ H6 hj ⟨y3, y4, y7, kvs, ps, rfl, s6, hL6, hzs6, hd6, fd6⟩
              obtain ⟨p, hp, qx, rfl, hqx⟩ := hzs6.at hj
              obtain ⟨ps', fd7⟩ := fd6.set (mem p |>.mp (List.mem_of_getElem? hp)).1 (i + 1)
              have kl := fd6.few
              have Ld : L ≠ d := fun e => by
                rw [e, hd6] at hL6
                cases hL6
              refine ⟨_, rfl, _, rfl, _, rfl, d, _, rfl, DPut.t (k := kP p) hd6 hqx (line6 (by omega)), ?_⟩
              have hL7 : (upd H6 d (.dT (putK kvs (kP p) (.int (1 + (i : Int)))))) L = some (.lst zs) := by
                rw [upd_ne Ld]
                exact hL6
              refine ⟨_, _, _, _, ps', rfl, same_mut s6 hd, hL7, hzs6.nt (nt_dt _) hd6, upd_same, ?_⟩
              have e1 : vN (i + 1) = V.int (1 + (i : Int)) := by
                show V.int ((i + 1 : Nat) : Int) = _
                rw [Int.natCast_add, Int.add_comm]
                rfl
              rw [e1] at fd7
              have e2 : (fun q => if q = p then some (i + 1) else if q ∈ fs.take j then some (i + 1) else F q) = fun q => if q ∈ fs.take (j + 1) then some (i + 1) else F q := by
                funext q
                rw [take_snoc hp]
                by_cases a : q = p
                · rw [if_pos a, if_pos (List.mem_append_right _ (List.mem_singleton.mpr a))]
                · rw [if_neg a]
                  by_cases b : q ∈ fs.take j
                  · rw [if_pos b, if_pos (List.mem_append_left _ b)]
                  · rw [if_neg b, if_neg fun z => (List.mem_append.mp z).elim b fun k => a (List.mem_singleton.mp k)]
              rw [← e2]
              exact fd7
            · rintro σ H6 ⟨y3, y4, y7, kvs, ps, rfl, s6, hL6, hzs6, hd6, fd6⟩
              rw [zl, List.take_length] at fd6
              exact ⟨_, _, _, _, _, kvs, _, ps, rfl, s6, hd6, fd6, fi.next mem⟩
      · rintro σ H3 ⟨y3, y4, y5, y6, y7, kvs, F, ps, rfl, s3, hd3, fd3, fi⟩
        exact ⟨_, rfl, q H3 d kvs F ps s3 hd3 fd3 (fi.all ok okw)⟩
end
end Mt
namespace Mt
open PySem PySem.Spec PyProof.Rows L2
theorem far_chain {base : Int} {C : Chn} {W : Wt} {F : Pr → Option Nat} (ok : ChnOk base C) (okw : WtOk W) (fo : FarOk C W F) : ∀ (k : Nat) (p : Pr), inR C.length W.rows.length p → F p = some k → ∃ l : List Pr, l.length = k + 1 ∧ l.Nodup ∧ ∀ x ∈ l, inR C.length W.rows.length x ∧ ∃ j, j ≤ k ∧ F x = some j
  | 0, p, hp, e => ⟨[p], rfl, List.nodup_cons.mpr ⟨List.not_mem_nil, List.nodup_nil⟩, fun x hx => by
      rw [List.mem_singleton.mp hx]
      exact ⟨hp, 0, Nat.le_refl _, e⟩⟩
  | k + 1, p, hp, e => by
    obtain ⟨s, hs, es⟩ := fo.ex p hp k e
    obtain ⟨l, h1, h2, h3⟩ := far_chain ok okw fo k s (sc_in ok okw hp hs) es
    refine ⟨p :: l, by rw [List.length_cons, h1], List.nodup_cons.mpr ⟨fun z => ?_, h2⟩, fun x hx => ?_⟩
    · obtain ⟨_, j, hj, ej⟩ := h3 p z
      rw [e] at ej
      cases ej
      omega
    · rcases List.mem_cons.mp hx with rfl | hx
      · exact ⟨hp, k + 1, Nat.le_refl _, e⟩
      · obtain ⟨a, j, hj, ej⟩ := h3 x hx
        exact ⟨a, j, by omega, ej⟩
theorem far_lt {base : Int} {C : Chn} {W : Wt} {F : Pr → Option Nat} (ok : ChnOk base C) (okw : WtOk W) (fo : FarOk C W F) {k : Nat} {p : Pr} (hp : inR C.length W.rows.length p) (e : F p = some k) : k < 1000 := by
  obtain ⟨l, h1, h2, h3⟩ := far_chain ok okw fo k p hp e
  have := pr_few h2 fun x hx => (h3 x hx).1
  have area : C.length * W.rows.length ≤ 50 * 20 := Nat.mul_le_mul ok.few okw.few
  omega
def spLeast (K : PySem.W.Frag) : Sp := fun vs H Q _ => ∃ (vc vw : V) (d : Addr) (base : Int) (C : Chn) (W : Wt) (kvs : List (List L2.Key × V)) (F : Pr → Option Nat) (ps : List Pr) (k : Nat), vs = [vc, vw, .ref d] ∧ Dp K H vc (dChn base C) ∧ ChnOk base C ∧ Dp K H vw (dWt W) ∧ WtOk W ∧ H d = some (.dT kvs) ∧ FD C.length W.rows.length kvs (fV F) ps ∧ FarOk C W F ∧ F (0, 0) = some k ∧
  ∀ H' v, Same H H' → Dp K H' v (.tuple ((gr C W F k (0, 0)).map dI)) → Q v H'
def gV (o : Option Nat) : Int := match o with
  | some k => (k : Int)
  | none => -1
theorem getD_fV (F : Pr → Option Nat) (p : Pr) : (fV F p).getD (.int (-1)) = V.int (gV (F p)) := by
  unfold fV gV
  cases F p <;> rfl
section
variable {P : Program} {w : World} {K : PySem.W.Frag} {mg : Str → Option Value} {base : Heap}
theorem ok__law_least (T : Txt K mg) (D__law_watch_step : Kept P w K mg base 1 "_law_watch_step" ["watch", "state", "shown"] (spPlace K)) {f : Addr} {fd : FuncData} (F : FnP K "_law_least" s__law_least f fd) : FnOk P w K mg base CX0 2 f fd ["chain", "watch", "far"] (spLeast K) := by
  refine F.ok sc__law_least (fun vs H Q E h => ?_) (fun cdv A outer s H vs Q E hr h => ?_)
  · obtain ⟨vc, vw, d, b, C, W, kvs, F, ps, k, rfl, _⟩ := h
    rfl
  · obtain ⟨vc, vw, d, b, C, W, kvs, F, ps, k, rfl, hC, ok, hW, okw, hd, fdd, fo, hk, q⟩ := h
    refine ⟨_, PSs.nox (pss_cons (ps_set (i := 3) sc__law_least.nd rfl (Or.inl rfl) pe_int)
      (pss_cons (ps_set (i := 4) sc__law_least.nd rfl (Or.inl rfl) pe_int)
      (pss_cons (ps_set (i := 5) sc__law_least.nd rfl (Or.inl rfl) (pe_lst pa_nil))
      (pss_cons (ps_for PassesOwn.never rfl (pi_range1 (by rfl) T.b_range (pa_cons (pe_dget (hu_of hr) (pv 2) (pe_tup (pa_cons pe_int (pa_cons pe_int pa_nil))) (fun _ _ => rfl)) pa_nil)) (pg_name (i := 6) sc__law_least.nd rfl (Or.inl rfl)) (pss_one (ps_for PassesOwn.never rfl (pi_tup (pe_ix ix_tup (pe_ix ix_tup (pv 0) pe_int (fun _ _ => rfl)) (pv 3) (fun _ _ => rfl))) (pg_tup rfl (pgs_cons (pg_name (i := 7) sc__law_least.nd rfl (Or.inl rfl)) (pgs_cons (pg_name (i := 8) sc__law_least.nd rfl (Or.inl rfl)) (pgs_cons (pg_name (i := 9) sc__law_least.nd rfl (Or.inl rfl)) pgs_nil)))) (pss_cons (ps_set (i := 10) sc__law_least.nd rfl (Or.inl rfl) (pe_d D__law_watch_step (hr.mono (by decide)) (by rfl) (pa_cons (pv 1) (pa_cons (pv 4) (pa_cons (pv 8) pa_nil)))))
      (pss_one (ps_if (pt_cmpR op_eq (pe_dget2 (hu_of hr) (pv 2) (pe_tup (pa_cons (pv 9) (pa_cons (pv 10) pa_nil))) (pe_un un_neg pe_int) ⟨rfl, rfl, rfl, rfl⟩) (pe_op op_sub (pe_op op_sub (pe_dget (hu_of hr) (pv 2) (pe_tup (pa_cons pe_int (pa_cons pe_int pa_nil))) (fun _ _ => rfl)) (pv 6)) pe_int) (nomark _)) (pss_cons (ps_expr (pe_bm PySem.F.plainAttrs_list PySem.F.slot_list_append PySem.F.type_list_append mt_append (pv 5) (pa_cons (pv 7) pa_nil)))
      (pss_cons (ps_set (i := 3) sc__law_least.nd rfl (Or.inl rfl) (pv 9))
      (pss_cons (ps_set (i := 4) sc__law_least.nd rfl (Or.inl rfl) (pv 10))
      (pss_one ps_break)))) pss_nil))))))
      (pss_one (ps_ret (pe_callTy call_tuple_of (by rfl) T.b_tuple (by decide +kernel) (pa_cons (pv 5) pa_nil)))))))), ?_⟩
    obtain ⟨pc, pq, ys, rfl, hpc, hpq, hA⟩ := chn_at (id hC)
    have k1 := far_lt ok okw fo (root_in ok okw) hk
    refine ⟨Nat.zero_le _, fun L hL => ?_⟩
    have s1 := same_new (o := .lst []) hL
    have hL1 := upd_same (H := H) (a := L) (o := .lst [])
    generalize upd H L (.lst []) = H1 at s1 hL1
    refine ⟨_, rfl, z2, fun p0 hp0 => ?_⟩
    have s2 := s1.trans (same_new (o := .tup [.int 0, .int 0]) hp0)
    have hL2 := same_new (o := .tup [.int 0, .int 0]) hp0 _ _ hL1
    have hp02 : (upd H1 p0 (.tup [.int 0, .int 0])) p0 = some (.tup ((kP ((0 : Int), (0 : Int))).map kV)) := upd_same
    generalize upd H1 p0 (.tup [.int 0, .int 0]) = H2 at s2 hL2 hp02
    refine ⟨d, vN k, rfl, by rw [show (some (vN k) : Option V) = valV kvs (kP (0, 0)) by rw [fdd.val]; unfold fV; rw [hk]; rfl]; exact DGet.t (s2 _ _ hd) hp02, ?_⟩
    refine ⟨_, rfl, by omega, by omega, for_range (lo := 0) (n := k) (fun i σ H' => ∃ (st hr : Nat) (y6 y7 y8 y9 y10 : Option V) (zs : List V) (bl : List (List Int)), σ = [some (.ref pc), some vw, some (.ref d), some (.int (st : Int)), some (.int (hr : Int)), some (.ref L), y6, y7, y8, y9, y10] ∧ Same H H' ∧ H' L = some (.lst zs) ∧ DpAll K H' zs (bl.map dI) ∧ inR C.length W.rows.length ((st : Int), (hr : Int)) ∧ (i ≤ k → F ((st : Int), (hr : Int)) = some (k - i)) ∧ bl.length ≤ i ∧ gr C W F k (0, 0) = bl ++ gr C W F (k - i) ((st : Int), (hr : Int))) ⟨0, 0, _, _, _, _, _, [], [], rfl, s2, hL2, .nil, root_in ok okw, fun _ => hk, Nat.le_refl _, rfl⟩ ?_ ?_⟩
    · rintro i σ H3 hi ⟨st, hh, y6, y7, y8, y9, y10, zs, bl, rfl, s3, hL3, hzs, hin, hF, bll, hg⟩
      obtain ⟨r, hr2⟩ : ∃ r, k = i + r + 1 := ⟨k - i - 1, by omega⟩
      have hF := hF (by omega)
      rw [show k - i = r + 1 by omega] at hF hg
      have alt : st < C.length := by
        have : (st : Int) < _ := hin.2.1
        omega
      have clt : hh < W.rows.length := by
        have : (hh : Int) < _ := hin.2.2.2
        omega
      have zl := dpA_len hzs
      rw [List.length_map] at zl
      obtain ⟨xr, hxr, hdr⟩ := dpA_get hA (rowOf_at alt)
      obtain ⟨pr, rs, rfl, hpr, hrs⟩ := dp_tup hdr
      have rl := dpA_len hrs
      rw [List.length_map] at rl
      refine ⟨_, rfl, pc, _, _, _, rfl, rfl, same_t s3 hpc, atI_nat (j := 2) rfl, _, rfl, pq, _, _, _, rfl, rfl, same_t s3 hpq, atI_nat hxr, pr, rfl, ⟨_, same_t s3 hpr⟩, for_tup (K := K) (a := pr) (xs := rs) (fun j σ H' => ∃ (y7 y8 y9 y10 : Option V), σ = [some (.ref pc), some vw, some (.ref d), some (.int (st : Int)), some (.int (hh : Int)), some (.ref L), some (.int (0 + (i : Int))), y7, y8, y9, y10] ∧ Same H H' ∧ Same H3 H' ∧ ∀ s ∈ (sc C W ((st : Int), (hh : Int))).take j, F s ≠ some r) ⟨_, _, _, _, rfl, s3, Same.refl _, fun s h => absurd h List.not_mem_nil⟩ (fun j σ H' _ ⟨_, _, _, _, _, s, _⟩ => same_t s hpr) ?_ ?_⟩
      · rintro j y σ H5 hj ⟨y7, y8, y9, y10, rfl, s5, t5, no⟩
        obtain ⟨br, hbr, hy⟩ := dpA_mem (dpA_same s5 _ _ hrs) hj
        obtain ⟨pb, x0, x1, rfl, hpb, hd0, hx1⟩ := br_at hy
        have hsc : (sc C W ((st : Int), (hh : Int)))[j]? = some (sucB W ((st : Int), (hh : Int)) br) := sc_get (p := ((st : Int), (hh : Int))) hbr
        refine ⟨pb, _, rfl, hpb, rfl, _, _, rfl, _, _, rfl, _, _, rfl, rfl, ?_⟩
        refine ⟨_, rfl, _, rfl, _, rfl, vw, x1, hh, W, br.2.1, rfl, dp_same s5 _ _ hW, okw, clt, hx1, fun H6 s6 => ?_⟩
        have hdF : H6 d = some (.dT kvs) := (s5.trans s6) _ _ hd
        refine ⟨_, rfl, d, rfl, .inr ⟨kvs, .inl hdF⟩, ?_⟩
        refine ⟨_, rfl, _, rfl, z2, fun pt hpt => ?_⟩
        have s7 := s6.trans (same_new (o := .tup [.int (br.2.2 : Int), .int (wStep W hh br.2.1 : Int)]) hpt)
        have hpt7 : (upd H6 pt (.tup [.int (br.2.2 : Int), .int (wStep W hh br.2.1 : Int)])) pt = some (.tup ((kP (sucB W ((st : Int), (hh : Int)) br)).map kV)) := upd_same
        generalize upd H6 pt (.tup [.int (br.2.2 : Int), .int (wStep W hh br.2.1 : Int)]) = H7 at s7 hpt7
        refine ⟨_, rfl, fV F (sucB W ((st : Int), (hh : Int)) br), by rw [← fdd.val]; exact DGet.t ((s5.trans s7) _ _ hd) hpt7, ?_⟩
        rw [getD_fV]
        refine ⟨_, rfl, z2, fun p1 hp1 => ?_⟩
        have s8 := s7.trans (same_new (o := .tup [.int 0, .int 0]) hp1)
        have hp18 : (upd H7 p1 (.tup [.int 0, .int 0])) p1 = some (.tup ((kP ((0 : Int), (0 : Int))).map kV)) := upd_same
        generalize upd H7 p1 (.tup [.int 0, .int 0]) = H8 at s8 hp18
        have s58 := s5.trans s8
        refine ⟨d, vN k, rfl, by rw [show (some (vN k) : Option V) = valV kvs (kP (0, 0)) by rw [fdd.val]; unfold fV; rw [hk]; rfl]; exact DGet.t (s58 _ _ hd) hp18, ?_⟩
        refine ⟨_, rfl, _, _, rfl, rfl, _, _, rfl, rfl, rfl, _, rfl, ?_⟩
        have key : F (sucB W ((st : Int), (hh : Int)) br) = some r ↔ decide (V.int (gV (F (sucB W ((st : Int), (hh : Int)) br))) = (fun i j => V.int (i - j)) ((k : Int) - (0 + (i : Int))) 1) = true := by
          rw [decide_eq_true_iff]
          show _ ↔ V.int _ = V.int ((k : Int) - (0 + (i : Int)) - 1)
          constructor
          · intro e
            rw [e]
            show V.int (r : Int) = _
            congr 1
            omega
          · intro e
            injection e with e
            cases e2 : F (sucB W ((st : Int), (hh : Int)) br) with
            | none =>
              rw [e2] at e
              have : (-1 : Int) = _ := e
              omega
            | some z =>
              rw [e2] at e
              have : (z : Int) = _ := e
              congr 1
              omega
        refine ite2 (fun h => ?_) (fun h => ?_)
        · have eF := key.mpr h
          have hL8 := (t5.trans s8) _ _ hL3
          refine ⟨_, rfl, .inl ⟨rfl, _, SqL.of hL8⟩, _, rfl, L, zs, _, rfl, rfl, hL8, line6 (by omega), ?_⟩
          have k9 := keepT_nt (o := .lst (zs ++ [x0])) (nt_lst _) hL8
          refine ⟨_, rfl, _, rfl, br.2.2, wStep W hh br.2.1, _, _, _, _, _, zs ++ [x0], bl ++ [br.1], rfl, same_mut s58 hL, upd_same, ?_, sc_in ok okw hin (List.mem_of_getElem? hsc), fun _ => ?_, ?_, ?_⟩
          · rw [List.map_append]
            exact dpA_snoc (dpA_keep k9 _ _ (noLs_I bl) (dpA_same (t5.trans s8) _ _ hzs)) (dp_keep k9 _ _ (dI_noL _) (dp_same s8 _ _ hd0))
          · rw [show k - (i + 1) = r by omega]
            exact eF
          · rw [List.length_append]
            show _ + 1 ≤ _
            omega
          · rw [hg, show k - (i + 1) = r by omega, gr_at (p := ((st : Int), (hh : Int))) hbr eF no, List.append_assoc]
            rfl
        · refine ⟨_, _, _, _, rfl, s58, t5.trans s8, fun s hs => ?_⟩
          rw [take_snoc hsc] at hs
          rcases List.mem_append.mp hs with hs | hs
          · exact no s hs
          · rw [List.mem_singleton.mp hs]
            exact fun z => h (key.mp z)
      · rintro σ H5 ⟨y7, y8, y9, y10, rfl, s5, t5, no⟩
        rw [rl, List.take_of_length_le (by rw [sc_eq, List.length_map]; exact Nat.le_refl _)] at no
        obtain ⟨s, hs, es⟩ := fo.ex _ hin r hF
        exact absurd es (no s hs)
    · rintro σ H3 ⟨st, hh, y6, y7, y8, y9, y10, zs, bl, rfl, s3, hL3, hzs, hin, hF, bll, hg⟩
      rw [Nat.sub_self] at hg
      refine ⟨_, rfl, L, zs, rfl, .inl ⟨SqL.of hL3, fun pt hpt => ?_⟩⟩
      have s4 := same_new (o := .tup zs) hpt
      have e : gr C W F k (0, 0) = bl := hg.trans (List.append_nil bl)
      refine q _ _ (s3.trans s4) ?_
      rw [e]
      exact .tup (SqT.of upd_same) (dpA_same s4 _ _ hzs)
end
end Mt
namespace Mt
open PySem PySem.Spec PyProof.Rows L2
/-! ### the search by layers, seen from outside the heap -/
structure Srch (C : Chn) (W : Wt) (Pt : Pr → List (List Int)) (ps ls : List Pr) : Prop where
  sub : ∀ p ∈ ls, p ∈ ps
  root : ((0, 0) : Pr) ∈ ps
  rch : ∀ p ∈ ps, Rch C W p
  nb : ∀ p ∈ ps, p.2.toNat ∉ W.bad
  cl : ∀ p ∈ ps, p ∈ ls ∨ ∀ s ∈ sc C W p, s ∈ ps
  gd : ∀ F, FarOk C W F → ∀ k0, F (0, 0) = some k0 → ∃ (r i : Nat) (g : Pr), ls[i]? = some g ∧ F g = some (r + 1) ∧ gr C W F k0 (0, 0) = Pt g ++ gr C W F (r + 1) g ∧ (∀ j q, j < i → ls[j]? = some q → F q ≠ some (r + 1)) ∧ ∀ p ∈ ps, ∀ x, F p = some x → r + 1 ≤ x
structure Srin (C : Chn) (W : Wt) (Pt : Pr → List (List Int)) (ps ls fs : List Pr) (a : Nat) (S : List Pr) : Prop where
  sub : ∀ p ∈ ls, p ∈ ps
  sub2 : ∀ p ∈ fs, p ∈ ps
  dis : ∀ p ∈ ls, p ∉ fs
  root : ((0, 0) : Pr) ∈ ps
  rch : ∀ p ∈ ps, Rch C W p
  nb : ∀ p ∈ ps, p.2.toNat ∉ W.bad
  cl : ∀ p ∈ ps, p ∈ ls.drop a ∨ p ∈ fs ∨ ∀ s ∈ sc C W p, s ∈ ps
  now : ∀ s ∈ S, s ∈ ps
  gd : ∀ F, FarOk C W F → ∀ k0, F (0, 0) = some k0 → ∃ (r i : Nat) (g : Pr), ls[i]? = some g ∧ F g = some (r + 1) ∧ gr C W F k0 (0, 0) = Pt g ++ gr C W F (r + 1) g ∧ (∀ j q, j < i → ls[j]? = some q → F q ≠ some (r + 1)) ∧ (∀ p ∈ ps, p ∉ fs → ∀ x, F p = some x → r + 1 ≤ x) ∧ (∀ p ∈ ps, ∀ x, F p = some x → r ≤ x) ∧
    ((a ≤ i ∧ (a = i → ∀ s ∈ S, F s ≠ some r) ∧ ∀ p ∈ fs, F p ≠ some r) ∨ ∃ (i' : Nat) (g' : Pr), fs[i']? = some g' ∧ F g' = some r ∧ gr C W F k0 (0, 0) = Pt g' ++ gr C W F r g' ∧ ∀ j q, j < i' → fs[j]? = some q → F q ≠ some r)
section
variable {base : Int} {C : Chn} {W : Wt} {Pt : Pr → List (List Int)} {ps ls fs : List Pr} {a : Nat} {S : List Pr}
theorem Srch.begin (ok : ChnOk base C) (okw : WtOk W) (h0 : 0 ∉ W.bad) : Srch C W (fun _ => []) [(0, 0)] [(0, 0)] := by
  refine ⟨fun p h => h, List.mem_singleton.mpr rfl, fun p h => ?_, fun p h => ?_, fun p h => .inl h, fun F fo k0 e => ?_⟩
  · rw [List.mem_singleton.mp h]
    exact Rch.root
  · rw [List.mem_singleton.mp h]
    exact h0
  · cases k0 with
    | zero => exact absurd ((fo.bad _ (root_in ok okw)).mp e) h0
    | succ r =>
      refine ⟨r, 0, (0, 0), rfl, e, rfl, fun j q hj => absurd hj (Nat.not_lt_zero _), fun p hp x hx => ?_⟩
      rw [List.mem_singleton.mp hp, e] at hx
      cases hx
      exact Nat.le_refl _
theorem Srch.layer (h : Srch C W Pt ps ls) : Srin C W Pt ps ls [] 0 [] :=
  ⟨h.sub, fun _ k => absurd k List.not_mem_nil, fun _ _ k => absurd k List.not_mem_nil, h.root, h.rch, h.nb, fun p hp => (h.cl p hp).imp id .inr, fun _ k => absurd k List.not_mem_nil, fun F fo k0 e => by
    obtain ⟨r, i, g, h1, h2, h3, h4, h5⟩ := h.gd F fo k0 e
    exact ⟨r, i, g, h1, h2, h3, h4, fun p hp _ => h5 p hp, fun p hp x hx => Nat.le_of_succ_le (h5 p hp x hx), .inl ⟨Nat.zero_le _, fun _ _ k => absurd k List.not_mem_nil, fun _ k => absurd k List.not_mem_nil⟩⟩⟩
theorem Srin.old (h : Srin C W Pt ps ls fs a S) {s : Pr} (hs : s ∈ ps) : Srin C W Pt ps ls fs a (S ++ [s]) :=
  ⟨h.sub, h.sub2, h.dis, h.root, h.rch, h.nb, h.cl, fun z hz => (List.mem_append.mp hz).elim (h.now z) fun k => by rw [List.mem_singleton.mp k]; exact hs, fun F fo k0 e => by
    obtain ⟨r, i, g, h1, h2, h3, h4, h5, h6, h7⟩ := h.gd F fo k0 e
    refine ⟨r, i, g, h1, h2, h3, h4, h5, h6, h7.imp (fun ⟨k1, k2, k3⟩ => ⟨k1, fun ea z hz => ?_, k3⟩) id⟩
    rcases List.mem_append.mp hz with hz | hz
    · exact k2 ea z hz
    · rw [List.mem_singleton.mp hz]
      intro es
      by_cases m : s ∈ fs
      · exact k3 s m es
      · have := h5 s hs m r es
        omega⟩
/-- how the state ahead of s stands -/
theorem Srin.back (ok : ChnOk base C) (okw : WtOk W) (h : Srin C W Pt ps ls fs a S) {q s : Pr} (hq : ls[a]? = some q) (hs : s ∈ sc C W q) {F : Pr → Option Nat} (fo : FarOk C W F) {x : Nat} (e : F s = some x) {r : Nat} (low : ∀ p ∈ ps, p ∉ fs → ∀ x, F p = some x → r + 1 ≤ x) : ∃ y, F q = some y ∧ r + 1 ≤ y ∧ y ≤ x + 1 := by
  have ql := List.mem_of_getElem? hq
  have qp := h.sub q ql
  obtain ⟨y, h1, h2⟩ := fo.step q ((h.rch q qp).in ok okw) s hs x e
  exact ⟨y, h2, low q qp (h.dis q ql) y h2, h1⟩
theorem Srin.hit (ok : ChnOk base C) (okw : WtOk W) {q : Pr} {j : Nat} {br : Br} (h : Srin C W Pt ps ls fs a ((sc C W q).take j)) (hq : ls[a]? = some q) (hbr : (rowOf C q.1.toNat)[j]? = some br) (hb : (sucB W q br).2.toNat ∈ W.bad) : DueP C W (dBreaks (Pt q ++ [br.1])) := by
  have hsc := sc_get (W := W) hbr
  have hs := List.mem_of_getElem? hsc
  have qp := h.sub q (List.mem_of_getElem? hq)
  have sr := (h.rch q qp).next hs
  intro F fo
  have e0 := (fo.bad _ (sr.in ok okw)).mpr hb
  refine ⟨fun k0 e => ?_, fun e => ?_⟩
  · obtain ⟨r, i, g, h1, h2, h3, h4, h5, h6, h7⟩ := h.gd F fo k0 e
    obtain ⟨y, y1, y2, y3⟩ := h.back ok okw hq hs fo e0 h5
    obtain rfl : r = 0 := by omega
    obtain rfl : y = 1 := by omega
    rcases h7 with ⟨k1, k2, k3⟩ | ⟨i', g', k1, k2, _⟩
    · by_cases ea : a = i
      · subst ea
        rw [hq] at h1
        cases h1
        rw [h3, gr_at hbr e0 (k2 rfl)]
        rfl
      · exact absurd y1 (h4 a q (by omega) hq)
    · have gp := h.sub2 g' (List.mem_of_getElem? k1)
      exact absurd ((fo.bad g' ((h.rch g' gp).in ok okw)).mp k2) (h.nb g' gp)
  · rw [sr.none ok okw fo e] at e0
    cases e0
theorem Srin.more (ok : ChnOk base C) (okw : WtOk W) {q : Pr} {j : Nat} {br : Br} (h : Srin C W Pt ps ls fs a ((sc C W q).take j)) (hq : ls[a]? = some q) (hbr : (rowOf C q.1.toNat)[j]? = some br) (hb : (sucB W q br).2.toNat ∉ W.bad) (hn : sucB W q br ∉ ps) : Srin C W (fun z => if z = sucB W q br then Pt q ++ [br.1] else Pt z) (ps ++ [sucB W q br]) ls (fs ++ [sucB W q br]) a ((sc C W q).take j ++ [sucB W q br]) := by
  have hsc := sc_get (W := W) hbr
  have hs := List.mem_of_getElem? hsc
  have qp := h.sub q (List.mem_of_getElem? hq)
  have sr := (h.rch q qp).next hs
  have one : ∀ {z : Pr}, z ∈ ps → z ≠ sucB W q br := fun hz e => hn (e ▸ hz)
  have pt : ∀ {z : Pr}, z ∈ ps → (if z = sucB W q br then Pt q ++ [br.1] else Pt z) = Pt z := fun hz => if_neg (one hz)
  refine ⟨fun p hp => List.mem_append_left _ (h.sub p hp), fun p hp => ?_, fun p hp k => ?_, List.mem_append_left _ h.root, fun p hp => ?_, fun p hp => ?_, fun p hp => ?_, fun p hp => ?_, fun F fo k0 e => ?_⟩
  · exact (List.mem_append.mp hp).elim (fun k => List.mem_append_left _ (h.sub2 p k)) fun k => List.mem_append_right _ k
  · exact (List.mem_append.mp k).elim (h.dis p hp) fun k => one (h.sub p hp) (List.mem_singleton.mp k)
  · exact (List.mem_append.mp hp).elim (h.rch p) fun k => by rw [List.mem_singleton.mp k]; exact sr
  · exact (List.mem_append.mp hp).elim (h.nb p) fun k => by rw [List.mem_singleton.mp k]; exact hb
  · rcases List.mem_append.mp hp with k | k
    · rcases h.cl p k with c | c | c
      · exact .inl c
      · exact .inr (.inl (List.mem_append_left _ c))
      · exact .inr (.inr fun s hs => List.mem_append_left _ (c s hs))
    · exact .inr (.inl (List.mem_append_right _ k))
  · exact (List.mem_append.mp hp).elim (fun k => List.mem_append_left _ (h.now p k)) fun k => List.mem_append_right _ k
  · obtain ⟨r, i, g, h1, h2, h3, h4, h5, h6, h7⟩ := h.gd F fo k0 e
    have gp := h.sub g (List.mem_of_getElem? h1)
    refine ⟨r, i, g, h1, h2, ?_, h4, fun p hp np => ?_, fun p hp x hx => ?_, ?_⟩
    · show _ = (if g = sucB W q br then Pt q ++ [br.1] else Pt g) ++ _
      rw [pt gp]
      exact h3
    · rcases List.mem_append.mp hp with k | k
      · exact h5 p k fun z => np (List.mem_append_left _ z)
      · exact absurd (List.mem_append_right _ k) np
    · rcases List.mem_append.mp hp with k | k
      · exact h6 p k x hx
      · rw [List.mem_singleton.mp k] at hx
        obtain ⟨y, _, y2, y3⟩ := h.back ok okw hq hs fo hx h5
        omega
    · rcases h7 with ⟨k1, k2, k3⟩ | ⟨i', g', k1, k2, k3, k4⟩
      · by_cases er : F (sucB W q br) = some r
        · obtain ⟨y, y1, y2, y3⟩ := h.back ok okw hq hs fo er h5
          obtain rfl : y = r + 1 := by omega
          by_cases ea : a = i
          · subst ea
            rw [hq] at h1
            cases h1
            refine .inr ⟨fs.length, sucB W q br, List.getElem?_concat_length, er, ?_, fun j' q' hj hq' => ?_⟩
            · show _ = (if sucB W q br = sucB W q br then Pt q ++ [br.1] else _) ++ _
              rw [if_pos rfl, h3, gr_at hbr er (k2 rfl), List.append_assoc]
              rfl
            · rw [List.getElem?_append_left hj] at hq'
              exact k3 q' (List.mem_of_getElem? hq')
          · exact absurd y1 (h4 a q (by omega) hq)
        · refine .inl ⟨k1, fun ea s hs => ?_, fun p hp => ?_⟩
          · exact (List.mem_append.mp hs).elim (k2 ea s) fun k => by rw [List.mem_singleton.mp k]; exact er
          · exact (List.mem_append.mp hp).elim (k3 p) fun k => by rw [List.mem_singleton.mp k]; exact er
      · have il := (List.getElem?_eq_some_iff.mp k1).1
        refine .inr ⟨i', g', by rw [List.getElem?_append_left il]; exact k1, k2, ?_, fun j' q' hj hq' => ?_⟩
        · show _ = (if g' = sucB W q br then Pt q ++ [br.1] else Pt g') ++ _
          rw [pt (h.sub2 g' (List.mem_of_getElem? k1))]
          exact k3
        · rw [List.getElem?_append_left (by omega)] at hq'
          exact k4 j' q' hj hq'
theorem Srin.row (ok : ChnOk base C) (okw : WtOk W) {q : Pr} (h : Srin C W Pt ps ls fs a (sc C W q)) (hq : ls[a]? = some q) : Srin C W Pt ps ls fs (a + 1) [] := by
  refine ⟨h.sub, h.sub2, h.dis, h.root, h.rch, h.nb, fun p hp => ?_, fun _ k => absurd k List.not_mem_nil, fun F fo k0 e => ?_⟩
  · rcases h.cl p hp with c | c
    · have al := (List.getElem?_eq_some_iff.mp hq).1
      rw [List.drop_eq_getElem_cons al, (List.getElem?_eq_some_iff.mp hq).2] at c
      rcases List.mem_cons.mp c with c | c
      · rw [c]
        exact .inr (.inr h.now)
      · exact .inl c
    · exact .inr c
  · obtain ⟨r, i, g, h1, h2, h3, h4, h5, h6, h7⟩ := h.gd F fo k0 e
    refine ⟨r, i, g, h1, h2, h3, h4, h5, h6, h7.imp (fun ⟨k1, k2, k3⟩ => ⟨?_, fun _ _ k => absurd k List.not_mem_nil, k3⟩) id⟩
    by_cases ea : a = i
    · subst ea
      rw [hq] at h1
      cases h1
      obtain ⟨s, hs, es⟩ := fo.ex q ((h.rch q (h.sub q (List.mem_of_getElem? hq))).in ok okw) r h2
      exact absurd es (k2 rfl s hs)
    · omega
theorem Srin.fin (ok : ChnOk base C) (okw : WtOk W) (h : Srin C W Pt ps ls fs ls.length []) : Srch C W Pt ps fs := by
  refine ⟨h.sub2, h.root, h.rch, h.nb, fun p hp => ?_, fun F fo k0 e => ?_⟩
  · rcases h.cl p hp with c | c
    · rw [List.drop_length] at c
      exact absurd c List.not_mem_nil
    · exact c
  · obtain ⟨r, i, g, h1, h2, h3, h4, h5, h6, h7⟩ := h.gd F fo k0 e
    rcases h7 with ⟨k1, _⟩ | ⟨i', g', k1, k2, k3, k4⟩
    · have := (List.getElem?_eq_some_iff.mp h1).1
      omega
    · have gp := h.sub2 g' (List.mem_of_getElem? k1)
      cases r with
      | zero => exact absurd ((fo.bad g' ((h.rch g' gp).in ok okw)).mp k2) (h.nb g' gp)
      | succ r => exact ⟨r, i', g', k1, k2, k3, k4, h6⟩
theorem Srch.held (h : Srch C W Pt ps []) {L : List Pr} (pm : L.Perm ps) (nd : ps.Nodup) (srt : L.Pairwise leP) : DueP C W (dHolds L) := fun F fo => by
  refine ⟨fun k0 e => ?_, fun _ => ⟨L, rfl, srt, pm.nodup_iff.mpr nd, fun p => pm.mem_iff.trans ⟨h.rch p, fun hr => hr (· ∈ ps) h.root fun z hz s hs => (h.cl z hz).elim (fun k => absurd k List.not_mem_nil) fun k => k s hs⟩⟩⟩
  obtain ⟨r, i, g, h1, _⟩ := h.gd F fo k0 e
  cases h1
end
/-! ### sorted pairs -/
theorem PrA.uniq {H : Hp} {x : V} {p q : Pr} (a : PrA H x p) (b : PrA H x q) : p = q := by
  obtain ⟨t, rfl, h1⟩ := a
  obtain ⟨u, e, h2⟩ := b
  cases e
  rw [h1] at h2
  have h3 : (kP p).map kV = (kP q).map kV := by
    injection h2 with h2
    injection h2
  have i1 : V.int p.1 = V.int q.1 := (List.cons.inj h3).1
  have i2 : V.int p.2 = V.int q.2 := (List.cons.inj (List.cons.inj h3).2).1
  injection i1 with i1
  injection i2 with i2
  exact Prod.ext i1 i2
noncomputable def kf (H : Hp) (x : V) : Pr := @dite _ (∃ p, PrA H x p) (Classical.propDecidable _) (fun h => h.choose) fun _ => (0, 0)
theorem kf_at {H : Hp} {x : V} {p : Pr} (h : PrA H x p) : kf H x = p := by
  have e : ∃ p, PrA H x p := ⟨p, h⟩
  unfold kf
  rw [dif_pos e]
  exact e.choose_spec.uniq h
theorem prs_map {H : Hp} : ∀ {xs : List V} {ps : List Pr}, PrAs H xs ps → xs.map (kf H) = ps := fun {xs ps} h => by
  induction h with
  | nil => rfl
  | cons a _ ih => rw [List.map_cons, kf_at a, ih]
theorem prs_of {H : Hp} : ∀ {ys : List V}, (∀ y ∈ ys, ∃ p, PrA H y p) → PrAs H ys (ys.map (kf H))
  | [], _ => .nil
  | y :: ys, h => by
    obtain ⟨p, hp⟩ := h y List.mem_cons_self
    refine .cons ?_ (prs_of fun z hz => h z (List.mem_cons_of_mem _ hz))
    rw [kf_at hp]
    exact hp
theorem sort_prs {H : Hp} {xs : List V} {ps : List Pr} (h : PrAs H xs ps) : (∀ x ∈ xs, ∃ t, x = V.ref t ∧ H t = some (.tup [.int (kf H x).1, .int (kf H x).2])) ∧ ∀ ys, SrtO.Srtd (ltP (kf H)) ys → SrtO.Stb (ltP (kf H)) ys xs → PrAs H ys (ys.map (kf H)) ∧ (ys.map (kf H)).Perm ps ∧ (ys.map (kf H)).Pairwise leP ∧ ys.length = xs.length := by
  have each : ∀ x ∈ xs, ∃ p, PrA H x p := fun x hx => by
    obtain ⟨i, hi⟩ := List.getElem?_of_mem hx
    obtain ⟨p, _, hp⟩ := h.at hi
    exact ⟨p, hp⟩
  refine ⟨fun x hx => ?_, fun ys srt stb => ⟨prs_of fun y hy => each y (stb.perm.mem_iff.mp hy), ?_, ?_, stb.len⟩⟩
  · obtain ⟨p, t, rfl, ht⟩ := each x hx
    exact ⟨t, rfl, by rw [kf_at ⟨t, rfl, ht⟩]; exact ht⟩
  · rw [← prs_map h]
    exact stb.perm.map _
  · exact List.pairwise_map.mpr srt
theorem prs_dp {K : PySem.W.Frag} {H : Hp} : ∀ {xs : List V} {ps : List Pr}, PrAs H xs ps → DpAll K H xs (ps.map dP) := fun {xs ps} h => by
  induction h with
  | nil => exact .nil
  | cons a _ ih =>
    obtain ⟨t, rfl, ht⟩ := a
    exact .cons (.tup (SqT.of ht) (.cons (.int _) (.cons (.int _) .nil))) ih
end Mt
namespace Mt
open PySem PySem.Spec PyProof.Rows L2
def spDue (K : PySem.W.Frag) : Sp := fun vs H Q _ => ∃ (vc vw : V) (base : Int) (C : Chn) (W : Wt), vs = [vc, vw] ∧ Dp K H vc (dChn base C) ∧ ChnOk base C ∧ Dp K H vw (dWt W) ∧ WtOk W ∧
  ∀ (H' : Hp) (v : V) (d : PyData) (F : Pr → Option Nat), Same H H' → FarOk C W F → Dp K H' v d → DueP C W d → Q v H'
def spDecide (K : PySem.W.Frag) : Sp := fun vs H Q _ => ∃ (vc vw : V) (base : Int) (C : Chn) (W : Wt), vs = [vc, vw] ∧ Dp K H vc (dChn base C) ∧ ChnOk base C ∧ Dp K H vw (dWt W) ∧ WtOk W ∧
  ∀ (H' : Hp) (v : V) (d : PyData), Same H H' → Dp K H' v d → DueP C W d → Q v H'
theorem due_breaks {C : Chn} {W : Wt} {F : Pr → Option Nat} {k : Nat} (fo : FarOk C W F) (e : F (0, 0) = some k) (u : ∀ G, FarOk C W G → G (0, 0) = some k ∧ gr C W G k (0, 0) = gr C W F k (0, 0)) : DueP C W (dBreaks (gr C W F k (0, 0))) := fun G go => by
  obtain ⟨u1, u2⟩ := u G go
  refine ⟨fun k0 e0 => ?_, fun e0 => ?_⟩
  · rw [u1] at e0
    cases e0
    rw [u2]
  · rw [u1] at e0
    cases e0
theorem far_le {base : Int} {C : Chn} {W : Wt} (ok : ChnOk base C) (okw : WtOk W) {F G : Pr → Option Nat} (fo : FarOk C W F) (go : FarOk C W G) : ∀ (k : Nat) (p : Pr), inR C.length W.rows.length p → F p = some k → ∃ j, j ≤ k ∧ G p = some j
  | 0, p, hp, e => ⟨0, Nat.le_refl _, (go.bad p hp).mpr ((fo.bad p hp).mp e)⟩
  | k + 1, p, hp, e => by
    obtain ⟨s, hs, es⟩ := fo.ex p hp k e
    obtain ⟨j, hj, ej⟩ := far_le ok okw fo go k s (sc_in ok okw hp hs) es
    obtain ⟨i, hi, ei⟩ := go.step p hp s hs j ej
    exact ⟨i, by omega, ei⟩
theorem far_eq {base : Int} {C : Chn} {W : Wt} (ok : ChnOk base C) (okw : WtOk W) {F G : Pr → Option Nat} (fo : FarOk C W F) (go : FarOk C W G) {p : Pr} (hp : inR C.length W.rows.length p) : F p = G p := by
  cases e1 : F p with
  | none =>
    cases e2 : G p with
    | none => rfl
    | some k =>
      obtain ⟨j, _, h⟩ := far_le ok okw go fo k p hp e2
      rw [e1] at h
      cases h
  | some k =>
    obtain ⟨j, hj, h⟩ := far_le ok okw fo go k p hp e1
    obtain ⟨i, hi, h2⟩ := far_le ok okw go fo j p hp h
    rw [e1] at h2
    cases h2
    rw [h]
    congr 1
    omega
theorem gr_eq {base : Int} {C : Chn} {W : Wt} (ok : ChnOk base C) (okw : WtOk W) {F G : Pr → Option Nat} (fo : FarOk C W F) (go : FarOk C W G) : ∀ (k : Nat) (p : Pr), inR C.length W.rows.length p → gr C W F k p = gr C W G k p
  | 0, _, _ => rfl
  | k + 1, p, hp => by
    have e : (rowOf C p.1.toNat).find? (fun br => decide (F (sucB W p br) = some k)) = (rowOf C p.1.toNat).find? fun br => decide (G (sucB W p br) = some k) := by
      have hh : ∀ br ∈ rowOf C p.1.toNat, decide (F (sucB W p br) = some k) = decide (G (sucB W p br) = some k) := fun br hbr => by
        rw [far_eq ok okw fo go (sc_in ok okw hp (by rw [sc_eq]; exact List.mem_map.mpr ⟨br, hbr, rfl⟩))]
      generalize rowOf C p.1.toNat = l at hh
      induction l with
      | nil => rfl
      | cons b l ih =>
        rw [List.find?_cons, List.find?_cons, hh b List.mem_cons_self, ih fun z hz => hh z (List.mem_cons_of_mem _ hz)]
    show (match (rowOf C p.1.toNat).find? fun br => decide (F (sucB W p br) = some k) with
      | some br => br.1 :: gr C W F k (sucB W p br)
      | none => []) = (match (rowOf C p.1.toNat).find? fun br => decide (G (sucB W p br) = some k) with
      | some br => br.1 :: gr C W G k (sucB W p br)
      | none => [])
    rw [e]
    cases h : (rowOf C p.1.toNat).find? fun br => decide (G (sucB W p br) = some k) with
    | none => rfl
    | some br =>
      show br.1 :: _ = br.1 :: _
      rw [gr_eq ok okw fo go k _ (sc_in ok okw hp (by rw [sc_eq]; exact List.mem_map.mpr ⟨br, List.mem_of_find?_eq_some h, rfl⟩))]
section
variable {P : Program} {w : World} {K : PySem.W.Frag} {mg : Str → Option Value} {base : Heap}
theorem ok__law_due (T : Txt K mg) (D__law_met_pairs : Kept P w K mg base 2 "_law_met_pairs" ["chain", "watch", "starts"] (spMet K)) (D__law_far : Kept P w K mg base 3 "_law_far" ["chain", "watch"] (spFar K)) (D__law_least : Kept P w K mg base 2 "_law_least" ["chain", "watch", "far"] (spLeast K)) {f : Addr} {fd : FuncData} (F : FnP K "_law_due" s__law_due f fd) : FnOk P w K mg base CX0 4 f fd ["chain", "watch"] (spDue K) := by
  refine F.ok sc__law_due (fun vs H Q E h => ?_) (fun cdv A outer s H vs Q E hr h => ?_)
  · obtain ⟨vc, vw, b, C, W, rfl, _⟩ := h
    rfl
  · obtain ⟨vc, vw, b, C, W, rfl, hC, ok, hW, okw, q⟩ := h
    refine ⟨_, PSs.nox (pss_cons (ps_set (i := 2) sc__law_due.nd rfl (Or.inl rfl) (pe_d D__law_far (hr.mono (by decide)) (by rfl) (pa_cons (pv 0) (pa_cons (pv 1) pa_nil))))
      (pss_cons (ps_if (pt_cmp (pc_din (hu_of hr) (pe_tup (pa_cons pe_int (pa_cons pe_int pa_nil))) (pv 2))) (pss_one (ps_ret (pe_tup (pa_cons pe_str (pa_cons (pe_d D__law_least (hr.mono (by decide)) (by rfl) (pa_cons (pv 0) (pa_cons (pv 1) (pa_cons (pv 2) pa_nil)))) pa_nil))))) pss_nil)
      (pss_one (ps_ret (pe_tup (pa_cons pe_str (pa_cons (pe_callTy call_tuple_of (by rfl) T.b_tuple (by decide +kernel) (pa_cons (pe_callB cr_sortedPO (by rfl) T.b_sorted (by decide +kernel) (pa_cons (pe_d D__law_met_pairs (hr.mono (by decide)) (by rfl) (pa_cons (pv 0) (pa_cons (pv 1) (pa_cons (pe_lst (pa_cons (pe_tup (pa_cons pe_int (pa_cons pe_int pa_nil))) pa_nil)) pa_nil)))) pa_nil)) pa_nil)) pa_nil))))))), ?_⟩
    refine ⟨_, rfl, _, rfl, vc, vw, b, C, W, rfl, hC, ok, hW, okw, fun H1 d kvs F ps s1 hd1 fd1 fo => ?_⟩
    refine ⟨z2, fun p0 hp0 => ?_⟩
    have s2 := s1.trans (same_new (o := .tup [.int 0, .int 0]) hp0)
    have hp02 : (upd H1 p0 (.tup [.int 0, .int 0])) p0 = some (.tup ((kP ((0 : Int), (0 : Int))).map kV)) := upd_same
    have hd2 := same_new (o := .tup [.int 0, .int 0]) hp0 _ _ hd1
    generalize upd H1 p0 (.tup [.int 0, .int 0]) = H2 at s2 hp02 hd2
    refine ⟨_, rfl, d, _, rfl, DGet.t (k := kP (0, 0)) hd2 hp02, _, rfl, ?_⟩
    rw [fd1.val]
    cases e : F (0, 0) with
    | some k =>
      rw [show fV F (0, 0) = some (vN k) by unfold fV; rw [e]; rfl]
      refine ite2 (fun _ => ?_) (fun h => absurd rfl h)
      refine ⟨_, rfl, _, rfl, _, rfl, vc, vw, d, b, C, W, kvs, F, ps, k, rfl, dp_same s2 _ _ hC, ok, dp_same s2 _ _ hW, okw, hd2, fd1, fo, e, fun H3 v s3 dv => ⟨z2, fun pt hpt => ?_⟩⟩
      have s4 := same_new (o := .tup [.str "breaks", v]) hpt
      refine q _ _ (dBreaks (gr C W F k (0, 0))) F (s2.trans (s3.trans s4)) fo (.tup (SqT.of upd_same) (.cons (.str _) (.cons (dp_same s4 _ _ dv) .nil))) (due_breaks fo e fun G go => ⟨?_, (gr_eq ok okw fo go k _ (root_in ok okw)).symm⟩)
      rw [← far_eq ok okw fo go (root_in ok okw), e]
    | none =>
      rw [fV_none.mpr e]
      refine ite2 (fun h => (nomatch (show false = true from h))) (fun _ => ?_)
      refine ⟨_, rfl, _, rfl, z2, fun p1 hp1 => ⟨z1, fun l1 hl1 => ?_⟩⟩
      have s3 := s2.trans (same_new (o := .tup [.int 0, .int 0]) hp1)
      have hp13 := upd_same (H := H2) (a := p1) (o := .tup [.int 0, .int 0])
      generalize upd H2 p1 (.tup [.int 0, .int 0]) = H3 at s3 hp13 hl1
      have s4 := s3.trans (same_new (o := .lst [.ref p1]) hl1)
      have hp14 := same_new (o := .lst [.ref p1]) hl1 _ _ hp13
      have hl14 := upd_same (H := H3) (a := l1) (o := .lst [.ref p1])
      generalize upd H3 l1 (.lst [.ref p1]) = H4 at s4 hp14 hl14
      refine ⟨vc, vw, l1, b, C, W, _, [(0, 0)], rfl, dp_same s4 _ _ hC, ok, dp_same s4 _ _ hW, okw, SqL.of hl14, .cons ⟨p1, rfl, hp14⟩ .nil, by decide, fun p hp => ?_, fun H5 L zs qs s5 hL0 hL hzs qpos ql rg nd mi => ?_⟩
      · rw [List.mem_singleton.mp hp]
        exact root_in ok okw
      · obtain ⟨so1, so2⟩ := sort_prs hzs
        refine ⟨L, zs, kf H5, rfl, SqL.of hL, so1, fun ys p srt stb hp => ?_⟩
        obtain ⟨hys, pm, pw, yl⟩ := so2 ys srt stb
        have s6 := same_new (o := .lst ys) hp
        refine ⟨p, ys, rfl, .inl ⟨SqL.of upd_same, fun pt hpt => ⟨z2, fun pr hpr => ?_⟩⟩⟩
        have s7 := same_new (o := .tup ys) hpt
        have s8 := same_new (o := .tup [.str "holds", .ref pt]) hpr
        refine q _ _ (dHolds (ys.map (kf H5))) F (s4.trans (s5.trans (s6.trans (s7.trans s8)))) fo (.tup (SqT.of upd_same) (.cons (.str _) (.cons (.tup (SqT.of (s8 _ _ upd_same)) (prs_dp (hys.same (s6.trans (s7.trans s8))))) .nil))) fun G go => ⟨fun k0 e0 => ?_, fun _ => ⟨_, rfl, pw, pm.nodup_iff.mpr nd, fun z => pm.mem_iff.trans (Met.rch mi z)⟩⟩
        rw [← far_eq ok okw fo go (root_in ok okw), e] at e0
        cases e0
end
end Mt
namespace DSP
open PySem PySem.Spec PyProof.Rows L2
/-! ### {k: v}, one pair, the key a tuple -/
def tDisp1 (tk tv : TE) : TE := fun σ H Q => ∀ p, H p = none → tk σ (upd H p (.dT [])) fun x H1 => tv σ H1 fun y H2 => H2 p = some (.dT []) ∧ ∃ (b : Addr) (ks : List L2.Key), x = .ref b ∧ H2 b = some (.tup (ks.map kV)) ∧ Q (.ref p) (upd H2 p (.dT (putK [] ks y)))
def one (d : Addr) (Q : VK) : List (V × V) → Hp → Prop
  | [(x, y)], H2 => H2 d = some (.dT []) ∧ ∃ (b : Addr) (ks : List L2.Key), x = .ref b ∧ H2 b = some (.tup (ks.map kV)) ∧ Q (.ref d) (upd H2 d (.dT (putK [] ks y)))
  | _, _ => False
theorem pe_disp1T {X : Cx} {k v : Expr} {pos : Pos} {tk tv : TE} (room : X.A.units < cLine) (hk : PE X k tk) (hv : PE X v tv) : PE X (.Dict [some k] [v] pos) (tDisp1 tk tv) := by
  refine ⟨fun pins s σ H Q I q => ?_⟩
  have hn := I.hok.fresh (Nat.le_refl s.heap.objs.size)
  have I1 := I.laid (a := s.heap.objs.size) (o := .dT []) (h' := s.heap.push { cls := .type "dict", data := .dict #[] }) (t' := s.toks) (fun _ _ q => Heap.get?_push_of_some _ q) (Nat.le_refl _) (dt_empty s.heap I.big)
  have hs := zip_pairTrees [some k] [v] X.env pos rfl rfl
  have hl := pairTrees_length [some k] [v] X.env pos rfl rfl
  rw [arm_eval_Dict, hs, dictDisplay_pairs _ (by intro e; rw [e] at hl; cases hl) (by rw [hl]; show 1 < 17; decide)]
  refine wpAny_bind (wpAny_standAt (wpAny_bind (wpAny_subDictH (knd := tupleKind (mixKind X.prog X.w)) room (by rw [hl]; show 1 ≤ 15; decide) ?_)))
  refine thn ((pps_cons hk hv pps_nil).run pins _ σ _ (one s.heap.objs.size Q) I1 (q _ hn)) fun ws s2 h2 => ?_
  obtain ⟨ps, H2, I2, rel, q2⟩ := h2
  rcases ps with _ | ⟨⟨x, y⟩, _ | ⟨_, _⟩⟩
  · exact q2.elim
  · obtain ⟨e, b, ks, rfl, hb, q2⟩ := q2
    cases rel with
    | @cons p u ps us hpu ht =>
      cases ht
      obtain ⟨u1, u2⟩ := u
      obtain ⟨r1, r2⟩ := hpu
      obtain rfl : u1 = Value.ref b := r1
      obtain ⟨z, nosys, xs, rel, dd⟩ := dt_of I2.hok e
      cases rel
      refine ⟨[(ks, b, u2)], ⟨rfl, rfl, key_of I2.hok hb, trivial⟩, dd, fun h' tk dd2 same => wpAny_pure ⟨.ref s.heap.objs.size, _, ?_, rfl, q2⟩⟩
      obtain ⟨o, es, ep, ho, c1, c2, c3, _, c4⟩ := dd2
      refine d_write I2 (by rw [e]; exact True.intro) same ⟨o, ho⟩ ⟨by show 1 ≤ sizeLine; decide, nosys, _, (KT.put .nil ks hb r2).keeps fun c ys ec => ?_, o, es, ep, ho, c1, c2, c3, c4⟩
      rw [upd_ne (ne_of ec e (fun z => nomatch z))]
      exact ec
  · exact q2.elim
end DSP
namespace Mt
open PySem PySem.Spec PyProof.Rows L2
theorem pa_starK {X : Cx} {K : PySem.W.Frag} {e : Expr} {es : List Expr} {te : TE} {t : TA} {p : Pos} (h : X.K = K) (he : PE X e te) (hr : L2.PA X es t) (hs : starEach (.Starred e p :: es) X.env = (true, eval e X.env) :: starEach es X.env := by rfl) : L2.PA X (.Starred e p :: es) (StX.tStar K te t) := h ▸ StX.pa_star he hr hs
theorem keys_prs {H : Hp} {kvs : List (List L2.Key × V)} {bs : List Addr} (h : IsKeys H kvs bs) : ∀ {ps : List Pr}, kvs.map (·.1) = ps.map kP → PrAs H (bs.map V.ref) ps := by
  unfold IsKeys at h
  induction h with
  | nil =>
    intro ps e
    cases ps with
    | nil => exact .nil
    | cons p ps => cases e
  | @cons kv b kvs bs a _ ih =>
    intro ps e
    cases ps with
    | nil => cases e
    | cons p ps =>
      have e1 := (List.cons.inj e).1
      have e2 := (List.cons.inj e).2
      refine .cons ⟨b, rfl, ?_⟩ (ih e2)
      rw [← e1]
      exact a
def VI (K : PySem.W.Frag) (H : Hp) (Fv : Pr → Option V) (Pt : Pr → List (List Int)) (n : Nat) (ps : List Pr) : Prop := ∀ p ∈ ps, ∃ v, Fv p = some v ∧ Dp K H v (.tuple ((Pt p).map dI)) ∧ (Pt p).length < n
theorem VI.keep {K : PySem.W.Frag} {H H' : Hp} {Fv : Pr → Option V} {Pt : Pr → List (List Int)} {n : Nat} {ps : List Pr} (h : VI K H Fv Pt n ps) (k : KeepT H H') : VI K H' Fv Pt n ps := fun p hp => by
  obtain ⟨v, h1, h2, h3⟩ := h p hp
  exact ⟨v, h1, dp_keep k _ _ (noLs_I _) h2, h3⟩
theorem VI.put {K : PySem.W.Frag} {H : Hp} {Fv : Pr → Option V} {Pt : Pr → List (List Int)} {n : Nat} {ps : List Pr} (h : VI K H Fv Pt n ps) {x : Pr} {v : V} {bl : List (List Int)} (hx : x ∉ ps) (hv : Dp K H v (.tuple (bl.map dI))) (hl : bl.length < n + 1) : VI K H (fun z => if z = x then some v else Fv z) (fun z => if z = x then bl else Pt z) (n + 1) (ps ++ [x]) := fun p hp => by
  by_cases e : p = x
  · refine ⟨v, if_pos e, ?_, ?_⟩
    · show Dp K H v (.tuple ((if p = x then bl else Pt p).map dI))
      rw [if_pos e]
      exact hv
    · show (if p = x then bl else Pt p).length < n + 1
      rw [if_pos e]
      exact hl
  · rcases List.mem_append.mp hp with hp | hp
    · obtain ⟨u, h1, h2, h3⟩ := h p hp
      refine ⟨u, (if_neg e).trans h1, ?_, ?_⟩
      · show Dp K H u (.tuple ((if p = x then bl else Pt p).map dI))
        rw [if_neg e]
        exact h2
      · show (if p = x then bl else Pt p).length < n + 1
        rw [if_neg e]
        omega
    · exact absurd (List.mem_singleton.mp hp) e
section
variable {P : Program} {w : World} {K : PySem.W.Frag} {mg : Str → Option Value} {base : Heap}
theorem ok_decide (T : Txt K mg) (D_place_behind : Kept P w K mg base 1 "place_behind" ["watch", "place", "shown"] (spPlace K)) {f : Addr} {fd : FuncData} (F : FnP K "decide" s_decide f fd) : FnOk P w K mg base CX0 2 f fd ["chain", "watch"] (spDecide K) := by
  refine F.ok sc_decide (fun vs H Q E h => ?_) (fun cdv A outer s H vs Q E hr h => ?_)
  · obtain ⟨vc, vw, b, C, W, rfl, _⟩ := h
    rfl
  · obtain ⟨vc, vw, b, C, W, rfl, hC, ok, hW, okw, q⟩ := h
    refine ⟨_, PSs.nox (pss_cons (ps_set (i := 2) sc_decide.nd rfl (Or.inl rfl) (pe_ix ix_tup (pv 1) pe_int (fun _ _ => rfl)))
      (pss_cons (ps_if (pt_cmpR op_in_seq pe_int (pv 2) (by rfl)) (pss_one (ps_ret (pe_tup (pa_cons pe_str (pa_cons (pe_tup pa_nil) pa_nil))))) pss_nil)
      (pss_cons (ps_set (i := 3) sc_decide.nd rfl (Or.inl rfl) (DSP.pe_disp1T (Nat.lt_of_le_of_lt (Nat.le_add_right _ _) hr.units) (pe_tup (pa_cons pe_int (pa_cons pe_int pa_nil))) (pe_tup pa_nil)))
      (pss_cons (ps_set (i := 4) sc_decide.nd rfl (Or.inl rfl) (pe_lst (pa_cons (pe_tup (pa_cons pe_int (pa_cons pe_int pa_nil))) pa_nil)))
      (pss_cons (ps_while PassesOwn.never (pt_truth (pv 4) (by intro _; rfl)) (pss_cons (ps_set (i := 5) sc_decide.nd rfl (Or.inl rfl) (pe_lst pa_nil))
      (pss_cons (ps_for PassesOwn.never rfl (pi_list (pv 4)) (pg_tup rfl (pgs_cons (pg_name (i := 6) sc_decide.nd rfl (Or.inl rfl)) (pgs_cons (pg_name (i := 7) sc_decide.nd rfl (Or.inl rfl)) pgs_nil))) (pss_one (ps_for PassesOwn.never rfl (pi_tup (pe_ix ix_tup (pe_ix ix_tup (pv 0) pe_int (fun _ _ => rfl)) (pv 6) (fun _ _ => rfl))) (pg_tup rfl (pgs_cons (pg_name (i := 8) sc_decide.nd rfl (Or.inl rfl)) (pgs_cons (pg_name (i := 9) sc_decide.nd rfl (Or.inl rfl)) (pgs_cons (pg_name (i := 10) sc_decide.nd rfl (Or.inl rfl)) pgs_nil)))) (pss_cons (ps_set (i := 11) sc_decide.nd rfl (Or.inl rfl) (pe_tup (pa_cons (pv 10) (pa_cons (pe_d D_place_behind (hr.mono (by decide)) (by rfl) (pa_cons (pv 1) (pa_cons (pv 7) (pa_cons (pv 9) pa_nil)))) pa_nil))))
      (pss_cons (ps_if (pt_cmp (pc_din (hu_of hr) (pv 11) (pv 3))) (pss_one ps_continue) pss_nil)
      (pss_cons (ps_asg (pe_tup (pa_starK (K := K) rfl (pe_dget (hu_of hr) (pv 3) (pe_tup (pa_cons (pv 6) (pa_cons (pv 7) pa_nil))) (fun _ _ => rfl)) (pa_cons (pv 8) pa_nil))) (pg_sub (pv 3) (pv 11) (set_dict (hu_of hr))))
      (pss_cons (ps_if (pt_cmpR op_in_seq (pe_ix ix_tup (pv 11) pe_int (fun _ _ => rfl)) (pv 2) (by rfl)) (pss_one (ps_ret (pe_tup (pa_cons pe_str (pa_cons (pe_dget (hu_of hr) (pv 3) (pv 11) (fun _ _ => rfl)) pa_nil))))) pss_nil)
      (pss_one (ps_expr (pe_bm PySem.F.plainAttrs_list PySem.F.slot_list_append PySem.F.type_list_append mt_append (pv 5) (pa_cons (pv 11) pa_nil)))))))))))
      (pss_one (ps_set (i := 4) sc_decide.nd rfl (Or.inl rfl) (pv 5))))))
      (pss_one (ps_ret (pe_tup (pa_cons pe_str (pa_cons (pe_callTy call_tuple_of (by rfl) T.b_tuple (by decide +kernel) (pa_cons (pe_callB cr_sortedPO (by rfl) T.b_sorted (by decide +kernel) (pa_cons (pe_callTy (call_list_dT rfl) (by rfl) T.b_list (by decide +kernel) (pa_cons (pv 3) pa_nil)) pa_nil)) pa_nil)) pa_nil)))))))))), ?_⟩
    obtain ⟨pc, pq, ys, rfl, hpc, hpq, hA⟩ := chn_at (id hC)
    obtain ⟨pw, pwq, pwb, us, rfl, hpw, hpwq, hAw, hpwb⟩ := wt_at (id hW)
    have yl := dpA_len hA
    rw [List.length_map] at yl
    have ul := dpA_len hAw
    rw [List.length_map] at ul
    have area : C.length * W.rows.length ≤ 50 * 20 := Nat.mul_le_mul ok.few okw.few
    refine ⟨_, rfl, pw, _, _, _, rfl, rfl, hpw, atI_nat (j := 2) rfl, ?_⟩
    refine ⟨_, rfl, pwb, _, rfl, .inr hpwb, rfl, flat_nats _, ?_⟩
    rw [show inV (V.int 0) (W.bad.map vN) = decide (0 ∈ W.bad) from inV_nat 0 W.bad]
    refine ⟨_, rfl, ite2 (fun h0 => ?_) (fun h0 => ?_)⟩
    · have h0 : 0 ∈ W.bad := of_decide_eq_true h0
      refine ⟨Nat.zero_le _, fun p1 hp1 => ⟨z2, fun p2 hp2 => ?_⟩⟩
      have s1 := same_new (o := .tup []) hp1
      have s2 := same_new (o := .tup [.str "breaks", .ref p1]) hp2
      refine q _ _ (dBreaks []) (s1.trans s2) (.tup (SqT.of upd_same) (.cons (.str _) (.cons (.tup (SqT.of (s2 _ _ upd_same)) .nil) .nil))) fun G go => ?_
      have e := (go.bad _ (root_in ok okw)).mpr h0
      exact ⟨fun k0 e0 => by
        rw [e] at e0
        cases e0
        rfl, fun e0 => by
        rw [e] at e0
        cases e0⟩
    · have h0 : 0 ∉ W.bad := fun z => h0 (decide_eq_true z)
      have hin0 := root_in ok okw
      refine fun d hd => ⟨z2, fun pk hpk => ⟨Nat.zero_le _, fun pv hpv => ?_⟩⟩
      have s1 := same_new (o := .dT []) hd
      have hd1 := upd_same (H := H) (a := d) (o := .dT [])
      generalize upd H d (.dT []) = H1 at s1 hd1 hpk hpv
      have s2 := same_new (o := .tup [.int 0, .int 0]) hpk
      have hpk2 : (upd H1 pk (.tup [.int 0, .int 0])) pk = some (.tup ((kP ((0 : Int), (0 : Int))).map kV)) := upd_same
      generalize upd H1 pk (.tup [.int 0, .int 0]) = H2 at s2 hpk2 hpv
      have s3 := same_new (o := .tup []) hpv
      have hpv3 := upd_same (H := H2) (a := pv) (o := .tup [])
      generalize upd H2 pv (.tup []) = H3 at s3 hpv3
      have hd3 := (s2.trans s3) _ _ hd1
      refine ⟨hd3, pk, kP (0, 0), rfl, s3 _ _ hpk2, ?_⟩
      have vd : pv ≠ d := fun e => by
        rw [e, hd3] at hpv3
        cases hpv3
      have s4 : Same H (upd H3 d (.dT (putK [] (kP (0, 0)) (.ref pv)))) := same_mut (s1.trans (s2.trans s3)) hd
      have hd4 := upd_same (H := H3) (a := d) (o := .dT (putK [] (kP (0, 0)) (.ref pv)))
      have hpv4 : (upd H3 d (.dT (putK [] (kP (0, 0)) (.ref pv)))) pv = some (.tup []) := by
        rw [upd_ne vd]
        exact hpv3
      generalize upd H3 d (.dT (putK [] (kP (0, 0)) (.ref pv))) = H4 at s4 hd4 hpv4
      refine ⟨z2, fun p1 hp1 => ⟨z1, fun L hL => ?_⟩⟩
      have s5 := same_new (o := .tup [.int 0, .int 0]) hp1
      have hp15 : (upd H4 p1 (.tup [.int 0, .int 0])) p1 = some (.tup ((kP ((0 : Int), (0 : Int))).map kV)) := upd_same
      generalize upd H4 p1 (.tup [.int 0, .int 0]) = H5 at s5 hp15 hL
      have s6 := same_new (o := .lst [.ref p1]) hL
      have hL6 := upd_same (H := H5) (a := L) (o := .lst [.ref p1])
      generalize upd H5 L (.lst [.ref p1]) = H6 at s6 hL6
      have s56 := s5.trans s6
      have fd6 := FD.nil (n := C.length) (m := W.rows.length) |>.new (p := (0, 0)) List.not_mem_nil hin0 (.ref pv)
      have vi6 : VI K H6 (fun q => if q = ((0, 0) : Pr) then some (V.ref pv) else none) (fun _ => []) 1 [(0, 0)] := fun p hp => ⟨.ref pv, if_pos (List.mem_singleton.mp hp), .tup (SqT.of (s56 _ _ hpv4)) .nil, Nat.one_pos⟩
      refine ⟨fun m σ H' => ∃ (L : Addr) (y5 y6 y7 y8 y9 y10 y11 : Option V) (kvs : List (List L2.Key × V)) (Fv : Pr → Option V) (ps : List Pr) (zs : List V) (ls : List Pr) (Pt : Pr → List (List Int)), m = 2 * (1000 - ps.length) + min 1 ls.length ∧ σ = [some (.ref pc), some (.ref pw), some (.ref pwb), some (.ref d), some (.ref L), y5, y6, y7, y8, y9, y10, y11] ∧ Same H H' ∧ H' d = some (.dT kvs) ∧ FD C.length W.rows.length kvs Fv ps ∧ H' L = some (.lst zs) ∧ PrAs H' zs ls ∧ VI K H' Fv Pt ps.length ps ∧ Srch C W Pt ps ls, ⟨_, L, _, _, _, _, _, _, _, _, _, _, _, [(0, 0)], fun _ => [], rfl, rfl, s4.trans s56, s56 _ _ hd4, fd6, hL6, .cons ⟨p1, rfl, s6 _ _ hp15⟩ .nil, vi6, Srch.begin ok okw h0⟩, ?_⟩
      rintro m σ H7 ⟨L, y5, y6, y7, y8, y9, y10, y11, kvs, Fv, ps, zs, ls, Pt, rfl, rfl, s7, hd7, fd7, hL7, hzs7, vi7, sr⟩
      have zl7 := hzs7.len
      have few7 := pr_few fd7.nd fd7.rg
      refine ⟨_, rfl, !zs.isEmpty, .inl ⟨zs, SqL.of hL7, rfl⟩, ?_⟩
      refine ite2 (fun hne => ?_) (fun hem => ?_)
      · have zpos : 0 < zs.length := by
          cases zs with
          | nil => cases hne
          | cons a r => exact Nat.succ_pos _
        refine ⟨fun σ' H' => ∃ (L : Addr) (y5 y6 y7 y8 y9 y10 y11 : Option V) (kvs : List (List L2.Key × V)) (Fv : Pr → Option V) (ps' : List Pr) (zs : List V) (ls' : List Pr) (Pt : Pr → List (List Int)), ps'.length = ps.length + ls'.length ∧ σ' = [some (.ref pc), some (.ref pw), some (.ref pwb), some (.ref d), some (.ref L), y5, y6, y7, y8, y9, y10, y11] ∧ Same H H' ∧ H' d = some (.dT kvs) ∧ FD C.length W.rows.length kvs Fv ps' ∧ H' L = some (.lst zs) ∧ PrAs H' zs ls' ∧ VI K H' Fv Pt ps'.length ps' ∧ Srch C W Pt ps' ls', fun σ' H' ⟨L, z5, z6, z7, z8, z9, z10, z11, kvs, Fv, ps', zs, ls', Pt, hl, e, a1, a2, a3, a4, a5, a6, a7⟩ => ⟨2 * (1000 - ps'.length) + min 1 ls'.length, ?_, L, z5, z6, z7, z8, z9, z10, z11, kvs, Fv, ps', zs, ls', Pt, rfl, e, a1, a2, a3, a4, a5, a6, a7⟩, ?_⟩
        · have := pr_few a3.nd a3.rg
          omega
        refine ⟨Nat.zero_le _, fun Fa hFa => ?_⟩
        have LF : L ≠ Fa := ne_of_none hL7 hFa
        have s8 := same_new (o := .lst []) hFa
        have hFa8 := upd_same (H := H7) (a := Fa) (o := .lst [])
        have hFaH : H Fa = none := s7.free hFa
        generalize upd H7 Fa (.lst []) = H8 at s8 hFa8
        refine ⟨_, rfl, L, rfl, ⟨_, SqL.of (s8 _ _ hL7)⟩, for_list (K := K) (a := L) (xs := zs) (fun a σ H' => ∃ (y6 y7 y8 y9 y10 y11 : Option V) (kvs : List (List L2.Key × V)) (Fv : Pr → Option V) (ps' : List Pr) (ws : List V) (fs : List Pr) (Pt : Pr → List (List Int)), ps'.length = ps.length + fs.length ∧ σ = [some (.ref pc), some (.ref pw), some (.ref pwb), some (.ref d), some (.ref L), some (.ref Fa), y6, y7, y8, y9, y10, y11] ∧ Same H H' ∧ H' d = some (.dT kvs) ∧ FD C.length W.rows.length kvs Fv ps' ∧ H' L = some (.lst zs) ∧ PrAs H' zs ls ∧ H' Fa = some (.lst ws) ∧ PrAs H' ws fs ∧ VI K H' Fv Pt ps'.length ps' ∧ Srin C W Pt ps' ls fs a []) ⟨_, _, _, _, _, _, kvs, Fv, ps, [], [], Pt, rfl, rfl, s7.trans s8, s8 _ _ hd7, fd7, s8 _ _ hL7, hzs7.same s8, hFa8, .nil, vi7.keep (KeepT.of_same s8), sr.layer⟩ (fun a σ H' _ ⟨_, _, _, _, _, _, _, _, _, _, _, _, _, _, _, _, _, h, _⟩ => SqL.of h) ?_ ?_⟩
        · rintro a x σ H9 ha ⟨y6, y7, y8, y9, y10, y11, kvs, Fv, ps', ws, fs, Pt, hl, rfl, s9, hd9, fd9, hL9, hzs9, hFa9, hws9, vi9, si⟩
          obtain ⟨⟨a1, c1⟩, hq, qx, rfl, hqx⟩ := hzs9.at ha
          have qps := si.sub _ (List.mem_of_getElem? hq)
          have hin := fd9.rg _ qps
          obtain ⟨an, rfl⟩ : ∃ n : Nat, a1 = n := ⟨a1.toNat, by have : 0 ≤ a1 := hin.1; omega⟩
          obtain ⟨cn, rfl⟩ : ∃ n : Nat, c1 = n := ⟨c1.toNat, by have : 0 ≤ c1 := hin.2.2.1; omega⟩
          have alt : an < C.length := by
            have : (an : Int) < _ := hin.2.1
            omega
          have clt : cn < W.rows.length := by
            have : (cn : Int) < _ := hin.2.2.2
            omega
          obtain ⟨xr, hxr, hdr⟩ := dpA_get hA (rowOf_at alt)
          obtain ⟨pr, rs, rfl, hpr, hrs⟩ := dp_tup hdr
          have rl := dpA_len hrs
          rw [List.length_map] at rl
          refine ⟨qx, _, rfl, SqT.of hqx, rfl, _, _, rfl, _, _, rfl, rfl, ?_⟩
          refine ⟨_, rfl, pc, _, _, _, rfl, rfl, same_t s9 hpc, atI_nat (j := 2) rfl, _, rfl, pq, _, _, _, rfl, rfl, same_t s9 hpq, atI_nat hxr, pr, rfl, ⟨_, same_t s9 hpr⟩, for_tup (K := K) (a := pr) (xs := rs) (fun j σ H' => ∃ (y8 y9 y10 y11 : Option V) (kvs : List (List L2.Key × V)) (Fv : Pr → Option V) (ps' : List Pr) (ws : List V) (fs : List Pr) (Pt : Pr → List (List Int)), ps'.length = ps.length + fs.length ∧ σ = [some (.ref pc), some (.ref pw), some (.ref pwb), some (.ref d), some (.ref L), some (.ref Fa), some (.int (an : Int)), some (.int (cn : Int)), y8, y9, y10, y11] ∧ Same H H' ∧ H' d = some (.dT kvs) ∧ FD C.length W.rows.length kvs Fv ps' ∧ H' L = some (.lst zs) ∧ PrAs H' zs ls ∧ H' Fa = some (.lst ws) ∧ PrAs H' ws fs ∧ VI K H' Fv Pt ps'.length ps' ∧ Srin C W Pt ps' ls fs a ((sc C W ((an : Int), (cn : Int))).take j)) ⟨_, _, _, _, kvs, Fv, ps', ws, fs, Pt, hl, rfl, s9, hd9, fd9, hL9, hzs9, hFa9, hws9, vi9, si⟩ (fun j σ H' _ ⟨_, _, _, _, _, _, _, _, _, _, _, _, s, _⟩ => same_t s hpr) ?_ ?_⟩
          · rintro j y σ H10 hj ⟨y8, y9, y10, y11, kvs, Fv, ps', ws, fs, Pt, hl, rfl, s10, hd10, fd10, hL10, hzs10, hFa10, hws10, vi10, si⟩
            obtain ⟨br, hbr, hy⟩ := dpA_mem (dpA_same s10 _ _ hrs) hj
            obtain ⟨pb, x0, x1, rfl, hpb, hd0, hx1⟩ := br_at hy
            have hsc : (sc C W ((an : Int), (cn : Int)))[j]? = some (sucB W ((an : Int), (cn : Int)) br) := sc_get (p := ((an : Int), (cn : Int))) hbr
            have few10 := pr_few fd10.nd fd10.rg
            have wl10 := hws10.len
            have kl10 := fd10.len
            refine ⟨pb, _, rfl, hpb, rfl, _, _, rfl, _, _, rfl, _, _, rfl, rfl, ?_⟩
            refine ⟨_, rfl, _, rfl, _, rfl, _, rfl, .ref pw, x1, cn, W, br.2.1, rfl, dp_same s10 _ _ hW, okw, clt, hx1, fun H11 s11 => ⟨z2, fun pt hpt => ?_⟩⟩
            have s12 := s11.trans (same_new (o := .tup [.int (br.2.2 : Int), .int (wStep W cn br.2.1 : Int)]) hpt)
            have hpt12 : (upd H11 pt (.tup [.int (br.2.2 : Int), .int (wStep W cn br.2.1 : Int)])) pt = some (.tup ((kP (sucB W ((an : Int), (cn : Int)) br)).map kV)) := upd_same
            generalize upd H11 pt (.tup [.int (br.2.2 : Int), .int (wStep W cn br.2.1 : Int)]) = H12 at s12 hpt12
            have hd12 := s12 _ _ hd10
            refine ⟨_, rfl, _, rfl, d, _, rfl, DGet.t (k := kP (sucB W ((an : Int), (cn : Int)) br)) hd12 hpt12, _, rfl, ?_⟩
            rw [fd10.val]
            by_cases mm : sucB W ((an : Int), (cn : Int)) br ∈ ps'
            · obtain ⟨v, e1, _⟩ := vi10 _ mm
              rw [e1]
              refine ite2 (fun _ => ?_) (fun h => absurd rfl h)
              refine ⟨_, _, _, _, kvs, Fv, ps', ws, fs, Pt, hl, rfl, s10.trans s12, hd12, fd10, s12 _ _ hL10, hzs10.same s12, s12 _ _ hFa10, hws10.same s12, vi10.keep (KeepT.of_same s12), ?_⟩
              rw [take_snoc hsc]
              exact si.old mm
            · have e1 : Fv (sucB W ((an : Int), (cn : Int)) br) = none := by
                cases e : Fv (sucB W ((an : Int), (cn : Int)) br) with
                | none => rfl
                | some v => exact absurd ((fd10.mem _).mpr fun z => by rw [e] at z; cases z) mm
              rw [e1]
              refine ite2 (fun h => (nomatch (show false = true from h))) (fun _ => ?_)
              have qps := si.sub _ (List.mem_of_getElem? hq)
              obtain ⟨v, e2, dv, vl⟩ := vi10 _ qps
              refine ⟨_, rfl, _, rfl, _, rfl, z2, fun pk1 hpk1 => ?_⟩
              have s13 := s12.trans (same_new (o := .tup [.int (an : Int), .int (cn : Int)]) hpk1)
              have hpk13 : (upd H12 pk1 (.tup [.int (an : Int), .int (cn : Int)])) pk1 = some (.tup ((kP ((an : Int), (cn : Int))).map kV)) := upd_same
              have hpt13 := same_new (o := .tup [.int (an : Int), .int (cn : Int)]) hpk1 _ _ hpt12
              generalize upd H12 pk1 (.tup [.int (an : Int), .int (cn : Int)]) = H13 at s13 hpk13 hpt13
              refine ⟨d, v, rfl, by rw [← e2, ← fd10.val]; exact DGet.t (s13 _ _ hd10) hpk13, ?_⟩
              obtain ⟨vp, vxs, rfl, hvp, hvA⟩ := dp_tup (dp_same s13 _ _ dv)
              have vxl := dpA_len hvA
              rw [List.length_map] at vxl
              refine ⟨vp, vxs, rfl, .inl hvp, _, rfl, line5 (by rw [List.length_append]; show _ + 1 ≤ _; omega), fun pn hpn => ?_⟩
              have sn := same_new (o := .tup (vxs ++ [x0])) hpn
              have s14 := s13.trans sn
              have hpn14 := upd_same (H := H13) (a := pn) (o := .tup (vxs ++ [x0]))
              have hpt14 := sn _ _ hpt13
              have dA14 := dpA_same sn _ _ hvA
              generalize upd H13 pn (.tup (vxs ++ [x0])) = H14 at s14 hpn14 hpt14 dA14
              have dn14 : Dp K H14 (.ref pn) (.tuple ((Pt ((an : Int), (cn : Int)) ++ [br.1]).map dI)) := by
                rw [List.map_append]
                exact .tup (SqT.of hpn14) (dpA_snoc dA14 (dp_same s14 _ _ (dp_same (Same.refl _) _ _ hd0)))
              have hd14 := s14 _ _ hd10
              have ptd : pt ≠ d := fun e => by
                rw [e, hd14] at hpt14
                cases hpt14
              have Fad : Fa ≠ d := fun e => by
                rw [e, hd10] at hFa10
                cases hFa10
              have Ld : L ≠ d := fun e => by
                rw [e, hd10] at hL10
                cases hL10
              refine ⟨_, rfl, _, rfl, d, _, rfl, DPut.t (k := kP (sucB W ((an : Int), (cn : Int)) br)) hd14 hpt14 (line6 (by omega)), ?_⟩
              have k15 := keepT_nt (o := .dT (putK kvs (kP (sucB W ((an : Int), (cn : Int)) br)) (.ref pn))) (nt_dt kvs) hd14
              have s15 : Same H (upd H14 d (.dT (putK kvs (kP (sucB W ((an : Int), (cn : Int)) br)) (.ref pn)))) := same_mut (s10.trans s14) hd
              have hd15 := upd_same (H := H14) (a := d) (o := .dT (putK kvs (kP (sucB W ((an : Int), (cn : Int)) br)) (.ref pn)))
              have hpt15 : (upd H14 d (.dT (putK kvs (kP (sucB W ((an : Int), (cn : Int)) br)) (.ref pn)))) pt = some (.tup ((kP (sucB W ((an : Int), (cn : Int)) br)).map kV)) := by
                rw [upd_ne ptd]
                exact hpt14
              have hFa15 : (upd H14 d (.dT (putK kvs (kP (sucB W ((an : Int), (cn : Int)) br)) (.ref pn)))) Fa = some (.lst ws) := by
                rw [upd_ne Fad]
                exact s14 _ _ hFa10
              have hL15 : (upd H14 d (.dT (putK kvs (kP (sucB W ((an : Int), (cn : Int)) br)) (.ref pn)))) L = some (.lst zs) := by
                rw [upd_ne Ld]
                exact s14 _ _ hL10
              have hws15 := (hws10.same s14).nt (o := .dT (putK kvs (kP (sucB W ((an : Int), (cn : Int)) br)) (.ref pn))) (nt_dt kvs) hd14
              have hzs15 := (hzs10.same s14).nt (o := .dT (putK kvs (kP (sucB W ((an : Int), (cn : Int)) br)) (.ref pn))) (nt_dt kvs) hd14
              have dn15 := dp_keep k15 (.tuple ((Pt ((an : Int), (cn : Int)) ++ [br.1]).map dI)) _ (noLs_I _) dn14
              have vi15 := vi10.keep ((KeepT.of_same s14).trans k15)
              generalize upd H14 d (.dT (putK kvs (kP (sucB W ((an : Int), (cn : Int)) br)) (.ref pn))) = H15 at s15 hd15 hpt15 hFa15 hL15 hws15 hzs15 dn15 vi15
              have eb : wStep W cn br.2.1 = (sucB W ((an : Int), (cn : Int)) br).2.toNat := rfl
              refine ⟨_, rfl, pt, _, _, _, rfl, rfl, SqT.of hpt15, atI_nat (j := 1) rfl, _, rfl, pwb, _, rfl, .inr (same_t s15 hpwb), rfl, flat_nats _, ?_⟩
              rw [show inV (kV (Sum.inl (sucB W ((an : Int), (cn : Int)) br).2)) (W.bad.map vN) = decide (wStep W cn br.2.1 ∈ W.bad) from inV_nat (wStep W cn br.2.1) W.bad]
              refine ⟨_, rfl, ite2 (fun hb => ?_) (fun hb => ?_)⟩
              · have hb : wStep W cn br.2.1 ∈ W.bad := of_decide_eq_true hb
                have gv : some (V.ref pn) = valV (putK kvs (kP (sucB W ((an : Int), (cn : Int)) br)) (.ref pn)) (kP (sucB W ((an : Int), (cn : Int)) br)) := by
                  rw [valV_put, if_pos rfl]
                refine ⟨_, rfl, _, rfl, d, .ref pn, rfl, by rw [gv]; exact DGet.t hd15 hpt15, z2, fun pf hpf => ?_⟩
                have sf := same_new (o := .tup [.str "breaks", .ref pn]) hpf
                exact q _ _ _ (s15.trans sf) (.tup (SqT.of upd_same) (.cons (.str _) (.cons (dp_same sf _ _ dn15) .nil))) (si.hit ok okw hq hbr hb)
              · have hb : wStep W cn br.2.1 ∉ W.bad := fun z => hb (decide_eq_true z)
                refine ⟨_, rfl, .inl ⟨rfl, _, SqL.of hFa15⟩, _, rfl, Fa, ws, _, rfl, rfl, hFa15, line6 (by omega), ?_⟩
                have k16 := keepT_nt (o := .lst (ws ++ [.ref pt])) (nt_lst _) hFa15
                refine ⟨_, _, _, _, _, _, _, ws ++ [.ref pt], fs ++ [sucB W ((an : Int), (cn : Int)) br], fun z => if z = sucB W ((an : Int), (cn : Int)) br then Pt ((an : Int), (cn : Int)) ++ [br.1] else Pt z, ?_, rfl, same_mut s15 hFaH, by rw [upd_ne Fad.symm]; exact hd15, fd10.new mm (sc_in ok okw hin (List.mem_of_getElem? hsc)) (.ref pn), by rw [upd_ne LF]; exact hL15, hzs15.nt (nt_lst _) hFa15, upd_same, (hws15.nt (nt_lst _) hFa15).snoc (PrA.nt (nt_lst _) hFa15 ⟨pt, rfl, hpt15⟩), ?_, ?_⟩
                · rw [List.length_append, List.length_append]
                  show _ + 1 = _ + (_ + 1)
                  omega
                · rw [List.length_append]
                  refine (vi15.put mm dn15 ?_).keep k16
                  rw [List.length_append]
                  show _ + 1 < _
                  omega
                · rw [take_snoc hsc]
                  exact si.more ok okw hq hbr hb mm
          · rintro σ H10 ⟨y8, y9, y10, y11, kvs, Fv, ps', ws, fs, Pt, hl, rfl, s10, hd10, fd10, hL10, hzs10, hFa10, hws10, vi10, si⟩
            rw [rl, List.take_of_length_le (by rw [sc_eq, List.length_map]; exact Nat.le_refl _)] at si
            exact ⟨_, _, _, _, _, _, kvs, Fv, ps', ws, fs, Pt, hl, rfl, s10, hd10, fd10, hL10, hzs10, hFa10, hws10, vi10, si.row ok okw hq⟩
        · rintro σ H9 ⟨y6, y7, y8, y9, y10, y11, kvs, Fv, ps', ws, fs, Pt, hl, rfl, s9, hd9, fd9, hL9, hzs9, hFa9, hws9, vi9, si⟩
          rw [zl7] at si
          exact ⟨_, rfl, Fa, _, _, _, _, _, _, _, kvs, Fv, ps', ws, fs, Pt, hl, rfl, s9, hd9, fd9, hFa9, hws9, vi9, si.fin ok okw⟩
      · have z0 : ls = [] := by
          cases zs with
          | nil => exact List.length_eq_zero_iff.mp zl7.symm
          | cons a r => exact absurd rfl hem
        subst z0
        refine ⟨_, rfl, d, kvs, rfl, .inl hd7, fun pl bs hpl isk => ?_⟩
        have s8 := same_new (o := .lst (bs.map V.ref)) hpl
        have hpl8 := upd_same (H := H7) (a := pl) (o := .lst (bs.map V.ref))
        have hks := (keys_prs isk fd7.ks).same s8
        generalize upd H7 pl (.lst (bs.map V.ref)) = H8 at s8 hpl8 hks
        obtain ⟨so1, so2⟩ := sort_prs hks
        refine ⟨pl, _, kf H8, rfl, SqL.of hpl8, so1, fun ys p srt stb hp => ?_⟩
        obtain ⟨hys, pm, pw, yl⟩ := so2 ys srt stb
        have s9 := same_new (o := .lst ys) hp
        refine ⟨p, ys, rfl, .inl ⟨SqL.of upd_same, fun pt hpt => ⟨z2, fun pr hpr => ?_⟩⟩⟩
        have s10 := same_new (o := .tup ys) hpt
        have s11 := same_new (o := .tup [.str "holds", .ref pt]) hpr
        exact q _ _ (dHolds (ys.map (kf H8))) (s7.trans (s8.trans (s9.trans (s10.trans s11)))) (.tup (SqT.of upd_same) (.cons (.str _) (.cons (.tup (SqT.of (s11 _ _ upd_same)) (prs_dp (hys.same (s9.trans (s10.trans s11))))) .nil))) (sr.held pm fd7.nd pw)
end
end Mt
namespace Mt
open PySem PySem.Spec PyProof.Rows L2
abbrev s_wp : Stmt := inClass (topS 4) 2
theorem sc_wp : FnScope ["self"] ["self"] (defScope s_wp) := ⟨rfl, rfl, rfl, by decide +kernel, rfl, by decide +kernel, by decide +kernel⟩
def spLook (C : Addr) : Sp := fun vs H Q _ => ∃ (p dx : Addr) (vw : V) (h : Nat) (b : Bool), vs = [.ref p, .int (h : Int), .bl b] ∧ H p = some (.ins C dx (wf vw h b)) ∧ ∀ H', Same H H' → Q (.bl true) H'
/-- the second thing that a watcher shows -/
structure WchP (P : Program) (w : World) (K : PySem.W.Frag) (mg : Str → Option Value) (base : Heap) (C pA gA : Addr) (fdA : FuncData) : Prop where
  pr : PropOf K C "place" pA gA
  fA_ : FnOk P w K mg base CX0 1 gA fdA ["self"] (getSp C "here")
  bA : Binds K fdA ["self"] []
section
variable {P : Program} {w : World} {K : PySem.W.Frag} {mg : Str → Option Value} {base : Heap} {C : Addr}
theorem ok_wp (X : WTx K C) {f : Addr} {fd : FuncData} (F : FnM K "place" "Watcher.place" s_wp f fd) : FnOk P w K mg base CX0 1 f fd ["self"] (getSp C "here") := by
  refine F.ok sc_wp (fun vs H Q E h => ?_) (fun cdv A outer s H vs Q E hr h => ?_)
  · obtain ⟨a, dx, fs, v, rfl, _⟩ := h
    rfl
  · obtain ⟨a, dx, fs, v, rfl, ha, hl, q⟩ := h
    refine ⟨_, pss_one (ps_ret (pe_fld (pv 0) rfl)), ?_⟩
    exact ⟨_, rfl, a, C, dx, fs, v, rfl, ha, X.cl, X.nH, hl, q⟩
end
/-! ### data of texts, ints and tuples of them, not too wide -/
mutual
def pvW : PyData → Bool
  | .str _ => true
  | .int _ => true
  | .tuple ds => decide (ds.length ≤ 1000) && pvWs ds
  | .none => false
  | .bool _ => false
  | .list _ => false
  | .dict _ => false
def pvWs : List PyData → Bool
  | [] => true
  | d :: r => pvW d && pvWs r
end
mutual
def dep : PyData → Nat
  | .tuple ds => deps ds + 1
  | .none => 0
  | .str _ => 0
  | .int _ => 0
  | .bool _ => 0
  | .list _ => 0
  | .dict _ => 0
def deps : List PyData → Nat
  | [] => 0
  | d :: r => max (dep d) (deps r)
end
theorem pvWs_mem : ∀ {ds : List PyData} {d : PyData}, pvWs ds = true → d ∈ ds → pvW d = true
  | [], _, _, h => absurd h List.not_mem_nil
  | e :: r, d, h, m => by
    obtain ⟨h1, h2⟩ := Bool.and_eq_true_iff.mp (show (pvW e && pvWs r) = true from h)
    rcases List.mem_cons.mp m with k | k
    · rw [k]
      exact h1
    · exact pvWs_mem h2 k
theorem pvWs_all : ∀ {l : List PyData}, (∀ x ∈ l, pvW x = true) → pvWs l = true
  | [], _ => rfl
  | x :: r, h => by
    show (pvW x && pvWs r) = true
    rw [h x List.mem_cons_self, pvWs_all fun y hy => h y (List.mem_cons_of_mem _ hy)]
    rfl
theorem deps_mem : ∀ {ds : List PyData} {d : PyData}, d ∈ ds → dep d ≤ deps ds
  | [], _, h => absurd h List.not_mem_nil
  | e :: r, d, m => by
    show dep d ≤ max (dep e) (deps r)
    rcases List.mem_cons.mp m with k | k
    · rw [k]
      exact Nat.le_max_left _ _
    · exact Nat.le_trans (deps_mem k) (Nat.le_max_right _ _)
theorem deps_le {n : Nat} : ∀ {ds : List PyData}, (∀ d ∈ ds, dep d ≤ n) → deps ds ≤ n
  | [], _ => Nat.zero_le _
  | d :: r, h => Nat.max_le.mpr ⟨h d List.mem_cons_self, deps_le (ds := r) fun x hx => h x (List.mem_cons_of_mem _ hx)⟩
def spSm (K : PySem.W.Frag) (n : Nat) : Sp := fun vs H Q _ => ∃ (t u : V) (d : PyData), vs = [t, u] ∧ Dp K H t d ∧ Dp K H u d ∧ pvW d = true ∧ dep d < n ∧ ∀ H', Same H H' → Q (.bl true) H'
section
variable {P : Program} {w : World} {K : PySem.W.Frag} {mg : Str → Option Value} {base : Heap}
theorem sm_ok (T : Txt K mg) (D__law_is_int : Kept P w K mg base 1 "_law_is_int" ["thing"] spIsInt) : ∀ (n : Nat) {f : Addr} {fd : FuncData}, FnP K "_law_same" s__law_same f fd → mg "_law_same" = some (.ref f) → Binds K fd ["told", "due"] [] → FnOk P w K mg base CX0 (n + 2) f fd ["told", "due"] (spSm K n)
  | 0, f, fd, F, hg, hb => F.ok (k := 1) sc__law_same (fun vs H Q E h => by
      obtain ⟨t, u, d, rfl, _⟩ := h
      rfl) (fun cdv A outer s H vs Q E hr h => by
      obtain ⟨t, u, d, rfl, _, _, _, h, _⟩ := h
      exact absurd h (Nat.not_lt_zero _))
  | n + 1, f, fd, F, hg, hb => by
    have D__law_same : Kept P w K mg base (n + 2) "_law_same" ["told", "due"] (spSm K n) := ⟨f, fd, sm_ok T D__law_is_int n F hg hb, hg, F.kp, hb⟩
    refine F.ok (k := n + 2) sc__law_same (fun vs H Q E h => ?_) (fun cdv A outer s H vs Q E hr h => ?_)
    · obtain ⟨t, u, d, rfl, _⟩ := h
      rfl
    · obtain ⟨t, u, d, rfl, ht, hu, hp, hn, q⟩ := h
      refine ⟨_, PSs.nox (pss_cons (ps_if (pt_val (pe_callB call_isi (by rfl) T.b_isinstance (by decide +kernel) (pa_cons (pv 1) (pa_cons (pe_bltn (v := .ty "tuple") (u := .type "tuple") (by rfl) T.b_tuple (by decide +kernel) rfl) pa_nil)))) (pss_cons (ps_if (PW.pt (pw_or (pt_not (pt_val (pe_callB call_isi (by rfl) T.b_isinstance (by decide +kernel) (pa_cons (pv 0) (pa_cons (pe_bltn (v := .ty "tuple") (u := .type "tuple") (by rfl) T.b_tuple (by decide +kernel) rfl) pa_nil))))) (pw_or1 (pt_cmpR op_ne (pe_callB call_len (by rfl) T.b_len (by decide +kernel) (pa_cons (pv 0) pa_nil)) (pe_callB call_len (by rfl) T.b_len (by decide +kernel) (pa_cons (pv 1) pa_nil)) (nomark _))))) (pss_one (ps_ret pe_bl)) pss_nil)
      (pss_one (ps_ret (pe_callB (cr_all rfl) (by rfl) T.b_all (by decide +kernel) (pa_cons (pe_lc (own := [("k", 2)]) (g := (gName 2)) (tt := tYes) rfl sc__law_same.nd (pi_range1 (by rfl) T.b_range (pa_cons (pe_callB call_len (by rfl) T.b_len (by decide +kernel) (pa_cons (pv 1) pa_nil)) pa_nil)) (blkOk_by (N := N__law_same) (sc := defScope s__law_same) (by decide +kernel)) (fun _ _ _ _ _ => (pg_name (i := 2) sc__law_same.nd rfl (Or.inl rfl))) (fun _ _ _ _ _ => pts_nil) (fun _ _ _ _ _ => (pe_d D__law_same (hr.mono (by omega)) (by rfl) (pa_cons (pe_ix (ixT (K := K) rfl) (pv 0) (pv 2) (fun _ _ => rfl)) (pa_cons (pe_ix (ixT (K := K) rfl) (pv 1) (pv 2) (fun _ _ => rfl)) pa_nil))))) pa_nil))))) pss_nil)
      (pss_cons (ps_if (pt_val (pe_callB call_isi (by rfl) T.b_isinstance (by decide +kernel) (pa_cons (pv 1) (pa_cons (pe_bltn (v := .ty "str") (u := .type "str") (by rfl) T.b_str (by decide +kernel) rfl) pa_nil)))) (pss_one (ps_ret (pe_and (pe_callB call_isi (by rfl) T.b_isinstance (by decide +kernel) (pa_cons (pv 0) (pa_cons (pe_bltn (v := .ty "str") (u := .type "str") (by rfl) T.b_str (by decide +kernel) rfl) pa_nil))) (pe_one (pe_cmpR op_eq (pv 0) (pv 1) (nomark _)))))) pss_nil)
      (pss_one (ps_ret (pe_and (pe_d D__law_is_int (hr.mono (by omega)) (by rfl) (pa_cons (pv 0) pa_nil)) (pe_one (pe_cmpR op_eq (pv 0) (pv 1) (nomark _)))))))), ?_⟩
      match d, ht, hu, hp, hn, q with
      | .str z, ht, hu, hp, hn, q =>
        obtain rfl := dp_str ht
        obtain rfl := dp_str hu
        refine ⟨_, rfl, _, .ty "tuple", .type "str", .type "tuple", false, rfl, .ty _, .base (.str _), kit_ty (by decide +kernel), false, rfl, ite2 (fun h => (nomatch h)) (fun _ => ?_)⟩
        refine ⟨_, rfl, _, .ty "str", .type "str", .type "str", true, rfl, .ty _, .base (.str _), kit_ty (by decide +kernel), true, rfl, ite2 (fun _ => ?_) (fun h => absurd rfl h)⟩
        refine ⟨_, rfl, _, .ty "str", .type "str", .type "str", true, rfl, .ty _, .base (.str _), kit_ty (by decide +kernel), true, rfl, ite2 (fun _ => ?_) (fun h => absurd rfl h)⟩
        refine ⟨_, rfl, _, rfl, rfl, ?_⟩
        rw [decide_eq_true rfl]
        exact q _ (Same.refl _)
      | .int i, ht, hu, hp, hn, q =>
        obtain rfl := dp_int ht
        obtain rfl := dp_int hu
        refine ⟨_, rfl, _, .ty "tuple", .type "int", .type "tuple", false, rfl, .ty _, .base (.int _), kit_ty (by decide +kernel), false, rfl, ite2 (fun h => (nomatch h)) (fun _ => ?_)⟩
        refine ⟨_, rfl, _, .ty "str", .type "int", .type "str", false, rfl, .ty _, .base (.int _), kit_ty (by decide +kernel), false, rfl, ite2 (fun h => (nomatch h)) (fun _ => ?_)⟩
        refine ⟨_, rfl, i, rfl, true, rfl, ite2 (fun _ => ?_) (fun h => absurd rfl h)⟩
        refine ⟨_, rfl, _, rfl, rfl, ?_⟩
        rw [decide_eq_true rfl]
        exact q _ (Same.refl _)
      | .tuple ds, ht, hu, hp, hn, q =>
        obtain ⟨pt, xs, rfl, hpt, hA⟩ := dp_tup ht
        obtain ⟨pu, ys, rfl, hpu, hB⟩ := dp_tup hu
        have xl := dpA_len hA
        have yl := dpA_len hB
        obtain ⟨hw, hp⟩ := Bool.and_eq_true_iff.mp (show (decide (ds.length ≤ 1000) && pvWs ds) = true from hp)
        have hw := of_decide_eq_true hw
        have hdd : deps ds < n := by
          have : deps ds + 1 < n + 1 := hn
          omega
        refine ⟨_, rfl, _, .ty "tuple", .type "tuple", .type "tuple", true, rfl, .ty _, sqt_ty hpu, kit_ty (by decide +kernel), true, rfl, ite2 (fun _ => ?_) (fun h => absurd rfl h)⟩
        refine ⟨_, rfl, _, .ty "tuple", .type "tuple", .type "tuple", true, rfl, .ty _, sqt_ty hpt, kit_ty (by decide +kernel), true, rfl, ite2 (fun h => (nomatch (show false = true from h))) (fun _ => ?_)⟩
        refine ⟨_, rfl, _, _, rfl, .inr ⟨_, hpt, rfl⟩, _, rfl, _, _, rfl, .inr ⟨_, hpu, rfl⟩, rfl, ?_⟩
        rw [xl, yl, decide_eq_true rfl]
        refine ⟨_, rfl, ite2 (fun h => (nomatch (show false = true from h))) (fun _ => ?_)⟩
        refine ⟨_, rfl, _, _, rfl, .inr ⟨_, hpu, rfl⟩, _, rfl, by omega, by omega, fun L hL => lc_range (lo := 0) (n := ys.length) (fun i H' => Same H H' ∧ H' L = some (.lst ((List.replicate i true).map V.bl))) ⟨same_new hL, upd_same⟩ ?_ ?_⟩
        · rintro i H1 hi ⟨s1, hL1⟩
          have hi' : i < ds.length := by omega
          have hdi : ds[i]? = some ds[i] := List.getElem?_eq_getElem hi'
          generalize ds[i] = d at hdi
          have hm := List.mem_of_getElem? hdi
          have h4 := deps_mem hm
          have ex : xs[i]? = some (xs[i]'(by omega)) := List.getElem?_eq_getElem _
          have ey : ys[i]? = some (ys[i]'(by omega)) := List.getElem?_eq_getElem _
          generalize xs[i]'(by omega) = x at ex
          generalize ys[i]'(by omega) = y at ey
          obtain ⟨d1, hd1, hx⟩ := dpA_at hA ex
          obtain ⟨d2, hd2, hy⟩ := dpA_at hB ey
          rw [hdi] at hd1 hd2
          cases hd1
          cases hd2
          refine ⟨rfl, _, rfl, _, rfl, pt, _, _, _, rfl, rfl, same_t s1 hpt, (by rw [Int.zero_add]; exact atI_nat ex), _, rfl, _, rfl, pu, _, _, _, rfl, rfl, same_t s1 hpu, (by rw [Int.zero_add]; exact atI_nat ey), x, y, d, rfl, dp_same s1 _ _ hx, dp_same s1 _ _ hy, pvWs_mem hp hm, by omega, fun H2 s2 => ⟨_, s2 _ _ hL1, by rw [List.length_map, List.length_replicate]; exact line6 (by omega), same_mut (s1.trans s2) hL, ?_⟩⟩
          rw [upd_same, List.replicate_succ', List.map_append]
          rfl
        · rintro H1 ⟨s1, hL1⟩
          refine ⟨L, List.replicate ys.length true, rfl, SqL.of hL1, ?_⟩
          rw [show (List.replicate ys.length true).all id = true from by simp]
          exact q _ s1
      | .none, _, _, hp, _, _ => nomatch hp
      | .bool _, _, _, hp, _, _ => nomatch hp
      | .list _, _, _, hp, _, _ => nomatch hp
      | .dict _, _, _, hp, _, _ => nomatch hp
end
end Mt
namespace Mt
open PySem PySem.Spec PyProof.Rows L2
theorem np_uniq {ws : List (List Int)} (h : ws.Pairwise NP) {i j : Nat} {w : List Int} (hi : ws[i]? = some w) (hj : ws[j]? = some w) : i = j := by
  have il := (List.getElem?_eq_some_iff.mp hi).1
  have jl := (List.getElem?_eq_some_iff.mp hj).1
  have ei := (List.getElem?_eq_some_iff.mp hi).2
  have ej := (List.getElem?_eq_some_iff.mp hj).2
  rcases Nat.lt_trichotomy i j with k | k | k
  · have := List.pairwise_iff_getElem.mp h i j il jl k
    rw [ei, ej] at this
    exact absurd (List.prefix_refl w) this.1
  · exact k
  · have := List.pairwise_iff_getElem.mp h j i jl il k
    rw [ei, ej] at this
    exact absurd (List.prefix_refl w) this.1
theorem fnd1_own {base : Int} {n : Nat} {r : List Br} (ok : RwOk base n r) {br : Br} (h : br ∈ r) : fnd1 r br.1 = some br := by
  cases e : fnd1 r br.1 with
  | none =>
    have := List.find?_eq_none.mp e br h
    exact absurd (decide_eq_true rfl) this
  | some b =>
    have e0 := List.find?_some (show r.find? (fun x : Br => decide (x.1 = br.1)) = some b from e)
    have e1 : b.1 = br.1 := of_decide_eq_true (show decide (b.1 = br.1) = true from e0)
    obtain ⟨i, hi⟩ := List.getElem?_of_mem (fnd1_mem e)
    obtain ⟨j, hj⟩ := List.getElem?_of_mem h
    have := np_uniq ok.cm.pf (i := i) (j := j) (w := br.1) (by rw [List.getElem?_map, hi, ← e1]; rfl) (by rw [List.getElem?_map, hj]; rfl)
    subst this
    rw [hi] at hj
    exact hj
theorem far_one {base : Int} {C : Chn} {W : Wt} {F : Pr → Option Nat} (_ok : ChnOk base C) (fo : FarOk C W F) {p : Pr} (hp : inR C.length W.rows.length p) {k : Nat} (e : F p = some (k + 1)) : ∃ br ∈ rowOf C p.1.toNat, F (sucB W p br) = some k ∧ gr C W F (k + 1) p = br.1 :: gr C W F k (sucB W p br) := by
  cases h : (rowOf C p.1.toNat).find? fun br => decide (F (sucB W p br) = some k) with
  | none =>
    obtain ⟨s, hs, es⟩ := fo.ex p hp k e
    rw [sc_eq] at hs
    obtain ⟨br, hbr, rfl⟩ := List.mem_map.mp hs
    exact absurd (decide_eq_true es) (List.find?_eq_none.mp h br hbr)
  | some br =>
    have e0 := List.find?_some h
    refine ⟨br, List.mem_of_find?_eq_some h, of_decide_eq_true (show decide (F (sucB W p br) = some k) = true from e0), ?_⟩
    show (match (rowOf C p.1.toNat).find? fun br => decide (F (sucB W p br) = some k) with
      | some br => br.1 :: gr C W F k (sucB W p br)
      | none => []) = _
    rw [h]
theorem gr_length {base : Int} {C : Chn} {W : Wt} {F : Pr → Option Nat} (ok : ChnOk base C) (okw : WtOk W) (fo : FarOk C W F) : ∀ (k : Nat) (p : Pr), inR C.length W.rows.length p → F p = some k → (gr C W F k p).length = k
  | 0, _, _, _ => rfl
  | k + 1, p, hp, e => by
    obtain ⟨br, hbr, es, eg⟩ := far_one ok fo hp e
    rw [eg, List.length_cons, gr_length ok okw fo k _ (sc_in ok okw hp (by rw [sc_eq]; exact List.mem_map.mpr ⟨br, hbr, rfl⟩)) es]
theorem rowOf_ok {base : Int} {C : Chn} {W : Wt} (ok : ChnOk base C) {p : Pr} (hp : inR C.length W.rows.length p) : RwOk base C.length (rowOf C p.1.toNat) := by
  have : p.1.toNat < C.length := by
    have h1 := hp.1
    have h2 := hp.2.1
    omega
  exact ok.row _ (List.mem_of_getElem? (rowOf_at this))
/-- along the first j blocks of the shortest way -/
theorem run_gr {base : Int} {C : Chn} {W : Wt} {F : Pr → Option Nat} (ok : ChnOk base C) (okw : WtOk W) (fo : FarOk C W F) : ∀ (k j : Nat) (p : Pr) (acc : List Br) (b : Bool), j ≤ k → inR C.length W.rows.length p → F p = some k →
    ∃ (brs : List Br) (q : Pr), ((gr C W F k p).take j).foldl (stp C) (some (acc, p.1.toNat)) = some (acc ++ brs, q.1.toNat) ∧ brs.foldl (wgo W) (p.2.toNat, b) = (q.2.toNat, b || decide (j = k ∧ 0 < k)) ∧ F q = some (k - j) ∧ inR C.length W.rows.length q
  | k, 0, p, acc, b, _, hp, e => ⟨[], p, by rw [List.append_nil]; rfl, by
      have : decide (0 = k ∧ 0 < k) = false := decide_eq_false fun ⟨h1, h2⟩ => by omega
      rw [this, Bool.or_false]
      rfl, e, hp⟩
  | 0, j + 1, _, _, _, h, _, _ => absurd h (by omega)
  | k + 1, j + 1, p, acc, b, hj, hp, e => by
    obtain ⟨br, hbr, es, eg⟩ := far_one ok fo hp e
    have hs := sc_in ok okw hp (s := sucB W p br) (by rw [sc_eq]; exact List.mem_map.mpr ⟨br, hbr, rfl⟩)
    obtain ⟨brs, q, h1, h2, h3, h4⟩ := run_gr ok okw fo k j (sucB W p br) (acc ++ [br]) (b || decide (wStep W p.2.toNat br.2.1 ∈ W.bad)) (by omega) hs es
    refine ⟨br :: brs, q, ?_, ?_, by rw [h3]; congr 1; omega, h4⟩
    · rw [eg, List.take_succ_cons, List.foldl_cons]
      have e1 : stp C (some (acc, p.1.toNat)) br.1 = some (acc ++ [br], (sucB W p br).1.toNat) := by
        show ((fnd1 (rowOf C p.1.toNat) br.1).map fun b => (acc ++ [b], b.2.2)) = _
        rw [fnd1_own (rowOf_ok ok hp) hbr]
        rfl
      rw [e1, h1, List.append_assoc]
      rfl
    · rw [List.foldl_cons]
      have e2 : wgo W (p.2.toNat, b) br = ((sucB W p br).2.toNat, b || decide (wStep W p.2.toNat br.2.1 ∈ W.bad)) := rfl
      rw [e2, h2]
      have hb : (wStep W p.2.toNat br.2.1 ∈ W.bad) ↔ k = 0 := by
        have := fo.bad _ hs
        rw [es] at this
        constructor
        · intro h
          have := this.mpr h
          cases this
          rfl
        · intro h
          subst h
          exact this.mp rfl
      congr 1
      rw [Bool.or_assoc]
      congr 1
      rw [Bool.eq_iff_iff, Bool.or_eq_true, decide_eq_true_iff, decide_eq_true_iff, decide_eq_true_iff, hb]
      omega
theorem brk_gr {base : Int} {C : Chn} {W : Wt} {F : Pr → Option Nat} (ok : ChnOk base C) (okw : WtOk W) (fo : FarOk C W F) {k j : Nat} (e : F (0, 0) = some k) (hj : j ≤ k) : brk C W ((gr C W F k (0, 0)).take j) = decide (j = k) := by
  obtain ⟨brs, q, h1, h2, h3, h4⟩ := run_gr ok okw fo k j (0, 0) [] (decide (0 ∈ W.bad)) hj (root_in ok okw) e
  have h1 : alg C 0 ((gr C W F k (0, 0)).take j) = some ([] ++ brs, q.1.toNat) := h1
  have h2 : wF W brs = _ := h2
  have hb := fo.bad _ (root_in ok okw)
  unfold brk
  rw [h1]
  show (wF W ([] ++ brs)).2 = _
  rw [List.nil_append, h2]
  show (decide (0 ∈ W.bad) || _) = _
  have hb : F (0, 0) = some 0 ↔ 0 ∈ W.bad := hb
  rw [e] at hb
  rw [Bool.eq_iff_iff, Bool.or_eq_true, decide_eq_true_iff, decide_eq_true_iff, decide_eq_true_iff, ← hb]
  constructor
  · rintro (h | h)
    · cases h
      omega
    · exact h.1
  · intro h
    by_cases z : k = 0
    · left
      rw [z]
    · right
      omega
/-- one step of the first row -/
theorem brk_one {base : Int} {C : Chn} {W : Wt} {F : Pr → Option Nat} (ok : ChnOk base C) (okw : WtOk W) (fo : FarOk C W F) (e : F (0, 0) = none) {br : Br} (h : br ∈ rowOf C 0) : brk C W [br.1] = false := by
  have hr : Rch C W (sucB W (0, 0) br) := Rch.root.next (by rw [sc_eq]; exact List.mem_map.mpr ⟨br, h, rfl⟩)
  have n1 := hr.none ok okw fo e
  have b0 : 0 ∉ W.bad := fun z => by
    have := (fo.bad _ (root_in ok okw)).mpr z
    rw [e] at this
    cases this
  have b1 : wStep W 0 br.2.1 ∉ W.bad := fun z => by
    have := (fo.bad _ (hr.in ok okw)).mpr z
    rw [n1] at this
    cases this
  have e1 : alg C 0 [br.1] = some ([br], br.2.2) := by
    show ((fnd1 (rowOf C 0) br.1).map fun b => ([] ++ [b], b.2.2)) = _
    rw [show fnd1 (rowOf C 0) br.1 = some br from fnd1_own (rowOf_ok (W := W) (p := (0, 0)) ok (root_in ok okw)) h]
    rfl
  unfold brk
  rw [e1]
  show (decide (0 ∈ W.bad) || decide (wStep W 0 br.2.1 ∈ W.bad)) = false
  rw [decide_eq_false b0, decide_eq_false b1]
  rfl
theorem far_rch {base : Int} {C : Chn} {W : Wt} {F : Pr → Option Nat} (ok : ChnOk base C) (okw : WtOk W) (fo : FarOk C W F) : ∀ (k : Nat) (p : Pr), Rch C W p → F p = some k → ∃ q, Rch C W q ∧ q.2.toNat ∈ W.bad
  | 0, p, hr, e => ⟨p, hr, (fo.bad p (hr.in ok okw)).mp e⟩
  | k + 1, p, hr, e => by
    obtain ⟨s, hs, es⟩ := fo.ex p (hr.in ok okw) k e
    exact far_rch ok okw fo k s (hr.next hs) es
theorem cloB_due {base : Int} {C : Chn} {W : Wt} {F : Pr → Option Nat} (ok : ChnOk base C) (okw : WtOk W) (fo : FarOk C W F) {qs : List Pr} (mi : MetI C W [(0, 0)] qs.length qs) : cloB C W qs = (F (0, 0)).isNone := by
  cases e : F (0, 0) with
  | some k =>
    refine cloB_f fun h => ?_
    obtain ⟨q, hr, hb⟩ := far_rch ok okw fo k _ Rch.root e
    exact (h.2 q ((Met.rch mi q).mpr hr)).2.2.2.2.1 hb
  | none =>
    refine cloB_t ⟨(Met.rch mi _).mpr Rch.root, fun p hp => ?_⟩
    have hr := (Met.rch mi p).mp hp
    obtain ⟨h1, h2, h3, h4⟩ := hr.in ok okw
    refine ⟨h1, h2, h3, h4, fun z => ?_, fun br hbr => (Met.rch mi _).mpr (hr.next (by rw [sc_eq]; exact List.mem_map.mpr ⟨br, hbr, rfl⟩))⟩
    have := (fo.bad p ⟨h1, h2, h3, h4⟩).mpr z
    rw [hr.none ok okw fo e] at this
    cases this
end Mt
namespace Mt
open PySem PySem.Spec PyProof.Rows L2
def spJudged (K : PySem.W.Frag) : Sp := fun vs H Q _ => ∃ (vc vw v : V) (base : Int) (C : Chn) (W : Wt) (d : PyData) (F : Pr → Option Nat), vs = [vc, vw, v] ∧ Dp K H vc (dChn base C) ∧ ChnOk base C ∧ Dp K H vw (dWt W) ∧ WtOk W ∧ Dp K H v d ∧ FarOk C W F ∧ DueP C W d ∧ ∀ H', Same H H' → Q (.bl true) H'
theorem tag_at {K : PySem.W.Frag} {H : Hp} {v : V} {t : Str} {d : PyData} (h : Dp K H v (.tuple [.str t, d])) : ∃ p x, v = .ref p ∧ SqT K H p [.str t, x] ∧ Dp K H x d := by
  obtain ⟨p, xs, rfl, h1, hA⟩ := dp_tup h
  obtain ⟨x0, r0, rfl, h0, hA⟩ := dpA_cons hA
  obtain ⟨x1, r1, rfl, h2, hA⟩ := dpA_cons hA
  cases dpA_nil hA
  rw [dp_str h0] at h1
  exact ⟨p, x1, rfl, h1, h2⟩
theorem cut_m1 {xs : List V} : cutV xs none (some (-1)) = xs.take (xs.length - 1) := by
  rcases List.eq_nil_or_concat xs with e | ⟨ys, y, e⟩
  · subst e
    rfl
  · subst e
    rw [List.concat_eq_append, cut_last, List.length_append, List.length_singleton, Nat.add_sub_cancel, List.take_left]
theorem slA_mono {K : PySem.W.Frag} {x : V} {lo hi : Option Int} {H : Hp} {Q Q' : VK} (h : rSlA K x lo hi H Q) (m : ∀ v H', Q v H' → Q' v H') : rSlA K x lo hi H Q' := by
  obtain ⟨a, xs, e, hx, q1, q2⟩ := h
  exact ⟨a, xs, e, hx, fun w => m _ _ (q1 w), fun w p hp => m _ _ (q2 w p hp)⟩
theorem dpA_take {K : PySem.W.Frag} {H : Hp} : ∀ {ds : List PyData} {xs : List V} (i : Nat), DpAll K H xs ds → DpAll K H (xs.take i) (ds.take i)
  | _, _, 0, _ => by
    rw [List.take_zero, List.take_zero]
    exact .nil
  | _, _, _ + 1, .nil => .nil
  | _, _, i + 1, .cons a h => .cons a (dpA_take i h)
theorem sl_m1 {K : PySem.W.Frag} {H : Hp} {p : Addr} {xs : List V} (hx : SqT K H p xs) : rSlA K (.ref p) none (some (-1)) H (fun v H' => ∃ r, v = .ref r ∧ Same H H' ∧ SqT K H' r (xs.take (xs.length - 1))) := by
  refine ⟨p, xs, rfl, hx, fun e => ⟨p, rfl, Same.refl _, ?_⟩, fun _ r hr => ⟨r, rfl, same_new hr, ?_⟩⟩
  · have e2 := e.2
    have : HT.sIx xs.length xs.length (some (-1)) = xs.length - 1 := by
      show (if (-1 : Int) < 0 then ((-1 : Int) + (xs.length : Int)).toNat else min (-1 : Int).toNat xs.length) = xs.length - 1
      rw [if_pos (by decide)]
      omega
    rw [this] at e2
    rw [List.take_of_length_le (by omega)]
    exact hx
  · rw [cut_m1]
    exact SqT.of upd_same
theorem no_tag : decide (V.str (Str.ofString "breaks") = V.str (Str.ofString "holds")) = false := by decide +kernel
theorem no_tag2 : decide (V.str (Str.ofString "holds") = V.str (Str.ofString "breaks")) = false := by decide +kernel
section
variable {P : Program} {w : World} {K : PySem.W.Frag} {mg : Str → Option Value} {base : Heap}
theorem ok__law_judged (T : Txt K mg) (D_judge_holds : Kept P w K mg base 2 "judge_holds" ["chain", "watch", "pairs"] (spHolds K)) (D_judge_breaks : Kept P w K mg base 3 "judge_breaks" ["chain", "watch", "blocks"] (spJBreaks K)) (D__law_met_pairs : Kept P w K mg base 2 "_law_met_pairs" ["chain", "watch", "starts"] (spMet K)) (D__law_is_bool : Kept P w K mg base 1 "_law_is_bool" ["told", "due"] spIsBool) {f : Addr} {fd : FuncData} (F : FnP K "_law_judged" s__law_judged f fd) : FnOk P w K mg base CX0 4 f fd ["chain", "watch", "due"] (spJudged K) := by
  refine F.ok sc__law_judged (fun vs H Q E h => ?_) (fun cdv A outer s H vs Q E hr h => ?_)
  · obtain ⟨vc, vw, v, b, C, W, d, F, rfl, _⟩ := h
    rfl
  · obtain ⟨vc, vw, v, b, C, W, d, F, rfl, hC, ok, hW, okw, hv, fo, hdue, q⟩ := h
    refine ⟨_, PSs.nox (pss_cons (ps_set (i := 3) sc__law_judged.nd rfl (Or.inl rfl) (pe_callTy call_tuple_of (by rfl) T.b_tuple (by decide +kernel) (pa_cons (pe_d D__law_met_pairs (hr.mono (by decide)) (by rfl) (pa_cons (pv 0) (pa_cons (pv 1) (pa_cons (pe_lst (pa_cons (pe_tup (pa_cons pe_int (pa_cons pe_int pa_nil))) pa_nil)) pa_nil)))) pa_nil)))
      (pss_cons (ps_if (pt_not (pt_val (pe_d D__law_is_bool (hr.mono (by decide)) (by rfl) (pa_cons (pe_d D_judge_holds (hr.mono (by decide)) (by rfl) (pa_cons (pv 0) (pa_cons (pv 1) (pa_cons (pv 3) pa_nil)))) (pa_cons (pe_cmpR op_eq (pe_ix ix_tup (pv 2) pe_int (fun _ _ => rfl)) pe_str (nomark _)) pa_nil))))) (pss_one (ps_ret pe_bl)) pss_nil)
      (pss_cons (ps_set (i := 4) sc__law_judged.nd rfl (Or.inl rfl) (pe_callTy call_tuple_of (by rfl) T.b_tuple (by decide +kernel) (pa_cons (pe_lst (pa_cons (pe_ix ix_tup (pe_ix ix_tup (pe_ix ix_tup (pe_ix ix_tup (pv 0) pe_int (fun _ _ => rfl)) pe_int (fun _ _ => rfl)) pe_int (fun _ _ => rfl)) pe_int (fun _ _ => rfl)) pa_nil)) pa_nil)))
      (pss_cons (ps_if (pt_cmpR op_eq (pe_ix ix_tup (pv 2) pe_int (fun _ _ => rfl)) pe_str (nomark _)) (pss_cons (ps_if (pt_not (pt_val (pe_d D__law_is_bool (hr.mono (by decide)) (by rfl) (pa_cons (pe_d D_judge_breaks (hr.mono (by decide)) (by rfl) (pa_cons (pv 0) (pa_cons (pv 1) (pa_cons (pe_slice sl_tupA (pe_ix ix_tup (pv 2) pe_int (fun _ _ => rfl)) po_none (po_some (pe_un un_neg pe_int))) pa_nil)))) (pa_cons (pe_cmpR op_eq (pe_callB call_len (by rfl) T.b_len (by decide +kernel) (pa_cons (pe_ix ix_tup (pv 2) pe_int (fun _ _ => rfl)) pa_nil)) pe_int (nomark _)) pa_nil))))) (pss_one (ps_ret pe_bl)) pss_nil)
      (pss_one (ps_set (i := 4) sc__law_judged.nd rfl (Or.inl rfl) (pe_ix ix_tup (pv 2) pe_int (fun _ _ => rfl))))) pss_nil)
      (pss_one (ps_ret (pe_d D__law_is_bool (hr.mono (by decide)) (by rfl) (pa_cons (pe_d D_judge_breaks (hr.mono (by decide)) (by rfl) (pa_cons (pv 0) (pa_cons (pv 1) (pa_cons (pv 4) pa_nil)))) (pa_cons (pe_cmpR op_eq (pe_ix ix_tup (pv 2) pe_int (fun _ _ => rfl)) pe_str (nomark _)) pa_nil))))))))), ?_⟩
    obtain ⟨due1, due2⟩ := hdue F fo
    refine ⟨_, rfl, _, rfl, z2, fun p1 hp1 => ⟨z1, fun l1 hl1 => ?_⟩⟩
    have s3 := same_new (o := .tup [.int 0, .int 0]) hp1
    have hp13 := upd_same (H := H) (a := p1) (o := .tup [.int 0, .int 0])
    generalize upd H p1 (.tup [.int 0, .int 0]) = H3 at s3 hp13 hl1
    have s4 := s3.trans (same_new (o := .lst [.ref p1]) hl1)
    have hp14 := same_new (o := .lst [.ref p1]) hl1 _ _ hp13
    have hl14 := upd_same (H := H3) (a := l1) (o := .lst [.ref p1])
    generalize upd H3 l1 (.lst [.ref p1]) = H4 at s4 hp14 hl14
    refine ⟨vc, vw, l1, b, C, W, _, [(0, 0)], rfl, dp_same s4 _ _ hC, ok, dp_same s4 _ _ hW, okw, SqL.of hl14, .cons ⟨p1, rfl, hp14⟩ .nil, by decide, fun p hp => ?_, fun H5 L zs qs s5 hL0 hL hzs qpos ql rg nd mi => ?_⟩
    · rw [List.mem_singleton.mp hp]
      exact root_in ok okw
    · refine ⟨L, zs, rfl, .inl ⟨SqL.of hL, fun pt hpt => ?_⟩⟩
      have s6 := (s4.trans s5).trans (same_new (o := .tup zs) hpt)
      have hpt6 := upd_same (H := H5) (a := pt) (o := .tup zs)
      have hzs6 := hzs.same (same_new (o := .tup zs) hpt)
      generalize upd H5 pt (.tup zs) = H6 at s6 hpt6 hzs6
      refine ⟨_, rfl, _, rfl, _, rfl, vc, vw, pt, b, C, W, zs, qs, rfl, dp_same s6 _ _ hC, ok, dp_same s6 _ _ hW, okw, SqT.of hpt6, hzs6, by omega, fun H7 s7 => ?_⟩
      have s67 := s6.trans s7
      rw [cloB_due ok okw fo mi]
      obtain ⟨pc, pq, ys, rfl, hpc, hpq, hA⟩ := chn_at (id hC)
      have r0 := rowOf_at ok.pos
      obtain ⟨xr, hxr, hdr⟩ := dpA_get hA r0
      obtain ⟨pr, rs, rfl, hpr, hrs⟩ := dp_tup hdr
      have okr := ok.row _ (List.mem_of_getElem? r0)
      obtain ⟨br, hbr⟩ : ∃ br, (rowOf C 0)[0]? = some br := ⟨_, List.getElem?_eq_getElem okr.ne⟩
      obtain ⟨xb, hxb, hdb⟩ := dpA_get hrs hbr
      obtain ⟨pb, x0, x1, rfl, hpb, hd0, hx1⟩ := br_at hdb
      cases e : F (0, 0) with
      | some k =>
        have ed := due1 k e
        subst ed
        obtain ⟨pv, v1, rfl, hpv, hv1⟩ := tag_at hv
        obtain ⟨p2, gs, rfl, hp2, hgs⟩ := dp_tup hv1
        have gl := dpA_len hgs
        rw [List.length_map, gr_length ok okw fo k _ (root_in ok okw) e] at gl
        have kl := far_lt ok okw fo (root_in ok okw) e
        refine ⟨_, rfl, pv, _, _, _, rfl, rfl, same_t s67 hpv, atI_nat (j := 0) rfl, rfl, _, _, rfl, ?_⟩
        rw [no_tag]
        refine ⟨true, rfl, ite2 (fun h => (nomatch h)) (fun _ => ?_)⟩
        refine ⟨_, rfl, pc, _, _, _, rfl, rfl, same_t s67 hpc, atI_nat (j := 2) rfl, pq, _, _, _, rfl, rfl, same_t s67 hpq, atI_nat hxr, pr, _, _, _, rfl, rfl, same_t s67 hpr, atI_nat hxb, pb, _, _, _, rfl, rfl, same_t s67 hpb, atI_nat (j := 0) rfl, z1, fun L2 hL2 => ⟨L2, [x0], rfl, .inl ⟨SqL.of upd_same, fun pt2 hpt2 => ?_⟩⟩⟩
        have s8 := s67.trans ((same_new (o := .lst [x0]) hL2).trans (same_new (o := .tup [x0]) hpt2))
        generalize upd (upd H7 L2 (.lst [x0])) pt2 (.tup [x0]) = H8 at s8
        refine ⟨_, rfl, pv, _, _, _, rfl, rfl, same_t s8 hpv, atI_nat (j := 0) rfl, rfl, _, rfl, ite2 (fun _ => ?_) (fun h => absurd (decide_eq_true rfl) h)⟩
        have gt : ∀ j, gs.take j = gs.take j := fun _ => rfl
        refine ⟨_, rfl, _, rfl, _, rfl, pv, _, _, _, rfl, rfl, same_t s8 hpv, atI_nat (j := 1) rfl, _, rfl, _, rfl, slA_mono (sl_m1 (same_t s8 hp2)) ?_⟩
        rintro v9 H9 ⟨r9, rfl, s9, hr9⟩
        have s89 := s8.trans s9
        have d9 : Dp K H9 (.ref r9) (.tuple (((gr C W F k (0, 0)).take (k - 1)).map dI)) := by
          rw [List.map_take]
          rw [gl] at hr9
          exact .tup hr9 (dpA_take _ (dpA_same s89 _ _ hgs))
        refine ⟨.ref pc, vw, .ref r9, b, C, W, (gr C W F k (0, 0)).take (k - 1), rfl, dp_same s89 _ _ hC, ok, dp_same s89 _ _ hW, okw, d9, by rw [List.length_take]; omega, fun H10 s10 => ?_⟩
        rw [brk_gr ok okw fo e (Nat.sub_le k 1)]
        have s810 := s89.trans s10
        refine ⟨_, rfl, pv, _, _, _, rfl, rfl, same_t s810 hpv, atI_nat (j := 1) rfl, _, _, rfl, .inr ⟨_, same_t s810 hp2, rfl⟩, rfl, _, _, rfl, ?_⟩
        have ek : (decide (k - 1 = k) == decide (V.int (gs.length : Int) = V.int 0)) = true := by
          rw [gl, beq_iff_eq, Bool.eq_iff_iff, decide_eq_true_iff, decide_eq_true_iff]
          constructor
          · intro h
            have : k = 0 := by omega
            rw [this]
            rfl
          · intro h
            injection h with h
            omega
        rw [ek]
        refine ⟨true, rfl, ite2 (fun h => (nomatch h)) (fun _ => ?_)⟩
        refine ⟨_, rfl, pv, _, _, _, rfl, rfl, same_t s810 hpv, atI_nat (j := 1) rfl, ?_⟩
        refine ⟨_, rfl, _, rfl, _, rfl, .ref pc, vw, .ref p2, b, C, W, gr C W F k (0, 0), rfl, dp_same s810 _ _ hC, ok, dp_same s810 _ _ hW, okw, .tup (same_t s810 hp2) (dpA_same s810 _ _ hgs), by have := gr_len C W F k (0, 0); omega, fun H11 s11 => ?_⟩
        have bk := brk_gr ok okw fo e (Nat.le_refl k)
        rw [List.take_of_length_le (gr_len C W F k (0, 0)), decide_eq_true rfl] at bk
        rw [bk]
        have sF := s810.trans s11
        refine ⟨_, rfl, pv, _, _, _, rfl, rfl, same_t sF hpv, atI_nat (j := 0) rfl, rfl, _, _, rfl, ?_⟩
        rw [decide_eq_true (show V.str (Str.ofString "breaks") = V.str (Str.ofString "breaks") from rfl)]
        exact q _ sF
      | none =>
        obtain ⟨L0, ed, hL0⟩ := due2 e
        subst ed
        obtain ⟨pv, v1, rfl, hpv, hv1⟩ := tag_at hv
        refine ⟨_, rfl, pv, _, _, _, rfl, rfl, same_t s67 hpv, atI_nat (j := 0) rfl, rfl, _, _, rfl, ?_⟩
        rw [decide_eq_true (show V.str (Str.ofString "holds") = V.str (Str.ofString "holds") from rfl)]
        refine ⟨true, rfl, ite2 (fun h => (nomatch h)) (fun _ => ?_)⟩
        refine ⟨_, rfl, pc, _, _, _, rfl, rfl, same_t s67 hpc, atI_nat (j := 2) rfl, pq, _, _, _, rfl, rfl, same_t s67 hpq, atI_nat hxr, pr, _, _, _, rfl, rfl, same_t s67 hpr, atI_nat hxb, pb, _, _, _, rfl, rfl, same_t s67 hpb, atI_nat (j := 0) rfl, z1, fun L2 hL2 => ⟨L2, [x0], rfl, .inl ⟨SqL.of upd_same, fun pt2 hpt2 => ?_⟩⟩⟩
        have s8 := s67.trans ((same_new (o := .lst [x0]) hL2).trans (same_new (o := .tup [x0]) hpt2))
        have hpt8 := upd_same (H := upd H7 L2 (.lst [x0])) (a := pt2) (o := .tup [x0])
        generalize upd (upd H7 L2 (.lst [x0])) pt2 (.tup [x0]) = H8 at s8 hpt8
        refine ⟨_, rfl, pv, _, _, _, rfl, rfl, same_t s8 hpv, atI_nat (j := 0) rfl, rfl, _, rfl, ?_⟩
        rw [no_tag2]
        refine ite2 (fun h => (nomatch h)) (fun _ => ?_)
        refine ⟨_, rfl, _, rfl, _, rfl, .ref pc, vw, .ref pt2, b, C, W, [br.1], rfl, dp_same s8 _ _ hC, ok, dp_same s8 _ _ hW, okw, .tup (SqT.of hpt8) (.cons (dp_same s8 _ _ hd0) .nil), by show 1 ≤ 1000; decide, fun H11 s11 => ?_⟩
        rw [brk_one ok okw fo e (List.mem_of_getElem? hbr)]
        have sF := s8.trans s11
        refine ⟨_, rfl, pv, _, _, _, rfl, rfl, same_t sF hpv, atI_nat (j := 0) rfl, rfl, _, _, rfl, ?_⟩
        rw [no_tag2]
        exact q _ sF
end
end Mt
namespace Mt
open PySem PySem.Spec PyProof.Rows L2
def spReplayed (K : PySem.W.Frag) : Sp := fun vs H Q _ => ∃ (vc vw vb : V) (base : Int) (C : Chn) (W : Wt) (F : Pr → Option Nat) (k : Nat), vs = [vc, vw, vb] ∧ Dp K H vc (dChn base C) ∧ ChnOk base C ∧ Dp K H vw (dWt W) ∧ WtOk W ∧ FarOk C W F ∧ F (0, 0) = some k ∧ Dp K H vb (.tuple ((gr C W F k (0, 0)).map dI)) ∧ ∀ H', Same H H' → Q (.bl true) H'
section
variable {P : Program} {w : World} {K : PySem.W.Frag} {mg : Str → Option Value} {base : Heap}
theorem ok__law_replayed (T : Txt K mg) (D__law_is_bool : Kept P w K mg base 1 "_law_is_bool" ["told", "due"] spIsBool) {Cw fI fC pB gB : Addr} {fdI fdB : FuncData} (Wc : Wch P w K mg base Cw fI fC pB gB fdI fdB) {f : Addr} {fd : FuncData} (F : FnP K "_law_replayed" s__law_replayed f fd) : FnOk P w K mg base CX0 4 f fd ["chain", "watch", "blocks"] (spReplayed K) := by
  refine F.ok sc__law_replayed (fun vs H Q E h => ?_) (fun cdv A outer s H vs Q E hr h => ?_)
  · obtain ⟨vc, vw, vb, b, C, W, F, k, rfl, _⟩ := h
    rfl
  · obtain ⟨vc, vw, vb, b, C, W, F, k, rfl, hC, ok, hW, okw, fo, e, hb, q⟩ := h
    refine ⟨_, PSs.nox (pss_cons (ps_set (i := 3) sc__law_replayed.nd rfl (Or.inl rfl) (pe_make Wc.mk_ Wc.fI_ (hr.mono (by decide)) (by rfl) Wc.mgC Wc.bI .nil pass0 (pa_cons (pv 1) pa_nil)))
      (pss_cons (ps_set (i := 4) sc__law_replayed.nd rfl (Or.inl rfl) pe_int)
      (pss_cons (ps_for PassesOwn.never rfl (pi_tup (pv 2)) (pg_name (i := 5) sc__law_replayed.nd rfl (Or.inr rfl)) (pss_cons (ps_if (pt_not (pt_val (pe_d D__law_is_bool (hr.mono (by decide)) (by rfl) (pa_cons (pe_prop (pv 3) Wc.cl Wc.pr Wc.fB_ (hr.mono (by decide)) Wc.bB .nil pass0 rfl) (pa_cons pe_bl pa_nil))))) (pss_one (ps_ret pe_bl)) pss_nil)
      (pss_cons (ps_set (i := 6) sc__law_replayed.nd rfl (Or.inl rfl) (pe_ix ix_list (pe_lc (own := [("one", 7)]) (g := (gName 7)) rfl sc__law_replayed.nd (pi_tup (pe_ix ix_tup (pe_ix ix_tup (pv 0) pe_int (fun _ _ => rfl)) (pv 4) (fun _ _ => rfl))) (blkOk_by (N := N__law_replayed) (sc := defScope s__law_replayed) (by decide +kernel)) (fun _ _ _ _ _ => (pg_name (i := 7) sc__law_replayed.nd rfl (Or.inl rfl))) (fun _ _ _ _ _ => (pts_one (pt_cmpR (eqDK (K := K) rfl (hr.units)) (pe_ix (ixT (K := K) rfl) (pv 7) pe_int (fun _ _ => rfl)) (pv 5) (nomark _)))) (fun _ _ _ _ _ => (pv 7))) pe_int (fun _ _ => rfl)))
      (pss_cons (ps_expr (StX.pe_callO (pv 3) Wc.call Wc.fC_ (hr.mono (by decide)) pass0 (pa_cons (pe_ix ix_tup (pv 6) pe_int (fun _ _ => rfl)) pa_nil)))
      (pss_one (ps_set (i := 4) sc__law_replayed.nd rfl (Or.inl rfl) (pe_ix ix_tup (pv 6) pe_int (fun _ _ => rfl))))))))
      (pss_one (ps_ret (pe_d D__law_is_bool (hr.mono (by decide)) (by rfl) (pa_cons (pe_prop (pv 3) Wc.cl Wc.pr Wc.fB_ (hr.mono (by decide)) Wc.bB .nil pass0 rfl) (pa_cons pe_bl pa_nil)))))))), ?_⟩
    obtain ⟨pc, pq, xs, rfl, hpc, hpq, hA⟩ := chn_at (id hC)
    obtain ⟨pB, ys, rfl, hpB, hB⟩ := dp_tup hb
    have yl := dpA_len hB
    rw [List.length_map, gr_length ok okw fo k _ (root_in ok okw) e] at yl
    have b0 : (0 ∈ W.bad) ↔ k = 0 := by
      have := fo.bad _ (root_in ok okw)
      rw [e] at this
      constructor
      · intro h
        have := this.mpr h
        cases this
        rfl
      · intro h
        subst h
        exact this.mp rfl
    refine ⟨_, rfl, fun p dx hp hdx ne => ?_⟩
    have s2 : Same H (upd (upd H dx (.own p)) p (.ins Cw dx [])) := same_mut (same_new hdx) hp
    refine ⟨p, dx, vw, W, rfl, upd_same, dp_same s2 _ _ hW, fun H2 k2 hp2 => ⟨rfl, ?_⟩⟩
    have s12 : Same H H2 := fun x o e => k2 x o (s2 x o e) (ne_of_none e hp)
    refine ⟨_, rfl, pB, rfl, ⟨_, same_t s12 hpB⟩, for_tup (K := K) (a := pB) (xs := ys) (fun i σ H' => ∃ (y5 y6 : Option V) (st c : Nat) (fl : Bool) (pre : List (List Int)), σ = [some (.ref pc), some vw, some (.ref pB), some (.ref p), some (.int (st : Int)), y5, y6, none] ∧ Same H H' ∧ H' p = some (.ins Cw dx (wf vw c fl)) ∧ inR C.length W.rows.length ((st : Int), (c : Int)) ∧ (i ≤ k → F ((st : Int), (c : Int)) = some (k - i)) ∧ fl = decide (i = k) ∧ pre.length = i ∧ gr C W F k (0, 0) = pre ++ gr C W F (k - i) ((st : Int), (c : Int))) ⟨_, _, 0, 0, _, [], rfl, s12, hp2, root_in ok okw, fun _ => e, ?_, rfl, rfl⟩ (fun i σ H' _ ⟨_, _, _, _, _, _, _, s, _⟩ => same_t s hpB) ?_ ?_⟩
    · rw [Bool.eq_iff_iff, decide_eq_true_iff, decide_eq_true_iff, b0]
      omega
    · rintro i y σ H3 hi ⟨y5, y6, st, c, fl, pre, rfl, s3, hp3, hin, hF, hfl, pl, hg⟩
      have ik : i < k := by
        have := (List.getElem?_eq_some_iff.mp hi).1
        omega
      obtain ⟨r, hr2⟩ : ∃ r, k = i + r + 1 := ⟨k - i - 1, by omega⟩
      have hF := hF (by omega)
      rw [show k - i = r + 1 by omega] at hF hg
      obtain ⟨br, hbr, es, eg⟩ := far_one ok fo hin hF
      have alt : st < C.length := by
        have : (st : Int) < _ := hin.2.1
        omega
      have clt : c < W.rows.length := by
        have : (c : Int) < _ := hin.2.2.2
        omega
      have hbr : br ∈ rowOf C st := hbr
      have hs := sc_in ok okw hin (s := sucB W ((st : Int), (c : Int)) br) (by rw [sc_eq]; exact List.mem_map.mpr ⟨br, hbr, rfl⟩)
      obtain ⟨wd, hwd, hy⟩ := dpA_mem hB hi
      have ewd : wd = br.1 := by
        rw [hg, eg, List.getElem?_append_right (by omega), pl, Nat.sub_self] at hwd
        exact (Option.some.inj hwd).symm
      subst ewd
      obtain ⟨xr, hxr, hdr⟩ := dpA_get hA (rowOf_at alt)
      have okr := ok.row _ (List.mem_of_getElem? (rowOf_at alt))
      obtain ⟨pr, rs, rfl, hpr, hrs⟩ := dp_tup hdr
      have rl := dpA_len hrs
      rw [List.length_map] at rl
      have few := okr.few
      have efl : fl = false := by
        rw [hfl]
        exact decide_eq_false (by omega)
      subst efl
      refine ⟨_, rfl, p, dx, _, rfl, hp3, p, dx, _, _, rfl, hp3, wf_b _ _ _, _, _, rfl, true, rfl, ite2 (fun h => (nomatch h)) (fun _ => ?_)⟩
      refine ⟨_, rfl, pc, _, _, _, rfl, rfl, same_t s3 hpc, atI_nat (j := 2) rfl, _, rfl, pq, _, _, _, rfl, rfl, same_t s3 hpq, atI_nat hxr, pr, rfl, ⟨_, same_t s3 hpr⟩, fun M hM => lc_tup (K := K) (a := pr) (xs := rs) (fun j H' => Same H3 H' ∧ ∃ us : List V, H' M = some (.lst us) ∧ DpAll K H' us ((((rowOf C st).take j).filter fun x => decide (x.1 = br.1)).map dBr)) ⟨same_new hM, [], upd_same, .nil⟩ (fun j H' _ e => same_t (s3.trans e.1) hpr) ?_ ?_⟩
      · rintro j x H4 hj ⟨s4, us, hM4, hus⟩
        obtain ⟨bx, hbx, hx⟩ := dpA_mem (dpA_same (s3.trans s4) _ _ hrs) hj
        have hx' := hx
        obtain ⟨px, x0, x1, rfl, hpx, hd0, hd1⟩ := br_at hx
        have ul := dpA_len hus
        rw [List.length_map] at ul
        have fl := List.length_filter_le (fun x : Br => decide (x.1 = br.1)) ((rowOf C st).take j)
        rw [List.length_take] at fl
        refine ⟨rfl, _, rfl, px, _, _, _, rfl, rfl, hpx, atI_nat (j := 0) rfl, _, rfl, dI bx.1, dI br.1, hd0, dp_same (s3.trans s4) _ _ hy, dI_sh _, dI_sh _, _, rfl, ?_⟩
        rw [eqv_I]
        have ft : ((rowOf C st).take (j + 1)).filter (fun x => decide (x.1 = br.1)) = ((rowOf C st).take j).filter (fun x => decide (x.1 = br.1)) ++ [bx].filter (fun x => decide (x.1 = br.1)) := by
          rw [take_snoc hbx, List.filter_append]
        cases hdec : decide (bx.1 = br.1) with
        | true =>
          refine ⟨_, rfl, us, hM4, line6 (by omega), same_mut s4 hM, us ++ [.ref px], upd_same, ?_⟩
          have kM := keepT_nt (o := .lst (us ++ [.ref px])) (nt_lst _) hM4
          rw [ft, List.filter_cons_of_pos (p := fun x : Br => decide (x.1 = br.1)) hdec, List.filter_nil, List.map_append]
          exact dpA_snoc (dpA_keep kM _ _ (noLs_br _) hus) (dp_keep kM _ _ (dBr_noL _) hx')
        | false =>
          refine ⟨s4, us, hM4, ?_⟩
          rw [ft, List.filter_cons_of_neg (p := fun x : Br => decide (x.1 = br.1)) (by simp [hdec]), List.filter_nil, List.append_nil]
          exact hus
      · rintro H4 ⟨s4, us, hM4, hus⟩
        have s34 := s3.trans s4
        rw [rl, List.take_length] at hus
        have hf := fnd1_head (r := rowOf C st) (w := br.1)
        rw [fnd1_own okr hbr] at hf
        obtain ⟨b0, r0, hfl⟩ : ∃ b0 r0, (rowOf C st).filter (fun x => decide (x.1 = br.1)) = b0 :: r0 := by
          cases h : (rowOf C st).filter (fun x => decide (x.1 = br.1)) with
          | nil =>
            rw [h] at hf
            cases hf
          | cons b0 r0 => exact ⟨b0, r0, rfl⟩
        rw [hfl] at hf hus
        have eb : b0 = br := Option.some.inj hf
        subst eb
        obtain ⟨x0, r1, rfl, hx0, hr0⟩ := dpA_cons hus
        obtain ⟨px, z0, z1', rfl, hpx, hd0, hd1⟩ := br_at hx0
        refine ⟨M, _, _, _, rfl, rfl, SqL.of hM4, atI_nat (j := 0) rfl, ?_⟩
        have hp4 := s4 _ _ hp3
        refine ⟨_, rfl, p, rfl, _, rfl, px, _, _, _, rfl, rfl, hpx, atI_nat (j := 1) rfl, .inr ⟨_, _, hp4⟩, ?_⟩
        refine ⟨p, dx, vw, z1', W, _, _, b0.2.1, rfl, hp4, dp_same s34 _ _ hW, okw, clt, hd1, fun H5 k5 hp5 => ?_⟩
        have kt : KeepT H4 H5 := fun z xs hz => by
          rcases hz with hz | ⟨o, hz⟩
          · exact .inl (k5 _ _ hz fun e => by
              rw [e, hp4] at hz
              cases hz)
          · exact .inr ⟨o, k5 _ _ hz fun e => by
              rw [e, hp4] at hz
              cases hz⟩
        have s5 : Same H H5 := fun x o e => k5 x o (s34 x o e) (ne_of_none e hp)
        refine ⟨_, rfl, px, _, _, _, rfl, rfl, sqt_keep kt hpx, atI_nat (j := 2) rfl, ?_⟩
        refine ⟨_, _, b0.2.2, wStep W c b0.2.1, _, pre ++ [b0.1], rfl, s5, hp5, hs, fun _ => by rw [show k - (i + 1) = r by omega]; exact es, ?_, by rw [List.length_append, pl]; rfl, ?_⟩
        · have hbad := fo.bad _ hs
          rw [es] at hbad
          have hbad : some r = some 0 ↔ wStep W c b0.2.1 ∈ W.bad := hbad
          rw [Bool.false_or, Bool.eq_iff_iff, decide_eq_true_iff, decide_eq_true_iff, ← hbad]
          constructor
          · intro h
            injection h with h
            omega
          · intro h
            congr 1
            omega
        · rw [hg, eg, show k - (i + 1) = r by omega, List.append_assoc]
          rfl
    · rintro σ H3 ⟨y5, y6, st, c, fl, pre, rfl, s3, hp3, hin, hF, hfl, pl, hg⟩
      rw [yl] at hfl
      have efl : fl = true := by
        rw [hfl]
        exact decide_eq_true rfl
      subst efl
      refine ⟨_, rfl, p, dx, _, rfl, hp3, p, dx, _, _, rfl, hp3, wf_b _ _ _, _, _, rfl, q _ s3⟩
end
end Mt
namespace Mt
open PySem PySem.Spec PyProof.Rows L2
theorem roomD {k : Nat} {A : Around} (r : Room k A) : A.units + 65 < cLine := by
  have := r.un
  omega
theorem ninD {X : Cx} {K : PySem.W.Frag} (h : X.K = K) (hu : X.A.units + 65 < cLine) : OpR X (compareOp .NotIn) (rNotInD K) := h ▸ op_notInD hu
theorem canP : ∀ l : List Pr, PyData.canLayAll0 (l.map dP) = true
  | [] => rfl
  | p :: l => by
    show (PyData.canLay0 (dP p) && PyData.canLayAll0 (l.map dP)) = true
    rw [canP l]
    rfl
theorem depP : ∀ l : List Pr, PyData.depthAll (l.map dP) ≤ 1
  | [] => Nat.zero_le _
  | p :: l => by
    show max (dP p).depth (PyData.depthAll (l.map dP)) ≤ 1
    exact Nat.max_le.mpr ⟨Nat.le_refl _, depP l⟩
theorem shP (l : List Pr) : SeqAt.shaped (.list (l.map dP)) = true := by
  have h1 := canP l
  have h2 := depP l
  unfold SeqAt.shaped
  rw [Bool.and_eq_true]
  refine ⟨h1, decide_eq_true ?_⟩
  show PyData.depthAll (l.map dP) + 1 ≤ 64
  omega
def plc (W : Wt) (shs : List (List Str)) : Nat := shs.foldl (fun c sh => wStep W c sh) 0
theorem plc_snoc {W : Wt} {l : List (List Str)} {i : Nat} {sh : List Str} (h : l[i]? = some sh) : plc W (l.take (i + 1)) = wStep W (plc W (l.take i)) sh := by
  unfold plc
  rw [take_snoc h, List.foldl_append]
  rfl
theorem plc_lt {W : Wt} (okw : WtOk W) : ∀ l : List (List Str), plc W l < W.rows.length := fun l => by
  have : ∀ (l : List (List Str)) (c : Nat), c < W.rows.length → l.foldl (fun c sh => wStep W c sh) c < W.rows.length := fun l => by
    induction l with
    | nil => exact fun c h => h
    | cons a r ih => exact fun c h => ih _ (wStep_lt okw h a)
  exact this l 0 okw.pos
theorem way_rch {C : Chn} {W : Wt} {shs : List (List Str)} {s : Nat} (h : Way C shs s) : Rch C W ((s : Int), (plc W shs : Int)) := by
  induction h with
  | nil => exact Rch.root
  | @snoc l t r b _ hr hb ih =>
    refine ih.next ?_
    rw [sc_eq]
    refine List.mem_map.mpr ⟨b, ?_, ?_⟩
    · show b ∈ (C[((t : Int)).toNat]?).getD []
      rw [Int.toNat_natCast, hr]
      exact hb
    · unfold plc sucB
      rw [List.foldl_append]
      rfl
theorem any_eqvP {qs : List Pr} {p : Pr} (h : p ∈ qs) : ((qs.map dP).any fun z => PyData.eqv z (dP p)) = true := by
  refine List.any_eq_true.mpr ⟨dP p, List.mem_map.mpr ⟨p, h, rfl⟩, ?_⟩
  show (decide (p.1 = p.1) && (decide (p.2 = p.2) && true)) = true
  simp
def spMetW (K : PySem.W.Frag) : Sp := fun vs H Q _ => ∃ (S D : Addr) (vc vw : V) (base : Int) (C : Chn) (W : Wt), vs = [.ref D, vc, vw] ∧ DrawAt S D H ∧ Dp K H vc (dChn base C) ∧ ChnOk base C ∧ Dp K H vw (dWt W) ∧ WtOk W ∧ ∀ H', Go S D H H' → Q (.bl true) H'
end Mt
namespace Mt
open PySem PySem.Spec PyProof.Rows L2
section
variable {P : Program} {w : World} {K : PySem.W.Frag} {mg : Str → Option Value} {base : Heap}
theorem ok__law_met_by_walk (T : Txt K mg) (D_walk : Kept P w K mg base 2 "walk" ["chain", "tape", "ticks"] (spWalk K)) (D__law_draw : Kept P w K mg base 1 "_law_draw" ["d", "many"] spDraw) (D__law_met_pairs : Kept P w K mg base 2 "_law_met_pairs" ["chain", "watch", "starts"] (spMet K)) {Cw fI fC pB gB pA gA : Addr} {fdI fdB fdA : FuncData} (Wc : Wch P w K mg base Cw fI fC pB gB fdI fdB) (Wp : WchP P w K mg base Cw pA gA fdA) {f : Addr} {fd : FuncData} (F : FnP K "_law_met_by_walk" s__law_met_by_walk f fd) : FnOk P w K mg base CX0 4 f fd ["d", "chain", "watch"] (spMetW K) := by
  refine F.ok sc__law_met_by_walk (fun vs H Q E h => ?_) (fun cdv A outer s H vs Q E hr h => ?_)
  · obtain ⟨S, D, vc, vw, b, C, W, rfl, _⟩ := h
    rfl
  · obtain ⟨S, D, vc, vw, b, C, W, rfl, dr, hC, ok, hW, okw, q⟩ := h
    refine ⟨_, PSs.nox (pss_cons (ps_set (i := 3) sc__law_met_by_walk.nd rfl (Or.inl rfl) (pe_d D__law_met_pairs (hr.mono (by decide)) (by rfl) (pa_cons (pv 1) (pa_cons (pv 2) (pa_cons (pe_lst (pa_cons (pe_tup (pa_cons pe_int (pa_cons pe_int pa_nil))) pa_nil)) pa_nil)))))
      (pss_cons (ps_set (i := 4) sc__law_met_by_walk.nd rfl (Or.inl rfl) (pe_callTy call_tuple_of (by rfl) T.b_tuple (by decide +kernel) (pa_cons (pe_lc (own := [("k", 5)]) (g := (gName 5)) (tt := tYes) rfl sc__law_met_by_walk.nd (pi_range1 (by rfl) T.b_range (pa_cons pe_int pa_nil)) (blkOk_by (N := N__law_met_by_walk) (sc := defScope s__law_met_by_walk) (by decide +kernel)) (fun _ _ _ _ _ => (pg_name (i := 5) sc__law_met_by_walk.nd rfl (Or.inl rfl))) (fun _ _ _ _ _ => pts_nil) (fun _ _ _ _ _ => (pe_d D__law_draw (hr.mono (by decide)) (by rfl) (pa_cons (pv 0) (pa_cons (pe_ix (ixT (K := K) rfl) (pv 1) pe_int (fun _ _ => rfl)) pa_nil))))) pa_nil)))
      (pss_cons (ps_for PassesOwn.never rfl (pi_range1 (by rfl) T.b_range (pa_cons pe_int pa_nil)) (pg_name (i := 6) sc__law_met_by_walk.nd rfl (Or.inl rfl)) (pss_cons (ps_set (i := 7) sc__law_met_by_walk.nd rfl (Or.inl rfl) (pe_d D_walk (hr.mono (by decide)) (by rfl) (pa_cons (pv 1) (pa_cons (pv 4) (pa_cons (pv 6) pa_nil)))))
      (pss_cons (ps_if (PW.pt (pw_or (pt_not (pt_val (pe_callB call_isi (by rfl) T.b_isinstance (by decide +kernel) (pa_cons (pv 7) (pa_cons (pe_bltn (v := .ty "tuple") (u := .type "tuple") (by rfl) T.b_tuple (by decide +kernel) rfl) pa_nil))))) (pw_or (pt_cmpR op_ne (pe_callB call_len (by rfl) T.b_len (by decide +kernel) (pa_cons (pv 7) pa_nil)) pe_int (nomark _)) (pw_or (pt_not (pt_val (pe_callB call_isi (by rfl) T.b_isinstance (by decide +kernel) (pa_cons (pe_ix ix_tup (pv 7) pe_int (fun _ _ => rfl)) (pa_cons (pe_bltn (v := .ty "tuple") (u := .type "tuple") (by rfl) T.b_tuple (by decide +kernel) rfl) pa_nil))))) (pw_or1 (pt_cmpR op_ne (pe_callB call_len (by rfl) T.b_len (by decide +kernel) (pa_cons (pe_ix ix_tup (pv 7) pe_int (fun _ _ => rfl)) pa_nil)) (pv 6) (nomark _))))))) (pss_one (ps_ret pe_bl)) pss_nil)
      (pss_cons (ps_set (i := 8) sc__law_met_by_walk.nd rfl (Or.inl rfl) (pe_make Wc.mk_ Wc.fI_ (hr.mono (by decide)) (by rfl) Wc.mgC Wc.bI .nil pass0 (pa_cons (pv 2) pa_nil)))
      (pss_cons (ps_for PassesOwn.never rfl (pi_tup (pe_ix ix_tup (pv 7) pe_int (fun _ _ => rfl))) (pg_name (i := 9) sc__law_met_by_walk.nd rfl (Or.inl rfl)) (pss_one (ps_expr (StX.pe_callO (pv 8) Wc.call Wc.fC_ (hr.mono (by decide)) pass0 (pa_cons (pv 9) pa_nil)))))
      (pss_one (ps_if (pt_cmpR (ninD (K := K) rfl (roomD hr)) (pe_tup (pa_cons (pe_ix ix_tup (pv 7) pe_int (fun _ _ => rfl)) (pa_cons (pe_prop (pv 8) Wc.cl Wp.pr Wp.fA_ (hr.mono (by decide)) Wp.bA .nil pass0 rfl) pa_nil))) (pv 3) (by rfl)) (pss_one (ps_ret pe_bl)) pss_nil)))))))
      (pss_one (ps_ret pe_bl))))), ?_⟩
    obtain ⟨pc, pq, ys, rfl, hpc, hpq, hA⟩ := chn_at (id hC)
    have b2 := ok.b2
    have b6 := ok.b6
    refine ⟨_, rfl, _, rfl, z2, fun p1 hp1 => ⟨z1, fun l1 hl1 => ?_⟩⟩
    have s3 := same_new (o := .tup [.int 0, .int 0]) hp1
    have hp13 := upd_same (H := H) (a := p1) (o := .tup [.int 0, .int 0])
    generalize upd H p1 (.tup [.int 0, .int 0]) = H3 at s3 hp13 hl1
    have s4 := s3.trans (same_new (o := .lst [.ref p1]) hl1)
    have hp14 := same_new (o := .lst [.ref p1]) hl1 _ _ hp13
    have hl14 := upd_same (H := H3) (a := l1) (o := .lst [.ref p1])
    generalize upd H3 l1 (.lst [.ref p1]) = H4 at s4 hp14 hl14
    refine ⟨.ref pc, vw, l1, b, C, W, _, [(0, 0)], rfl, dp_same s4 _ _ hC, ok, dp_same s4 _ _ hW, okw, SqL.of hl14, .cons ⟨p1, rfl, hp14⟩ .nil, by decide, fun p hp => ?_, fun H5 L zs qs s5 hL0 hL hzs qpos ql rg nd mi => ?_⟩
    · rw [List.mem_singleton.mp hp]
      exact root_in ok okw
    · have g5 : Go S D H H5 := Go.same dr (s4.trans s5)
      refine ⟨_, rfl, by decide, by decide, fun M hM => lc_range (lo := 0) (n := 18) (fun j H' => ∃ ts : List Int, Go S D H5 H' ∧ H' M = some (.lst (ts.map V.int)) ∧ ts.length = j ∧ ∀ x ∈ ts, 0 ≤ x ∧ x < b) ⟨[], Go.new g5.1 hM, upd_same, rfl, fun _ h => absurd h List.not_mem_nil⟩ ?_ ?_⟩
      · rintro j H6 hj ⟨ts, g6, hM6, tl, tb⟩
        have MD := (g5.1.free hM).1
        refine ⟨rfl, _, rfl, _, rfl, pc, _, _, _, rfl, rfl, sqt_keep (Go.keepT dr (g5.trans g6)) hpc, atI_nat (j := 1) rfl, S, D, b, rfl, divW_of (by omega) (by omega), g6.1, fun H7 u u0 u1 g7 => ?_⟩
        refine ⟨_, g7.2 _ _ hM6 MD, by rw [List.length_map]; exact line6 (by omega), ts ++ [u], goU hM g5.1 (g6.trans g7), ?_, by rw [List.length_append, tl]; rfl, fun x hx => ?_⟩
        · rw [upd_same, List.map_append]
          rfl
        · rcases List.mem_append.mp hx with hx | hx
          · exact tb x hx
          · rw [List.mem_singleton.mp hx]
            exact ⟨u0, u1⟩
      · rintro H6 ⟨ts, g6, hM6, tl, tb⟩
        refine ⟨M, _, rfl, .inl ⟨SqL.of hM6, fun pt hpt => ?_⟩⟩
        have g7 := (g5.trans g6).trans (Go.new (o := .tup (ts.map V.int)) g6.1 hpt)
        have hpt7 := upd_same (H := H6) (a := pt) (o := .tup (ts.map V.int))
        have LD : L ≠ D := (dr.free (s4.free hL0)).1
        have g57 := g6.trans (Go.new (o := .tup (ts.map V.int)) g6.1 hpt)
        have hL7 := g57.2 _ _ hL LD
        have hqs7 := dpA_keep (K := K) (Go.keepT g5.1 g57) (qs.map dP) _ (noLs_map _ _ fun _ _ => rfl) (prs_dp hzs)
        generalize upd H6 pt (.tup (ts.map V.int)) = H7 at g7 g57 hpt7 hL7 hqs7
        have hC7 := dp_keep (Go.keepT dr g7) _ _ (dChn_noL b C) hC
        have hW7 := dp_keep (Go.keepT dr g7) _ _ (dWt_noL W) hW
        refine ⟨_, rfl, by decide, by decide, for_range (lo := 0) (n := 6) (fun i σ H' => ∃ (y6 y7 y8 y9 : Option V), σ = [some (.ref D), some (.ref pc), some vw, some (.ref L), some (.ref pt), none, y6, y7, y8, y9] ∧ Same H7 H') ⟨_, _, _, _, rfl, Same.refl _⟩ ?_ ?_⟩
        · rintro i σ H8 hi ⟨y6, y7, y8, y9, rfl, s8⟩
          rw [Int.zero_add]
          refine ⟨_, rfl, _, rfl, _, rfl, .ref pc, .ref pt, i, b, C, ts, rfl, dp_same s8 _ _ hC7, ok, i_of (SqT.of (s8 _ _ hpt7)), tb, by omega, by omega, fun H9 v shs st rd s9 way shl sh6 dv => ?_⟩
          have s89 := s8.trans s9
          obtain ⟨p7, xs7, rfl, hp7, hA7⟩ := dp_tup dv
          obtain ⟨x0, r0, rfl, h0, hA7⟩ := dpA_cons hA7
          obtain ⟨x1, r1, rfl, h1, hA7⟩ := dpA_cons hA7
          obtain ⟨x2, r2, rfl, h2, hA7⟩ := dpA_cons hA7
          cases dpA_nil hA7
          obtain rfl := dp_int h1
          obtain rfl := dp_int h2
          obtain ⟨pS, ss, rfl, hpS, hSS⟩ := dp_tup h0
          have sl := dpA_len hSS
          rw [List.length_map] at sl
          refine ⟨_, rfl, _, .ty "tuple", .type "tuple", .type "tuple", true, rfl, .ty _, sqt_ty hp7, kit_ty (by decide +kernel), true, rfl, ite2 (fun h => (nomatch (show false = true from h))) (fun _ => ?_)⟩
          refine ⟨_, rfl, _, _, rfl, .inr ⟨_, hp7, rfl⟩, rfl, ?_⟩
          rw [show decide (V.int (([V.ref pS, V.int st, V.int rd].length : Nat) : Int) = V.int 3) = true from decide_eq_true rfl]
          refine ⟨_, rfl, ite2 (fun h => (nomatch (show false = true from h))) (fun _ => ?_)⟩
          refine ⟨_, rfl, p7, _, _, _, rfl, rfl, hp7, atI_nat (j := 0) rfl, _, .ty "tuple", .type "tuple", .type "tuple", true, rfl, .ty _, sqt_ty hpS, kit_ty (by decide +kernel), true, rfl, ite2 (fun h => (nomatch (show false = true from h))) (fun _ => ?_)⟩
          refine ⟨_, rfl, p7, _, _, _, rfl, rfl, hp7, atI_nat (j := 0) rfl, _, _, rfl, .inr ⟨_, hpS, rfl⟩, _, rfl, rfl, ?_⟩
          rw [show decide (V.int ((ss.length : Nat) : Int) = V.int (i : Int)) = true from decide_eq_true (by rw [sl, shl])]
          refine ⟨_, rfl, ite2 (fun h => (nomatch (show false = true from h))) (fun _ => ?_)⟩
          refine ⟨_, rfl, fun p dx hp hdx ne => ?_⟩
          have sw : Same H9 (upd (upd H9 dx (.own p)) p (.ins Cw dx [])) := same_mut (same_new hdx) hp
          refine ⟨p, dx, vw, W, rfl, upd_same, dp_same (s89.trans sw) _ _ hW7, fun H10 k10 hp10 => ⟨rfl, ?_⟩⟩
          have s10 : Same H9 H10 := fun x o e => k10 x o (sw x o e) (ne_of_none e hp)
          refine ⟨_, rfl, p7, _, _, _, rfl, rfl, same_t s10 hp7, atI_nat (j := 0) rfl, pS, rfl, ⟨_, same_t s10 hpS⟩, for_tup (K := K) (a := pS) (xs := ss) (fun j σ H' => ∃ (y9 : Option V) (fl : Bool), σ = [some (.ref D), some (.ref pc), some vw, some (.ref L), some (.ref pt), none, some (.int (i : Int)), some (.ref p7), some (.ref p), y9] ∧ Same H9 H' ∧ H' p = some (.ins Cw dx (wf vw (plc W (shs.take j)) fl))) ⟨_, _, rfl, s10, hp10⟩ (fun j σ H' _ ⟨_, _, _, s, _⟩ => same_t s hpS) ?_ ?_⟩
          · rintro j x σ H11 hj ⟨y9, fl, rfl, s11, hp11⟩
            obtain ⟨sh, hsh, hx⟩ := dpA_mem hSS hj
            refine ⟨_, rfl, p, rfl, _, rfl, .inr ⟨_, _, hp11⟩, ?_⟩
            refine ⟨p, dx, vw, x, W, _, _, sh, rfl, hp11, dp_same (s89.trans s11) _ _ hW7, okw, plc_lt okw _, dp_same s11 _ _ hx, fun H12 k12 hp12 => ?_⟩
            rw [← plc_snoc hsh] at hp12
            exact ⟨_, _, rfl, fun x o e => k12 x o (s11 x o e) (ne_of_none e hp), hp12⟩
          · rintro σ H11 ⟨y9, fl, rfl, s11, hp11⟩
            rw [sl, List.take_length] at hp11
            have s711 := s89.trans s11
            refine ⟨_, rfl, p7, _, _, _, rfl, rfl, same_t s11 hp7, atI_nat (j := 1) rfl, _, rfl, p, dx, _, rfl, hp11, p, dx, _, _, rfl, hp11, wf_h _ _ _, z2, fun pk hpk => ?_⟩
            have sk := s711.trans (same_new (o := .tup [.int (st : Int), .int (plc W shs : Int)]) hpk)
            have hpk12 := upd_same (H := H11) (a := pk) (o := .tup [.int (st : Int), .int (plc W shs : Int)])
            generalize upd H11 pk (.tup [.int (st : Int), .int (plc W shs : Int)]) = H12 at sk hpk12
            refine ⟨_, rfl, dP ((st : Int), (plc W shs : Int)), qs.map dP, .tup (SqT.of hpk12) (.cons (.int _) (.cons (.int _) .nil)), .lst (SqL.of (sk _ _ hL7)) (dpA_same sk _ _ hqs7), rfl, shP qs, ?_⟩
            rw [any_eqvP ((Met.rch mi _).mpr (way_rch way))]
            refine ⟨_, rfl, ite2 (fun h => (nomatch (show false = true from h))) (fun _ => ?_)⟩
            exact ⟨_, _, _, _, rfl, sk⟩
        · rintro σ H8 ⟨y6, y7, y8, y9, rfl, s8⟩
          exact q _ (g7.trans (Go.same g7.1 s8))
end
end Mt
namespace Mt
open PySem PySem.Spec PyProof.Rows L2
def fgo (W : Wt) (st : Nat × Bool) (sh : List Str) : Nat × Bool := (wStep W st.1 sh, st.2 || decide (wStep W st.1 sh ∈ W.bad))
def fl (W : Wt) (shs : List (List Str)) : Nat × Bool := shs.foldl (fgo W) (0, decide (0 ∈ W.bad))
theorem fl_snoc (W : Wt) (l : List (List Str)) (sh : List Str) : fl W (l ++ [sh]) = fgo W (fl W l) sh := by
  unfold fl
  rw [List.foldl_append]
  rfl
theorem fl_take {W : Wt} {l : List (List Str)} {i : Nat} {sh : List Str} (h : l[i]? = some sh) : fl W (l.take (i + 1)) = fgo W (fl W (l.take i)) sh := by
  rw [take_snoc h, fl_snoc]
theorem fl_lt {W : Wt} (okw : WtOk W) : ∀ l : List (List Str), (fl W l).1 < W.rows.length := fun l => by
  have : ∀ (l : List (List Str)) (st : Nat × Bool), st.1 < W.rows.length → (l.foldl (fgo W) st).1 < W.rows.length := fun l => by
    induction l with
    | nil => exact fun c h => h
    | cons a r ih => exact fun c h => ih _ (wStep_lt okw h a)
  exact this l _ okw.pos
def lp (W : Wt) (x : Lf) : Pr := ((x.2.2 : Int), ((fl W x.2.1).1 : Int))
theorem lp_ext (W : Wt) (x : Lf) (br : Br) : lp W (ext x br) = sucB W (lp W x) br := by
  unfold lp ext
  show ((br.2.2 : Int), ((fl W (x.2.1 ++ [br.2.1])).1 : Int)) = _
  rw [fl_snoc]
  rfl
theorem fl_ext (W : Wt) (x : Lf) (br : Br) : (fl W (ext x br).2.1).2 = ((fl W x.2.1).2 || decide ((sucB W (lp W x) br).2.toNat ∈ W.bad)) := by
  show (fl W (x.2.1 ++ [br.2.1])).2 = _
  rw [fl_snoc]
  rfl
theorem leaf_back {base : Int} {C : Chn} {W : Wt} {F : Pr → Option Nat} (ok : ChnOk base C) (okw : WtOk W) (fo : FarOk C W F) : ∀ (n : Nat) (x : Lf), x ∈ lv C n → inR C.length W.rows.length (lp W x) ∧ (∀ j, F (lp W x) = some j → ∃ k, k ≤ n + j ∧ F (0, 0) = some k) ∧ ((fl W x.2.1).2 = true → ∃ k, k ≤ n ∧ F (0, 0) = some k)
  | 0, x, h => by
    have e : x = ([], [], 0) := List.mem_singleton.mp h
    subst e
    refine ⟨root_in ok okw, fun j e => ⟨j, by omega, e⟩, fun hf => ⟨0, Nat.le_refl _, ?_⟩⟩
    have hf : decide (0 ∈ W.bad) = true := hf
    exact (fo.bad _ (root_in ok okw)).mpr (of_decide_eq_true hf)
  | n + 1, x, h => by
    obtain ⟨y, hy, h⟩ := List.mem_flatMap.mp h
    obtain ⟨br, hbr, rfl⟩ := List.mem_map.mp h
    obtain ⟨h1, h2, h3⟩ := leaf_back ok okw fo n y hy
    have hs : sucB W (lp W y) br ∈ sc C W (lp W y) := by
      rw [sc_eq]
      exact List.mem_map.mpr ⟨br, hbr, rfl⟩
    have hin := sc_in ok okw h1 hs
    have st : ∀ j, F (sucB W (lp W y) br) = some j → ∃ k, k ≤ n + 1 + j ∧ F (0, 0) = some k := fun j e => by
      obtain ⟨j', hj, e'⟩ := fo.step _ h1 _ hs j e
      obtain ⟨k, hk, ek⟩ := h2 j' e'
      exact ⟨k, by omega, ek⟩
    rw [lp_ext, fl_ext]
    refine ⟨hin, st, fun hf => ?_⟩
    rcases Bool.or_eq_true_iff.mp hf with hf | hf
    · obtain ⟨k, hk, ek⟩ := h3 hf
      exact ⟨k, by omega, ek⟩
    · obtain ⟨k, hk, ek⟩ := st 0 ((fo.bad _ hin).mpr (of_decide_eq_true hf))
      exact ⟨k, by omega, ek⟩
theorem leaf_on {base : Int} {C : Chn} {W : Wt} {F : Pr → Option Nat} (ok : ChnOk base C) (okw : WtOk W) (fo : FarOk C W F) {k : Nat} (e : F (0, 0) = some k) : ∀ n : Nat, ∃ x ∈ lv C n, inR C.length W.rows.length (lp W x) ∧ (n ≤ k → F (lp W x) = some (k - n)) ∧ (k ≤ n → (fl W x.2.1).2 = true)
  | 0 => by
    refine ⟨([], [], 0), List.mem_singleton.mpr rfl, root_in ok okw, fun _ => e, fun hk => ?_⟩
    obtain rfl : k = 0 := by omega
    show decide (0 ∈ W.bad) = true
    exact decide_eq_true ((fo.bad _ (root_in ok okw)).mp e)
  | n + 1 => by
    obtain ⟨y, hy, h1, h2, h3⟩ := leaf_on ok okw fo e n
    have okr := rowOf_ok ok h1
    by_cases c : n < k
    · obtain ⟨r, hr⟩ : ∃ r, k = n + r + 1 := ⟨k - n - 1, by omega⟩
      have h2 := h2 (by omega)
      rw [show k - n = r + 1 by omega] at h2
      obtain ⟨br, hbr, es, _⟩ := far_one ok fo h1 h2
      have hin := sc_in ok okw h1 (s := sucB W (lp W y) br) (by rw [sc_eq]; exact List.mem_map.mpr ⟨br, hbr, rfl⟩)
      refine ⟨ext y br, List.mem_flatMap.mpr ⟨y, hy, List.mem_map.mpr ⟨br, hbr, rfl⟩⟩, ?_⟩
      rw [lp_ext, fl_ext]
      refine ⟨hin, fun _ => by rw [show k - (n + 1) = r by omega]; exact es, fun hk => ?_⟩
      obtain rfl : r = 0 := by omega
      rw [decide_eq_true ((fo.bad _ hin).mp es), Bool.or_true]
    · obtain ⟨br, hbr⟩ : ∃ br, br ∈ rowOf C (lp W y).1.toNat := ⟨_, List.getElem_mem okr.ne⟩
      have hin := sc_in ok okw h1 (s := sucB W (lp W y) br) (by rw [sc_eq]; exact List.mem_map.mpr ⟨br, hbr, rfl⟩)
      refine ⟨ext y br, List.mem_flatMap.mpr ⟨y, hy, List.mem_map.mpr ⟨br, hbr, rfl⟩⟩, ?_⟩
      rw [lp_ext, fl_ext]
      refine ⟨hin, fun h => absurd h (by omega), fun _ => ?_⟩
      rw [h3 (by omega), Bool.true_or]
theorem leaf_iff {base : Int} {C : Chn} {W : Wt} {F : Pr → Option Nat} (ok : ChnOk base C) (okw : WtOk W) (fo : FarOk C W F) (n : Nat) : (∃ x ∈ lv C n, (fl W x.2.1).2 = true) ↔ ∃ k, k ≤ n ∧ F (0, 0) = some k := by
  constructor
  · rintro ⟨x, hx, hf⟩
    exact (leaf_back ok okw fo n x hx).2.2 hf
  · rintro ⟨k, hk, e⟩
    obtain ⟨x, hx, _, _, h⟩ := leaf_on ok okw fo e n
    exact ⟨x, hx, h hk⟩
theorem lv_one {base : Int} {C : Chn} (ok : ChnOk base C) {m : Nat} (hm : m ≤ 1) : (lv C m).length ≤ 64 := by
  have h0 : (lv C 0).length = 1 := rfl
  cases m with
  | zero => rw [h0]; decide
  | succ m =>
    obtain rfl : m = 0 := by omega
    have := lenflat ok (l := lv C 0) fun x hx => (lv_ok ok 0 x hx).2.2
    rw [h0] at this
    exact Nat.le_trans this (by decide)
def spAllW (K : PySem.W.Frag) : Sp := fun vs H Q _ => ∃ (vc vw v : V) (base : Int) (C : Chn) (W : Wt) (d : PyData) (F : Pr → Option Nat), vs = [vc, vw, v] ∧ Dp K H vc (dChn base C) ∧ ChnOk base C ∧ Dp K H vw (dWt W) ∧ WtOk W ∧ Dp K H v d ∧ FarOk C W F ∧ DueP C W d ∧ ∀ H', Same H H' → Q (.bl true) H'
section
variable {P : Program} {w : World} {K : PySem.W.Frag} {mg : Str → Option Value} {base : Heap}
theorem ok__law_all_walks (T : Txt K mg) (D__law_leaves : Kept P w K mg base 1 "_law_leaves" ["chain", "n", "most"] (spLeaves K)) (D__law_is_bool : Kept P w K mg base 1 "_law_is_bool" ["told", "due"] spIsBool) {Cw fI fC pB gB : Addr} {fdI fdB : FuncData} (Wc : Wch P w K mg base Cw fI fC pB gB fdI fdB) {f : Addr} {fd : FuncData} (F : FnP K "_law_all_walks" s__law_all_walks f fd) : FnOk P w K mg base CX0 4 f fd ["chain", "watch", "due"] (spAllW K) := by
  refine F.ok sc__law_all_walks (fun vs H Q E h => ?_) (fun cdv A outer s H vs Q E hr h => ?_)
  · obtain ⟨vc, vw, v, b, C, W, d, F, rfl, _⟩ := h
    rfl
  · obtain ⟨vc, vw, v, b, C, W, d, F, rfl, hC, ok, hW, okw, hv, fo, hdue, q⟩ := h
    refine ⟨_, PSs.nox (pss_cons (ps_set (i := 3) sc__law_all_walks.nd rfl (Or.inl rfl) pe_int)
      (pss_cons (ps_set (i := 4) sc__law_all_walks.nd rfl (Or.inl rfl) (pe_d D__law_leaves (hr.mono (by decide)) (by rfl) (pa_cons (pv 0) (pa_cons pe_int (pa_cons pe_int pa_nil)))))
      (pss_cons (ps_for PassesOwn.never rfl (pi_range2 (by rfl) T.b_range (pa_cons pe_int (pa_cons pe_int pa_nil))) (pg_name (i := 5) sc__law_all_walks.nd rfl (Or.inl rfl)) (pss_cons (ps_set (i := 6) sc__law_all_walks.nd rfl (Or.inl rfl) (pe_d D__law_leaves (hr.mono (by decide)) (by rfl) (pa_cons (pv 0) (pa_cons (pv 5) (pa_cons pe_int pa_nil)))))
      (pss_one (ps_if (pt_cmpR op_notN (pv 6) pe_non (nomark _)) (pss_cons (ps_set (i := 3) sc__law_all_walks.nd rfl (Or.inl rfl) (pv 5))
      (pss_one (ps_set (i := 4) sc__law_all_walks.nd rfl (Or.inl rfl) (pv 6)))) (pss_one ps_break)))))
      (pss_cons (ps_set (i := 7) sc__law_all_walks.nd rfl (Or.inl rfl) pe_int)
      (pss_cons (ps_for PassesOwn.never rfl (pi_list (pv 4)) (pg_tup rfl (pgs_cons (pg_name (i := 8) sc__law_all_walks.nd rfl (Or.inl rfl)) (pgs_cons (pg_name (i := 9) sc__law_all_walks.nd rfl (Or.inl rfl)) (pgs_cons (pg_name (i := 10) sc__law_all_walks.nd rfl (Or.inl rfl)) pgs_nil)))) (pss_cons (ps_set (i := 11) sc__law_all_walks.nd rfl (Or.inl rfl) (pe_make Wc.mk_ Wc.fI_ (hr.mono (by decide)) (by rfl) Wc.mgC Wc.bI .nil pass0 (pa_cons (pv 1) pa_nil)))
      (pss_cons (ps_for PassesOwn.never rfl (pi_tup (pv 9)) (pg_name (i := 12) sc__law_all_walks.nd rfl (Or.inl rfl)) (pss_one (ps_expr (StX.pe_callO (pv 11) Wc.call Wc.fC_ (hr.mono (by decide)) pass0 (pa_cons (pv 12) pa_nil)))))
      (pss_one (ps_if (pt_val (pe_d D__law_is_bool (hr.mono (by decide)) (by rfl) (pa_cons (pe_prop (pv 11) Wc.cl Wc.pr Wc.fB_ (hr.mono (by decide)) Wc.bB .nil pass0 rfl) (pa_cons pe_bl pa_nil)))) (pss_one (ps_aug (i := 7) sc__law_all_walks.nd rfl (Or.inl rfl) pe_int ip_add)) pss_nil)))))
      (pss_one (ps_ret (pe_cmpR op_eq (pe_cmpR op_gt (pv 7) pe_int (nomark _)) (pe_and (pe_cmpR op_eq (pe_ix ix_tup (pv 2) pe_int (fun _ _ => rfl)) pe_str (nomark _)) (pe_one (pe_cmpR op_le (pe_callB call_len (by rfl) T.b_len (by decide +kernel) (pa_cons (pe_ix ix_tup (pv 2) pe_int (fun _ _ => rfl)) pa_nil)) (pv 3) (nomark _)))) (nomark _))))))))), ?_⟩
    refine ⟨_, rfl, vc, 1, b, C, rfl, hC, ok, by decide, fun H1 s1 ⟨m, hm, h64⟩ => absurd (lv_one ok hm) (by omega), fun H1 v1 s1 d1 l1 => ?_⟩
    refine ⟨2, 6, rfl, ⟨by decide, by decide, by decide, by decide⟩, ?_⟩
    refine (fun hd => for_range (lo := 2) (n := 4) (fun i σ H' => ∃ (sz : Nat) (y5 y6 : Option V) (vl : V), σ = [some vc, some vw, some v, some (.int (sz : Int)), some vl, y5, y6, none, none, none, none, none, none] ∧ Same H H' ∧ Dp K H' vl (.list ((lv C sz).map dLf)) ∧ (lv C sz).length ≤ 64) ⟨1, _, _, v1, rfl, s1, d1, l1⟩ (fun i σ H2 hi hP => ?_) hd) ?_
    · obtain ⟨sz, y5, y6, vl, rfl, s2, dl, ll⟩ := hP
      rw [show (2 : Int) + (i : Int) = ((2 + i : Nat) : Int) from (Int.natCast_add 2 i).symm]
      refine ⟨_, rfl, _, rfl, vc, 2 + i, b, C, rfl, dp_same s2 _ _ hC, ok, by omega, fun H3 s3 _ => ?_, fun H3 v3 s3 d3 l3 => ?_⟩
      · refine ⟨_, rfl, rfl, _, rfl, ite2 (fun h => (nomatch (show false = true from h))) (fun _ => ?_)⟩
        exact hd _ _ ⟨sz, _, _, vl, rfl, s2.trans s3, dp_same s3 _ _ dl, ll⟩
      · obtain ⟨L3, zs3, rfl, hL3, hzs3⟩ := dp_lst d3
        refine ⟨_, rfl, rfl, _, rfl, ite2 (fun _ => ?_) (fun h => absurd rfl h)⟩
        exact ⟨_, rfl, _, rfl, 2 + i, _, _, .ref L3, rfl, s2.trans s3, d3, l3⟩
    · rintro σ H2 ⟨sz, y5, y6, vl, rfl, s2, dl, ll⟩
      obtain ⟨L, zs, rfl, hL, hzs⟩ := dp_lst dl
      have zl := dpA_len hzs
      rw [List.length_map] at zl
      refine ⟨_, rfl, L, rfl, ⟨_, hL⟩, for_list (K := K) (a := L) (xs := zs) (fun i σ H' => ∃ (m : Nat) (y8 y9 y10 y11 y12 : Option V), σ = [some vc, some vw, some v, some (.int (sz : Int)), some (.ref L), y5, y6, some (.int (m : Int)), y8, y9, y10, y11, y12] ∧ Same H H' ∧ Same H2 H' ∧ m ≤ i ∧ (0 < m ↔ ∃ x ∈ (lv C sz).take i, (fl W x.2.1).2 = true)) ⟨0, _, _, _, _, _, rfl, s2, Same.refl _, Nat.le_refl _, ⟨fun h => absurd h (by decide), fun ⟨x, hx, _⟩ => absurd hx List.not_mem_nil⟩⟩ (fun i σ H' _ ⟨_, _, _, _, _, _, _, _, s, _⟩ => same_l s hL) ?_ ?_⟩
      · rintro i x σ H3 hi ⟨m, y8, y9, y10, y11, y12, rfl, s3, t3, mi, miff⟩
        obtain ⟨lf, hlf, hx⟩ := dpA_mem (dpA_same t3 _ _ hzs) hi
        obtain ⟨pl, x0, x1, rfl, hpl, hd0, hd1⟩ := lf_at hx
        obtain ⟨pS, ss, rfl, hpS, hSS⟩ := dp_tup hd1
        have sl := dpA_len hSS
        rw [List.length_map] at sl
        refine ⟨_, _, rfl, hpl, rfl, _, _, rfl, _, _, rfl, _, _, rfl, rfl, ?_⟩
        refine ⟨_, rfl, fun p dx hp hdx ne => ?_⟩
        have sw : Same H3 (upd (upd H3 dx (.own p)) p (.ins Cw dx [])) := same_mut (same_new hdx) hp
        refine ⟨p, dx, vw, W, rfl, upd_same, dp_same (s3.trans sw) _ _ hW, fun H10 k10 hp10 => ⟨rfl, ?_⟩⟩
        have s10 : Same H3 H10 := fun x o e => k10 x o (sw x o e) (ne_of_none e hp)
        refine ⟨_, rfl, pS, rfl, ⟨_, same_t s10 hpS⟩, for_tup (K := K) (a := pS) (xs := ss) (fun j σ H' => ∃ (y12 : Option V), σ = [some vc, some vw, some v, some (.int (sz : Int)), some (.ref L), y5, y6, some (.int (m : Int)), some x0, some (.ref pS), some (.int (lf.2.2 : Int)), some (.ref p), y12] ∧ Same H3 H' ∧ H' p = some (.ins Cw dx (wf vw (fl W (lf.2.1.take j)).1 (fl W (lf.2.1.take j)).2))) ⟨_, rfl, s10, hp10⟩ (fun j σ H' _ ⟨_, _, s, _⟩ => same_t s hpS) ?_ ?_⟩
        · rintro j y σ H11 hj ⟨y12, rfl, s11, hp11⟩
          obtain ⟨sh, hsh, hy⟩ := dpA_mem hSS hj
          refine ⟨_, rfl, p, rfl, _, rfl, .inr ⟨_, _, hp11⟩, ?_⟩
          refine ⟨p, dx, vw, y, W, _, _, sh, rfl, hp11, dp_same (s3.trans s11) _ _ hW, okw, fl_lt okw _, dp_same s11 _ _ hy, fun H12 k12 hp12 => ?_⟩
          refine ⟨_, rfl, fun x o e => k12 x o (s11 x o e) (ne_of_none e hp), ?_⟩
          rw [fl_take hsh]
          exact hp12
        · rintro σ H11 ⟨y12, rfl, s11, hp11⟩
          rw [sl, List.take_length] at hp11
          refine ⟨_, rfl, p, dx, _, rfl, hp11, p, dx, _, _, rfl, hp11, wf_b _ _ _, _, _, rfl, ?_⟩
          have nx : ∀ m' : Nat, m' ≤ m + 1 → (0 < m' ↔ 0 < m ∨ (fl W lf.2.1).2 = true) → (m' ≤ i + 1 ∧ (0 < m' ↔ ∃ x ∈ (lv C sz).take (i + 1), (fl W x.2.1).2 = true)) := fun m' h1 h2 => by
            refine ⟨by omega, h2.trans ?_⟩
            rw [miff, take_snoc hlf]
            constructor
            · rintro (⟨x, hx, h⟩ | h)
              · exact ⟨x, List.mem_append_left _ hx, h⟩
              · exact ⟨lf, List.mem_append_right _ (List.mem_singleton.mpr rfl), h⟩
            · rintro ⟨x, hx, h⟩
              rcases List.mem_append.mp hx with hx | hx
              · exact .inl ⟨x, hx, h⟩
              · rw [List.mem_singleton.mp hx] at h
                exact .inr h
          cases hf : (fl W lf.2.1).2 with
          | true =>
            rw [hf] at nx
            refine ⟨true, rfl, ite2 (fun _ => ?_) (fun h => absurd rfl h)⟩
            obtain ⟨n1, n2⟩ := nx (m + 1) (Nat.le_refl _) ⟨fun _ => .inr rfl, fun _ => Nat.succ_pos _⟩
            refine ⟨_, rfl, _, _, rfl, rfl, m + 1, _, _, _, _, _, rfl, s3.trans s11, t3.trans s11, n1, n2⟩
          | false =>
            rw [hf] at nx
            refine ⟨false, rfl, ite2 (fun h => (nomatch h)) (fun _ => ?_)⟩
            obtain ⟨n1, n2⟩ := nx m (Nat.le_succ _) ⟨fun h => .inl h, fun h => h.elim id fun h => nomatch h⟩
            exact ⟨m, _, _, _, _, _, rfl, s3.trans s11, t3.trans s11, n1, n2⟩
      · rintro σ H3 ⟨m, y8, y9, y10, y11, y12, rfl, s3, t3, mi, miff⟩
        rw [zl, List.take_length, leaf_iff ok okw fo sz] at miff
        obtain ⟨due1, due2⟩ := hdue F fo
        cases e : F (0, 0) with
        | some k =>
          have ed := due1 k e
          subst ed
          obtain ⟨pv, v1', rfl, hpv, hv1⟩ := tag_at hv
          obtain ⟨p2, gs, rfl, hp2, hgs⟩ := dp_tup hv1
          have gl := dpA_len hgs
          rw [List.length_map, gr_length ok okw fo k _ (root_in ok okw) e] at gl
          refine ⟨_, rfl, _, _, rfl, rfl, _, rfl, pv, _, _, _, rfl, rfl, same_t s3 hpv, atI_nat (j := 0) rfl, rfl, ?_⟩
          rw [decide_eq_true (show V.str (Str.ofString "breaks") = V.str (Str.ofString "breaks") from rfl)]
          refine ⟨true, rfl, ?_⟩
          rw [if_pos rfl]
          refine ⟨_, rfl, pv, _, _, _, rfl, rfl, same_t s3 hpv, atI_nat (j := 1) rfl, _, _, rfl, .inr ⟨_, same_t s3 hp2, rfl⟩, _, rfl, _, _, rfl, rfl, rfl, ?_⟩
          have ek : (decide ((0 : Int) < (m : Int))) = decide (((gs.length : Nat) : Int) ≤ (sz : Int)) := by
            rw [gl, Bool.eq_iff_iff, decide_eq_true_iff, decide_eq_true_iff]
            have : 0 < m ↔ k ≤ sz := miff.trans ⟨fun ⟨k', h1, h2⟩ => by
              rw [e] at h2
              cases h2
              exact h1, fun h => ⟨k, h, e⟩⟩
            omega
          have := q _ s3
          rw [show (true : Bool) = decide (V.bl (decide ((0 : Int) < (m : Int))) = V.bl (decide (((gs.length : Nat) : Int) ≤ (sz : Int)))) from (decide_eq_true (by rw [ek])).symm] at this
          exact this
        | none =>
          obtain ⟨L0, ed, hL0⟩ := due2 e
          subst ed
          obtain ⟨pv, v1', rfl, hpv, hv1⟩ := tag_at hv
          refine ⟨_, rfl, _, _, rfl, rfl, _, rfl, pv, _, _, _, rfl, rfl, same_t s3 hpv, atI_nat (j := 0) rfl, rfl, ?_⟩
          rw [no_tag2]
          refine ⟨false, rfl, ?_⟩
          rw [if_neg (by decide)]
          refine ⟨rfl, ?_⟩
          have m0 : m = 0 := by
            by_cases h : 0 < m
            · obtain ⟨k', h1, h2⟩ := miff.mp h
              rw [e] at h2
              cases h2
            · omega
          subst m0
          exact q _ s3
end
end Mt
namespace Mt
open PySem PySem.Spec PyProof.Rows L2
theorem gr_short {base : Int} {C : Chn} {W : Wt} {F : Pr → Option Nat} (ok : ChnOk base C) (okw : WtOk W) (fo : FarOk C W F) : ∀ (k : Nat) (p : Pr), inR C.length W.rows.length p → F p = some k → ∀ w ∈ gr C W F k p, w.length ≤ 3
  | 0, _, _, _, _, h => absurd h List.not_mem_nil
  | k + 1, p, hp, e, w, h => by
    obtain ⟨br, hbr, es, eg⟩ := far_one ok fo hp e
    rw [eg] at h
    rcases List.mem_cons.mp h with h | h
    · rw [h]
      exact (rowOf_ok ok hp).cm.short br.1 (List.mem_map.mpr ⟨br, hbr, rfl⟩)
    · exact gr_short ok okw fo k _ (sc_in ok okw hp (by rw [sc_eq]; exact List.mem_map.mpr ⟨br, hbr, rfl⟩)) es w h
theorem pvW_dI {l : List Int} (h : l.length ≤ 1000) : pvW (dI l) = true := by
  show (decide ((l.map PyData.int).length ≤ 1000) && pvWs (l.map PyData.int)) = true
  rw [decide_eq_true (by rw [List.length_map]; exact h), pvWs_all fun x hx => by
    obtain ⟨i, _, rfl⟩ := List.mem_map.mp hx
    rfl]
  rfl
theorem dep_dI (l : List Int) : dep (dI l) ≤ 1 := by
  show deps (l.map PyData.int) + 1 ≤ 1
  have := deps_le (n := 0) (ds := l.map PyData.int) fun x hx => by
    obtain ⟨i, _, rfl⟩ := List.mem_map.mp hx
    exact Nat.le_refl _
  omega
theorem pvW_tup {ds : List PyData} (h : ds.length ≤ 1000) (g : ∀ x ∈ ds, pvW x = true) : pvW (.tuple ds) = true := by
  show (decide (ds.length ≤ 1000) && pvWs ds) = true
  rw [decide_eq_true h, pvWs_all g]
  rfl
theorem due_pv {base : Int} {C : Chn} {W : Wt} {F : Pr → Option Nat} {d : PyData} (ok : ChnOk base C) (okw : WtOk W) (fo : FarOk C W F) (h : DueP C W d) : pvW d = true ∧ dep d < 5 := by
  obtain ⟨h1, h2⟩ := h F fo
  have two : ∀ (t : Str) (ds : List PyData) (n : Nat), ds.length ≤ 1000 → (∀ x ∈ ds, pvW x = true) → (∀ x ∈ ds, dep x ≤ 1) → pvW (.tuple [.str t, .tuple ds]) = true ∧ dep (.tuple [.str t, .tuple ds]) < 5 := fun t ds n l p q => by
    refine ⟨pvW_tup (by show 2 ≤ 1000; decide) fun x hx => ?_, ?_⟩
    · rcases List.mem_cons.mp hx with rfl | hx
      · rfl
      · rw [List.mem_singleton.mp hx]
        exact pvW_tup l p
    · have := deps_le q
      show max 0 (max (deps ds + 1) 0) + 1 < 5
      omega
  cases e : F (0, 0) with
  | some k =>
    rw [h1 k e]
    have kl := far_lt ok okw fo (root_in ok okw) e
    have gl := gr_len C W F k (0, 0)
    refine two _ _ 0 (by rw [List.length_map]; omega) (fun x hx => ?_) (fun x hx => ?_)
    · obtain ⟨w, hw, rfl⟩ := List.mem_map.mp hx
      exact pvW_dI (Nat.le_trans (gr_short ok okw fo k _ (root_in ok okw) e w hw) (by decide))
    · obtain ⟨w, hw, rfl⟩ := List.mem_map.mp hx
      exact dep_dI w
  | none =>
    obtain ⟨L, rfl, hL⟩ := h2 e
    have few := pr_few hL.nd fun p hp => ((hL.all p).mp hp).in ok okw
    have area : C.length * W.rows.length ≤ 50 * 20 := Nat.mul_le_mul ok.few okw.few
    refine two _ _ 0 (by rw [List.length_map]; omega) (fun x hx => ?_) (fun x hx => ?_)
    · obtain ⟨w, hw, rfl⟩ := List.mem_map.mp hx
      rfl
    · obtain ⟨w, hw, rfl⟩ := List.mem_map.mp hx
      exact Nat.le_refl _
theorem due_noL {C : Chn} {W : Wt} {F : Pr → Option Nat} {d : PyData} (fo : FarOk C W F) (h : DueP C W d) : noL d = true := by
  obtain ⟨h1, h2⟩ := h F fo
  cases e : F (0, 0) with
  | some k =>
    rw [h1 k e]
    exact dBreaks_noL _
  | none =>
    obtain ⟨L, rfl, _⟩ := h2 e
    exact dHolds_noL L
section
variable {P : Program} {w : World} {K : PySem.W.Frag} {mg : Str → Option Value} {base : Heap}
theorem ok_law (T : Txt K mg) (D_decide : Kept P w K mg base 2 "decide" ["chain", "watch"] (spDecide K)) (D__law_begin : Kept P w K mg base 1 "_law_begin" ["script"] (spBegin K)) (D__law_draw : Kept P w K mg base 1 "_law_draw" ["d", "many"] spDraw) (D__law_pop : Kept P w K mg base 2 "_law_pop" ["d", "row"] spPop) (D__law_rare : Kept P w K mg base 2 "_law_rare" ["d", "many"] spRare) (D__law_pool : Kept P w K mg base 1 "_law_pool" [] spPool) (D__law_some_watch : Kept P w K mg base 4 "_law_some_watch" ["d", "marks", "most"] (spSWatch K)) (D__law_some_chain : Kept P w K mg base 5 "_law_some_chain" ["d", "marks", "most"] (spSomeC K)) (D__law_spared : Kept P w K mg base 3 "_law_spared" ["d", "chain", "watch"] (spSpared K)) (D__law_same : Kept P w K mg base 7 "_law_same" ["told", "due"] (spSm K 5)) (D__law_due : Kept P w K mg base 4 "_law_due" ["chain", "watch"] (spDue K)) (D__law_judged : Kept P w K mg base 4 "_law_judged" ["chain", "watch", "due"] (spJudged K)) (D__law_replayed : Kept P w K mg base 4 "_law_replayed" ["chain", "watch", "blocks"] (spReplayed K)) (D__law_met_by_walk : Kept P w K mg base 4 "_law_met_by_walk" ["d", "chain", "watch"] (spMetW K)) (D__law_all_walks : Kept P w K mg base 4 "_law_all_walks" ["chain", "watch", "due"] (spAllW K)) {f : Addr} {fd : FuncData} (F : FnP K "law" s_law f fd) : FnOk P w K mg base CX0 8 f fd ["script"] (spLaw K) := by
  refine F.ok sc_law (fun vs H Q E h => ?_) (fun cdv A outer s H vs Q E hr h => ?_)
  · obtain ⟨a, ns, rfl, _⟩ := h
    rfl
  · obtain ⟨a, ns, rfl, hS, hl, q⟩ := h
    refine ⟨_, PSs.nox (pss_cons (ps_set (i := 1) sc_law.nd rfl (Or.inr rfl) (pe_d D__law_begin (hr.mono (by decide)) (by rfl) (pa_cons (pv 0) pa_nil)))
      (pss_cons (ps_set (i := 2) sc_law.nd rfl (Or.inr rfl) (pe_d0 D__law_pool (hr.mono (by decide)) (by rfl)))
      (pss_cons (ps_setLc (i := 3) (own := [("k", 4)]) (g := (gName 4)) (tt := tYes) rfl sc_law.nd rfl rfl (sw_true rfl rfl rfl (by decide +kernel)) (pi_range1 (by rfl) T.b_range (pa_cons (pe_op op_add pe_int (pe_d D__law_draw (hr.mono (by decide)) (by rfl) (pa_cons (pv 1) (pa_cons pe_int pa_nil)))) pa_nil)) (blkOk_by (N := N_law) (sc := defScope s_law) (by decide +kernel)) (fun _ _ _ _ _ => (pg_name (i := 4) sc_law.nd rfl (Or.inl rfl))) (fun _ _ _ _ _ => pts_nil) (fun _ _ _ _ _ => (pe_d D__law_pop (hr.mono (by decide)) (by rfl) (pa_cons (pv 1) (pa_cons (pv 2) pa_nil)))))
      (pss_cons (ps_set (i := 5) sc_law.nd rfl (Or.inl rfl) (pe_d D__law_some_chain (hr.mono (by decide)) (by rfl) (pa_cons (pv 1) (pa_cons (pv 3) (pa_cons pe_int pa_nil)))))
      (pss_cons (ps_set (i := 6) sc_law.nd rfl (Or.inl rfl) pe_int)
      (Evl.pss_cut (ps_if (pt_val (pe_d D__law_rare (hr.mono (by decide)) (by rfl) (pa_cons (pv 1) (pa_cons pe_int pa_nil)))) (pss_one (ps_set (i := 6) sc_law.nd rfl (Or.inl rfl) pe_int)) pss_nil)
      (pss_cons (ps_set (i := 7) sc_law.nd rfl (Or.inl rfl) (pe_d D__law_spared (hr.mono (by decide)) (by rfl) (pa_cons (pv 1) (pa_cons (pv 5) (pa_cons (pe_d D__law_some_watch (hr.mono (by decide)) (by rfl) (pa_cons (pv 1) (pa_cons (pv 3) (pa_cons (pv 6) pa_nil)))) pa_nil)))))
      (pss_cons (ps_set (i := 8) sc_law.nd rfl (Or.inl rfl) (pe_d D__law_due (hr.mono (by decide)) (by rfl) (pa_cons (pv 5) (pa_cons (pv 7) pa_nil))))
      (pss_cons (ps_if (pt_not (pt_val (pe_d D__law_same (hr.mono (by decide)) (by rfl) (pa_cons (pe_d D_decide (hr.mono (by decide)) (by rfl) (pa_cons (pv 5) (pa_cons (pv 7) pa_nil))) (pa_cons (pv 8) pa_nil))))) (pss_one (ps_ret pe_bl)) pss_nil)
      (pss_cons (ps_if (PW.pt (pw_or (pt_not (pt_val (pe_d D__law_judged (hr.mono (by decide)) (by rfl) (pa_cons (pv 5) (pa_cons (pv 7) (pa_cons (pv 8) pa_nil)))))) (pw_or1 (pt_not (pt_val (pe_d D__law_all_walks (hr.mono (by decide)) (by rfl) (pa_cons (pv 5) (pa_cons (pv 7) (pa_cons (pv 8) pa_nil))))))))) (pss_one (ps_ret pe_bl)) pss_nil)
      (Evl.pss_cut (ps_if (PW.pt (pw_and (pt_cmpR op_eq (pe_ix ix_tup (pv 8) pe_int (fun _ _ => rfl)) pe_str (nomark _)) (pw_and1 (pt_not (pt_val (pe_d D__law_replayed (hr.mono (by decide)) (by rfl) (pa_cons (pv 5) (pa_cons (pv 7) (pa_cons (pe_ix ix_tup (pv 8) pe_int (fun _ _ => rfl)) pa_nil))))))))) (pss_one (ps_ret pe_bl)) pss_nil)
      (pss_cons (ps_if (pt_not (pt_val (pe_d D__law_met_by_walk (hr.mono (by decide)) (by rfl) (pa_cons (pv 1) (pa_cons (pv 5) (pa_cons (pv 7) pa_nil)))))) (pss_one (ps_ret pe_bl)) pss_nil)
      (pss_cons (ps_set (i := 9) sc_law.nd rfl (Or.inl rfl) (pe_callB call_len (by rfl) T.b_len (by decide +kernel) (pa_cons (pe_ix ix_tup (pv 7) pe_int (fun _ _ => rfl)) pa_nil)))
      (pss_cons (ps_set (i := 10) sc_law.nd rfl (Or.inl rfl) (pe_tup (pa_cons (pe_ix ix_tup (pv 7) pe_int (fun _ _ => rfl)) (pa_cons (pe_ix ix_tup (pv 7) pe_int (fun _ _ => rfl)) (pa_cons (pe_tupRg rfl (by rfl) T.b_tuple (prg_2 (by rfl) T.b_range (pe_d D__law_draw (hr.mono (by decide)) (by rfl) (pa_cons (pv 1) (pa_cons (pe_op op_add (pv 9) pe_int) pa_nil))) (pv 9))) pa_nil)))))
      (pss_one (ps_ret (pe_and (pe_d D__law_same (hr.mono (by decide)) (by rfl) (pa_cons (pe_d D_decide (hr.mono (by decide)) (by rfl) (pa_cons (pv 5) (pa_cons (pv 10) pa_nil))) (pa_cons (pe_d D__law_due (hr.mono (by decide)) (by rfl) (pa_cons (pv 5) (pa_cons (pv 10) pa_nil))) pa_nil))) (pe_one (pe_d D__law_same (hr.mono (by decide)) (by rfl) (pa_cons (pe_d D_decide (hr.mono (by decide)) (by rfl) (pa_cons (pv 5) (pa_cons (pv 7) pa_nil))) (pa_cons (pv 8) pa_nil))))))))))))))))))))), ?_⟩
    refine ⟨_, rfl, a, ns, rfl, hS, hl, fun S D H1 s1 D0 d => ?_⟩
    refine ⟨rfl, fun Nm hNm => ?_⟩
    have d2 := d.new (o := .lst (POOL.map V.str)) hNm
    have NmD := (d.free hNm).1
    have NmS := (d.free hNm).2
    have hN2 := upd_same (H := H1) (a := Nm) (o := .lst (POOL.map V.str))
    generalize upd H1 Nm (.lst (POOL.map V.str)) = H2 at d2 hN2
    refine ⟨_, rfl, S, D, 3, rfl, divW_of (by decide) (by decide), d2, fun H3 x x0 x1 g3 => ⟨_, _, rfl, rfl, ?_⟩⟩
    have hN3 := g3.2 _ _ hN2 NmD
    refine ⟨_, rfl, by omega, by omega, fun Lm hLm => lc_range (lo := 0) (n := (2 + x).toNat) (fun j H' => ∃ nms ms : List Str, DrawAt S D H' ∧ H' Nm = some (.lst (nms.map V.str)) ∧ H' Lm = some (.lst (ms.map V.str)) ∧ nms.length + j = 60 ∧ ms.length = j)
      ⟨POOL, [], g3.1.new hLm, same_new hLm _ _ hN3, upd_same, by rw [pool_len], rfl⟩ ?_ ?_⟩
    · rintro j H4 hj ⟨nms, ms, d4, hN4, hM4, hl4, hm4⟩
      have LmD := (g3.1.free hLm).1
      have LmS := (g3.1.free hLm).2
      have LmN : Lm ≠ Nm := (ne_of_none hN3 hLm).symm
      refine ⟨rfl, _, rfl, _, rfl, S, D, Nm, nms.map V.str, rfl, d4, NmD, hN4, by rw [List.length_map]; omega, by rw [List.length_map]; omega, fun H5 jx x g5 hx => ?_⟩
      rw [List.getElem?_map] at hx
      obtain ⟨z, hz, rfl⟩ := Option.map_eq_some_iff.mp hx
      have hjx := (List.getElem?_eq_some_iff.mp hz).1
      rw [list_of_map_erase]
      have hM5 := g5.2 _ _ hM4 LmD
      refine ⟨_, by rw [upd_ne LmN]; exact hM5, by rw [List.length_map]; exact line6 (by omega), nms.eraseIdx jx, ms ++ [z], (g5.1.upd NmD NmS).upd LmD LmS, by rw [upd_ne LmN.symm, upd_same], by rw [upd_same, List.map_append]; rfl, ?_, by rw [List.length_append, List.length_singleton, hm4]⟩
      rw [List.length_eraseIdx_of_lt hjx]
      omega
    · rintro H4 ⟨nms, ms, d4, hN4, hM4, hl4, hm4⟩
      have LmD := (g3.1.free hLm).1
      refine ⟨_, rfl, _, rfl, S, D, Lm, 12, ms, rfl, d4, LmD, hM4, by omega, by omega, by decide, by decide, fun H5 vc b C g5 hC ok => ?_⟩
      have hM5 := g5.2 _ _ hM4 LmD
      refine ⟨fun σ H' => ∃ mo : Int, (mo = 5 ∨ mo = 12) ∧ σ = [some (.ref a), some (.ref D), some (.ref Nm), some (.ref Lm), none, some vc, some (.int mo), none, none, none, none] ∧ Go S D H5 H', ?_, ?_⟩
      · refine ⟨_, rfl, S, D, 9, rfl, by decide, by decide, g5.1, fun H6 bb g6 => ?_⟩
        refine ⟨_, rfl, ite2 (fun _ => ?_) (fun _ => ?_)⟩
        · exact ⟨12, .inr rfl, rfl, g6⟩
        · exact ⟨5, .inl rfl, rfl, g6⟩
      · rintro σ H6 ⟨mo, hmo, rfl, g6⟩
        have hC6 := dp_keep (Go.keepT g5.1 g6) _ _ (dChn_noL b C) hC
        have hM6 := g6.2 _ _ hM5 LmD
        refine ⟨_, rfl, _, rfl, _, rfl, _, rfl, _, rfl, S, D, Lm, mo, ms, rfl, g6.1, LmD, hM6, by omega, by omega, by omega, by omega, fun H7 vw0 W0 g7 hW0 okw0 => ?_⟩
        have hC7 := dp_keep (Go.keepT g6.1 g7) _ _ (dChn_noL b C) hC6
        refine ⟨S, D, vc, vw0, b, C, W0, rfl, g7.1, hC7, ok, hW0, okw0, fun H8 vw W g8 hW okw => ?_⟩
        have hC8 := dp_keep (Go.keepT g7.1 g8) _ _ (dChn_noL b C) hC7
        refine ⟨_, rfl, _, rfl, vc, vw, b, C, W, rfl, hC8, ok, hW, okw, fun H9 vd d F s9 fo dd hdue => ?_⟩
        have hpv := due_pv ok okw fo hdue
        have g9 := Go.same g8.1 s9
        have hC9 := dp_same s9 _ _ hC8
        have hW9 := dp_same s9 _ _ hW
        refine ⟨_, rfl, _, rfl, vc, vw, b, C, W, rfl, hC9, ok, hW9, okw, fun H10 v10 d10 s10 dv10 due10 => ?_⟩
        obtain rfl : d10 = d := due10.uniq fo hdue
        refine ⟨_, rfl, v10, vd, d10, rfl, dv10, dp_same s10 _ _ dd, hpv.1, hpv.2, fun H11 s11 => ⟨true, rfl, ite2 (fun h => (nomatch h)) (fun _ => ?_)⟩⟩
        have t11 := s10.trans s11
        refine ⟨_, rfl, _, rfl, _, rfl, vc, vw, vd, b, C, W, d10, F, rfl, dp_same t11 _ _ hC9, ok, dp_same t11 _ _ hW9, okw, dp_same t11 _ _ dd, fo, hdue, fun H12 s12 => ⟨_, rfl, ite2 (fun h => (nomatch (show false = true from h))) (fun _ => ?_)⟩⟩
        have t12 := t11.trans s12
        refine ⟨_, rfl, _, rfl, _, rfl, vc, vw, vd, b, C, W, d10, F, rfl, dp_same t12 _ _ hC9, ok, dp_same t12 _ _ hW9, okw, dp_same t12 _ _ dd, fo, hdue, fun H13 s13 => ⟨_, rfl, ite2 (fun h => (nomatch (show false = true from h))) (fun _ => ?_)⟩⟩
        have t13 := t12.trans s13
        refine ⟨fun σ H' => σ = [some (.ref a), some (.ref D), some (.ref Nm), some (.ref Lm), none, some vc, some (.int mo), some vw, some vd, none, none] ∧ Same H9 H', ?_, ?_⟩
        · cases e : F (0, 0) with
          | some k =>
            have ed := (hdue F fo).1 k e
            subst ed
            obtain ⟨pv, v1, rfl, hpv0, hv1⟩ := tag_at dd
            refine ⟨_, rfl, pv, _, _, _, rfl, rfl, same_t t13 hpv0, atI_nat (j := 0) rfl, rfl, _, rfl, ite2 (fun _ => ?_) (fun h => absurd (decide_eq_true rfl) h)⟩
            refine ⟨_, rfl, _, rfl, _, rfl, pv, _, _, _, rfl, rfl, same_t t13 hpv0, atI_nat (j := 1) rfl, vc, vw, v1, b, C, W, F, k, rfl, dp_same t13 _ _ hC9, ok, dp_same t13 _ _ hW9, okw, fo, e, dp_same t13 _ _ hv1, fun H14 s14 => ⟨_, rfl, ite2 (fun h => (nomatch (show false = true from h))) (fun _ => ?_)⟩⟩
            exact ⟨rfl, t13.trans s14⟩
          | none =>
            obtain ⟨L0, ed, hL0⟩ := (hdue F fo).2 e
            subst ed
            obtain ⟨pv, v1, rfl, hpv0, hv1⟩ := tag_at dd
            refine ⟨_, rfl, pv, _, _, _, rfl, rfl, same_t t13 hpv0, atI_nat (j := 0) rfl, rfl, _, rfl, ?_⟩
            rw [no_tag2]
            exact ite2 (fun h => (nomatch h)) (fun _ => ⟨rfl, t13⟩)
        · rintro σ H14 ⟨rfl, t14⟩
          have g14 := Go.same g9.1 t14
          refine ⟨_, rfl, _, rfl, _, rfl, S, D, vc, vw, b, C, W, rfl, g14.1, dp_same t14 _ _ hC9, ok, dp_same t14 _ _ hW9, okw, fun H15 g15 => ⟨_, rfl, ite2 (fun h => (nomatch (show false = true from h))) (fun _ => ?_)⟩⟩
          have g915 := g14.trans g15
          have hC15 := dp_keep (Go.keepT g9.1 g915) _ _ (dChn_noL b C) hC9
          have hW15 := dp_keep (Go.keepT g9.1 g915) _ _ (dWt_noL W) hW9
          have hd15 := dp_keep (Go.keepT g9.1 g915) d10 _ (due_noL fo hdue) dd
          obtain ⟨pw, pwq, pwb, us, rfl, hpw, hpwq, hAw, hpwb⟩ := wt_at (id hW15)
          have ul := dpA_len hAw
          rw [List.length_map] at ul
          have fewW := okw.few
          refine ⟨_, rfl, pw, _, _, _, rfl, rfl, hpw, atI_nat (j := 1) rfl, _, _, rfl, .inr ⟨_, hpwq, rfl⟩, ?_⟩
          refine ⟨_, rfl, pw, _, _, _, rfl, rfl, hpw, atI_nat (j := 0) rfl, _, rfl, pw, _, _, _, rfl, rfl, hpw, atI_nat (j := 1) rfl, _, rfl, _, rfl, _, _, rfl, rfl, S, D, _, rfl, divW_of (by omega) (by omega), g15.1, fun H16 x x0 x1 g16 => ?_⟩
          have x1 : x < (us.length : Int) + 1 := x1
          obtain ⟨xn, rfl⟩ : ∃ n : Nat, x = n := ⟨x.toNat, by omega⟩
          have k16 := Go.keepT g15.1 g16
          have hC16 := dp_keep k16 _ _ (dChn_noL b C) hC15
          have hW16 := dp_keep k16 _ _ (dWt_noL W) hW15
          have hd16 := dp_keep k16 d10 _ (due_noL fo hdue) hd15
          have hpwq16 := sqt_keep k16 hpwq
          have hAw16 := dpA_keep (K := K) k16 (W.rows.map dWr) _ (noLs_map _ _ fun r _ => dWr_noL r) hAw
          refine ⟨_, rfl, _, _, rfl, rfl, ⟨by omega, by omega, by omega, by omega, by omega⟩, fun pb hpb => ⟨z3, fun po hpo => ?_⟩⟩
          have eB : rgV (xn : Int) (us.length : Int) = ((List.range (us.length - xn)).map fun i => xn + i).map vN := by
            unfold rgV
            rw [List.map_map, show ((us.length : Int) - (xn : Int)).toNat = us.length - xn by omega]
            refine List.map_congr_left fun i _ => ?_
            show V.int ((xn : Int) + (i : Int)) = V.int ((xn + i : Nat) : Int)
            rw [Int.natCast_add]
          rw [eB] at hpo ⊢
          have okB : WtOk ⟨W.rows, (List.range (us.length - xn)).map fun i => xn + i⟩ := ⟨okw.pos, okw.few, by show ((List.range (us.length - xn)).map fun i => xn + i).length ≤ 20; rw [List.length_map, List.length_range]; omega, fun z hz => by
            obtain ⟨i, hi, rfl⟩ := List.mem_map.mp hz
            have := List.mem_range.mp hi
            show xn + i < W.rows.length
            omega, okw.row⟩
          have sb := same_new (o := .tup (((List.range (us.length - xn)).map fun i => xn + i).map vN)) hpb
          have hpb17 := upd_same (H := H16) (a := pb) (o := .tup (((List.range (us.length - xn)).map fun i => xn + i).map vN))
          generalize upd H16 pb (.tup (((List.range (us.length - xn)).map fun i => xn + i).map vN)) = H17 at sb hpb17 hpo
          have so := same_new (o := .tup [.str "watch", .ref pwq, .ref pb]) hpo
          have hpo18 := upd_same (H := H17) (a := po) (o := .tup [.str "watch", .ref pwq, .ref pb])
          have s18 := sb.trans so
          have hB18 : Dp K (upd H17 po (.tup [.str "watch", .ref pwq, .ref pb])) (.ref po) (dWt ⟨W.rows, (List.range (us.length - xn)).map fun i => xn + i⟩) :=
            .tup (SqT.of hpo18) (.cons (.str _) (.cons (.tup (same_t s18 hpwq16) (dpA_same s18 _ _ hAw16)) (.cons (.tup (SqT.of (so _ _ hpb17)) (nats_dp _)) .nil)))
          generalize upd H17 po (.tup [.str "watch", .ref pwq, .ref pb]) = H18 at s18 hB18
          have hC18 := dp_same s18 _ _ hC16
          have hW18 := dp_same s18 _ _ hW16
          refine ⟨_, rfl, _, rfl, vc, .ref po, b, C, _, rfl, hC18, ok, hB18, okB, fun H20 v20 d20 s20 dv20 due20 => ?_⟩
          refine ⟨_, rfl, _, rfl, vc, .ref po, b, C, _, rfl, dp_same s20 _ _ hC18, ok, dp_same s20 _ _ hB18, okB, fun H21 v21 d21 F2 s21 fo2 dv21 due21 => ?_⟩
          obtain rfl : d20 = d21 := due20.uniq fo2 due21
          have hpv2 := due_pv ok okB fo2 due21
          refine ⟨v20, v21, d20, rfl, dp_same s21 _ _ dv20, dv21, hpv2.1, hpv2.2, fun H22 s22 => ⟨true, rfl, ?_⟩⟩
          rw [if_pos rfl]
          have s1822 := s20.trans (s21.trans s22)
          refine ⟨_, rfl, _, rfl, vc, .ref pw, b, C, W, rfl, dp_same s1822 _ _ hC18, ok, dp_same s1822 _ _ hW18, okw, fun H23 v23 d23 s23 dv23 due23 => ?_⟩
          obtain rfl : d23 = d10 := due23.uniq fo hdue
          exact ⟨_, rfl, v23, vd, d23, rfl, dv23, dp_same (s1822.trans s23) _ _ (dp_same s18 _ _ hd16), hpv.1, hpv.2, fun H24 s24 => q _⟩
end
end Mt
namespace Mt
open PySem PySem.Spec PyProof.Rows L2
def dd_branches_along : He.DefD := ⟨("branches_along", none), "branches_along", "branches_along", defArgs s_branches_along, defBody s_branches_along, defScope s_branches_along, [], []⟩
def dd_place_behind : He.DefD := ⟨("place_behind", none), "place_behind", "place_behind", defArgs s_place_behind, defBody s_place_behind, defScope s_place_behind, [], []⟩
def dd_decide : He.DefD := ⟨("decide", none), "decide", "decide", defArgs s_decide, defBody s_decide, defScope s_decide, [], []⟩
def dd_judge_holds : He.DefD := ⟨("judge_holds", none), "judge_holds", "judge_holds", defArgs s_judge_holds, defBody s_judge_holds, defScope s_judge_holds, [], []⟩
def dd_judge_breaks : He.DefD := ⟨("judge_breaks", none), "judge_breaks", "judge_breaks", defArgs s_judge_breaks, defBody s_judge_breaks, defScope s_judge_breaks, [], []⟩
def dd_walk : He.DefD := ⟨("walk", none), "walk", "walk", defArgs s_walk, defBody s_walk, defScope s_walk, [], []⟩
def dd_branch_at : He.DefD := ⟨("branch_at", none), "branch_at", "branch_at", defArgs s_branch_at, defBody s_branch_at, defScope s_branch_at, [], []⟩
def dd__law_begin : He.DefD := ⟨("_law_begin", none), "_law_begin", "_law_begin", defArgs s__law_begin, defBody s__law_begin, defScope s__law_begin, [], []⟩
def dd__law_draw : He.DefD := ⟨("_law_draw", none), "_law_draw", "_law_draw", defArgs s__law_draw, defBody s__law_draw, defScope s__law_draw, [], []⟩
def dd__law_pick : He.DefD := ⟨("_law_pick", none), "_law_pick", "_law_pick", defArgs s__law_pick, defBody s__law_pick, defScope s__law_pick, [], []⟩
def dd__law_pop : He.DefD := ⟨("_law_pop", none), "_law_pop", "_law_pop", defArgs s__law_pop, defBody s__law_pop, defScope s__law_pop, [], []⟩
def dd__law_rare : He.DefD := ⟨("_law_rare", none), "_law_rare", "_law_rare", defArgs s__law_rare, defBody s__law_rare, defScope s__law_rare, [], []⟩
def dd__law_pool : He.DefD := ⟨("_law_pool", none), "_law_pool", "_law_pool", defArgs s__law_pool, defBody s__law_pool, defScope s__law_pool, [], []⟩
def dd__law_is_int : He.DefD := ⟨("_law_is_int", none), "_law_is_int", "_law_is_int", defArgs s__law_is_int, defBody s__law_is_int, defScope s__law_is_int, [], []⟩
def dd__law_words : He.DefD := ⟨("_law_words", none), "_law_words", "_law_words", defArgs s__law_words, defBody s__law_words, defScope s__law_words, [], []⟩
def dd__law_leaves : He.DefD := ⟨("_law_leaves", none), "_law_leaves", "_law_leaves", defArgs s__law_leaves, defBody s__law_leaves, defScope s__law_leaves, [], []⟩
def dd__law_watch_step : He.DefD := ⟨("_law_watch_step", none), "_law_watch_step", "_law_watch_step", defArgs s__law_watch_step, defBody s__law_watch_step, defScope s__law_watch_step, [], []⟩
def dd__law_drawn_watch : He.DefD := ⟨("_law_drawn_watch", none), "_law_drawn_watch", "_law_drawn_watch", defArgs s__law_drawn_watch, defBody s__law_drawn_watch, defScope s__law_drawn_watch, [], []⟩
def dd__law_some_watch : He.DefD := ⟨("_law_some_watch", none), "_law_some_watch", "_law_some_watch", defArgs s__law_some_watch, defBody s__law_some_watch, defScope s__law_some_watch, [], []⟩
def dd__law_ladder : He.DefD := ⟨("_law_ladder", none), "_law_ladder", "_law_ladder", defArgs s__law_ladder, defBody s__law_ladder, defScope s__law_ladder, [], []⟩
def dd__law_wide_shown : He.DefD := ⟨("_law_wide_shown", none), "_law_wide_shown", "_law_wide_shown", defArgs s__law_wide_shown, defBody s__law_wide_shown, defScope s__law_wide_shown, [], []⟩
def dd__law_wide_chain : He.DefD := ⟨("_law_wide_chain", none), "_law_wide_chain", "_law_wide_chain", defArgs s__law_wide_chain, defBody s__law_wide_chain, defScope s__law_wide_chain, [], []⟩
def dd__law_some_chain : He.DefD := ⟨("_law_some_chain", none), "_law_some_chain", "_law_some_chain", defArgs s__law_some_chain, defBody s__law_some_chain, defScope s__law_some_chain, [], []⟩
def dd__law_met_pairs : He.DefD := ⟨("_law_met_pairs", none), "_law_met_pairs", "_law_met_pairs", defArgs s__law_met_pairs, defBody s__law_met_pairs, defScope s__law_met_pairs, [], []⟩
def dd__law_spared : He.DefD := ⟨("_law_spared", none), "_law_spared", "_law_spared", defArgs s__law_spared, defBody s__law_spared, defScope s__law_spared, [], []⟩
def dd__law_same : He.DefD := ⟨("_law_same", none), "_law_same", "_law_same", defArgs s__law_same, defBody s__law_same, defScope s__law_same, [], []⟩
def dd__law_is_bool : He.DefD := ⟨("_law_is_bool", none), "_law_is_bool", "_law_is_bool", defArgs s__law_is_bool, defBody s__law_is_bool, defScope s__law_is_bool, [], []⟩
def dd__law_far : He.DefD := ⟨("_law_far", none), "_law_far", "_law_far", defArgs s__law_far, defBody s__law_far, defScope s__law_far, [], []⟩
def dd__law_leads : He.DefD := ⟨("_law_leads", none), "_law_leads", "_law_leads", defArgs s__law_leads, defBody s__law_leads, defScope s__law_leads, [], []⟩
def dd__law_least : He.DefD := ⟨("_law_least", none), "_law_least", "_law_least", defArgs s__law_least, defBody s__law_least, defScope s__law_least, [], []⟩
def dd__law_due : He.DefD := ⟨("_law_due", none), "_law_due", "_law_due", defArgs s__law_due, defBody s__law_due, defScope s__law_due, [], []⟩
def dd__law_judged : He.DefD := ⟨("_law_judged", none), "_law_judged", "_law_judged", defArgs s__law_judged, defBody s__law_judged, defScope s__law_judged, [], []⟩
def dd__law_replayed : He.DefD := ⟨("_law_replayed", none), "_law_replayed", "_law_replayed", defArgs s__law_replayed, defBody s__law_replayed, defScope s__law_replayed, [], []⟩
def dd__law_met_by_walk : He.DefD := ⟨("_law_met_by_walk", none), "_law_met_by_walk", "_law_met_by_walk", defArgs s__law_met_by_walk, defBody s__law_met_by_walk, defScope s__law_met_by_walk, [], []⟩
def dd__law_all_walks : He.DefD := ⟨("_law_all_walks", none), "_law_all_walks", "_law_all_walks", defArgs s__law_all_walks, defBody s__law_all_walks, defScope s__law_all_walks, [], []⟩
def dd_law : He.DefD := ⟨("law", none), "law", "law", defArgs s_law, defBody s_law, defScope s_law, [], []⟩
def dd_wi : He.DefD := ⟨("Watcher", some "__init__"), "__init__", "Watcher.__init__", defArgs s_wi, defBody s_wi, defScope s_wi, [], []⟩
def dd_wc : He.DefD := ⟨("Watcher", some "__call__"), "__call__", "Watcher.__call__", defArgs s_wc, defBody s_wc, defScope s_wc, [], []⟩
/-- a property of the class, and its getter -/
def paX (K : PySem.W.Frag) (x : Str) : Addr := He.ma K (He.ga K "Watcher") x
def gaX (K : PySem.W.Frag) (x : Str) : Addr := match PySem.W.recIn K (paX K x) "property" with
  | some (.ref g :: _) => g
  | _ => 0
def prB (K : PySem.W.Frag) (x : Str) : Bool := He.eqO (PySem.W.findIn K (.ref (He.ga K "Watcher")) x) (some (some (.ref (paX K x)))) && (He.eqO (PySem.W.specialIn K (.ref (paX K x)) "__get__") (some (some (.builtin "property.__get__"))) && (decide (PySem.W.takesIn K (.ref (paX K x)) = some true) && (match PySem.W.recIn K (paX K x) "property" with
  | some (.ref _ :: _) => true
  | _ => false)))
theorem rec_of {K : PySem.W.Frag} {x : Str} (h : (match PySem.W.recIn K (paX K x) "property" with
  | some (.ref _ :: _) => true
  | _ => false) = true) : ∃ rest, PySem.W.recIn K (paX K x) "property" = some (.ref (gaX K x) :: rest) := by
  unfold gaX
  split at h
  · rename_i g r e
    rw [e]
    exact ⟨r, rfl⟩
  · cases h
theorem prB_ok {K : PySem.W.Frag} {x : Str} (h : prB K x = true) : PropOf K (He.ga K "Watcher") x (paX K x) (gaX K x) := by
  obtain ⟨x2, h⟩ := He.ba h
  obtain ⟨x3, h⟩ := He.ba h
  obtain ⟨x4, x5⟩ := He.ba h
  exact ⟨He.eqO_ok x2, He.eqO_ok x3, of_decide_eq_true x4, rec_of x5⟩
def dd_wb : He5.DefA := ⟨fun K => gaX K "broken", "broken", "Watcher.broken", defArgs s_wb, defBody s_wb, defScope s_wb, [], []⟩
def dd_wp : He5.DefA := ⟨fun K => gaX K "place", "place", "Watcher.place", defArgs s_wp, defBody s_wp, defScope s_wp, [], []⟩
/-! the head's words, and two defs at addresses of their own -/
abbrev AlN : Type := He.AlD × (Bool × (He.FnW × He.FnW))
def obsN (n : Nat) (fa : List He.Fa) (fn : List He.DefD) (ex : PySem.W.Frag → Bool) (d e : He5.DefA) (g : Addr → Option Obj) : AlN := (He.obsDG n fa fn g, (ex (He.frG g (He.asD g n)) && (d.ok (He.frG g (He.asD g n)) && e.ok (He.frG g (He.asD g n))), (He5.fnA (He.frG g (He.asD g n)) (d.at_ (He.frG g (He.asD g n))), He5.fnA (He.frG g (He.asD g n)) (e.at_ (He.frG g (He.asD g n))))))
def SaysN (fa : List He.Fa) (fn : List He.DefD) (ex : PySem.W.Frag → Bool) (d e : He5.DefA) (K : PySem.W.Frag) : Prop := He.SaysD fa fn K ∧ (ex K && (d.ok K && e.ok K)) = true ∧ He5.fnA K (d.at_ K) = d.val ∧ He5.fnA K (e.at_ K) = e.val
def hookN (n : Nat) (fa : List He.Fa) (fn : List He.DefD) (ex : PySem.W.Frag → Bool) (d e : He5.DefA) : PySem.W.Hook where
  α := AlN
  obs := fun s => obsN n fa fn ex d e s.heap.get?
  val := fun _ => (He.valD fn, (true, (d.val, e.val)))
  says := fun _ h => ∃ K : PySem.W.Frag, K.In h ∧ SaysN fa fn ex d e K
  of := fun _ _ e => ⟨_, He.frG_in, congrArg (fun z : AlN => z.1) e, congrArg (fun z : AlN => z.2.1) e, congrArg (fun z : AlN => z.2.2.1) e, congrArg (fun z : AlN => z.2.2.2) e⟩
  keeps := fun _ _ _ ⟨K, hK, c⟩ k => ⟨K, PySem.W.Frag.In.keeps hK k, c⟩
theorem obsN_eq {n : Nat} {fa : List He.Fa} {fn : List He.DefD} {ex : PySem.W.Frag → Bool} {d e : He5.DefA} {g : Addr → Option Obj} {s : Shared} (h : ∀ a, g a = s.heap.get? a) : obsN n fa fn ex d e g = (hookN n fa fn ex d e).obs s := by
  have e : g = s.heap.get? := funext h
  rw [e] <;> rfl
def dds : List He.DefD := [dd_branches_along, dd_place_behind, dd_decide, dd_judge_holds, dd_judge_breaks, dd_walk, dd_branch_at, dd__law_begin, dd__law_draw, dd__law_pick, dd__law_pop, dd__law_rare, dd__law_pool, dd__law_is_int, dd__law_words, dd__law_leaves, dd__law_watch_step, dd__law_drawn_watch, dd__law_some_watch, dd__law_ladder, dd__law_wide_shown, dd__law_wide_chain, dd__law_some_chain, dd__law_met_pairs, dd__law_spared, dd__law_same, dd__law_is_bool, dd__law_far, dd__law_leads, dd__law_least, dd__law_due, dd__law_judged, dd__law_replayed, dd__law_met_by_walk, dd__law_all_walks, dd_law, dd_wi, dd_wc]
def fas : List He.Fa := [.glo "branches_along", .glo "place_behind", .glo "decide", .glo "judge_holds", .glo "judge_breaks", .glo "walk", .glo "branch_at", .glo "_law_begin", .glo "_law_draw", .glo "_law_pick", .glo "_law_pop", .glo "_law_rare", .glo "_law_pool", .glo "_law_is_int", .glo "_law_words", .glo "_law_leaves", .glo "_law_watch_step", .glo "_law_drawn_watch", .glo "_law_some_watch", .glo "_law_ladder", .glo "_law_wide_shown", .glo "_law_wide_chain", .glo "_law_some_chain", .glo "_law_met_pairs", .glo "_law_spared", .glo "_law_same", .glo "_law_is_bool", .glo "_law_far", .glo "_law_leads", .glo "_law_least", .glo "_law_due", .glo "_law_judged", .glo "_law_replayed", .glo "_law_met_by_walk", .glo "_law_all_walks", .glo "law", .free "int", .free "abs", .free "len", .free "isinstance", .free "bool", .free "tuple", .free "list", .free "range", .free "sorted", .free "min", .free "all", .free "str", .glo "Watcher", .cls "Watcher", .noat "Watcher" "watch", .noat "Watcher" "here", .noat "Watcher" "has_broken", .mkr "Watcher", .meth "Watcher" "__call__"]
def exM (K : PySem.W.Frag) : Bool := PySem.W.fnIn K (He.ma K (He.ga K "Watcher") "__call__") && (prB K "broken" && prB K "place")
abbrev R : PySem.W.OpenRow := PySem.W.OpenLaw.row PySem.Challenge.rw_meantrace_k76_whole_claims
abbrev hk : PySem.W.Hook := hookN 6 fas dds exM dd_wb dd_wp
def ob (s : PySem.W.SharedT) : AlN := obsN 6 fas dds exM dd_wb dd_wp (HandSHeadRun.getT s)
theorem ob_eq (s : PySem.W.SharedT) : ob s = hk.obs s.abs := obsN_eq (HandSHeadRun.getT_eq s)
def names : List PySem.Str := (["branches_along", "place_behind", "Watcher", "decide", "judge_holds", "judge_breaks", "MeanError", "Dry", "walk", "branch_at", "_law_begin", "_law_draw", "_law_pick", "_law_pop", "_law_rare", "_law_pool", "_law_is_int", "_law_words", "_law_leaves", "_law_watch_step", "_law_drawn_watch", "_law_some_watch", "_law_ladder", "_law_wide_shown", "_law_wide_chain"] : List PySem.Str) ++ (["_law_some_chain", "_law_met_pairs", "_law_spared", "_law_same", "_law_is_bool", "_law_far", "_law_leads", "_law_least", "_law_due", "_law_judged", "_law_replayed", "_law_met_by_walk", "_law_all_walks"] : List PySem.Str)
theorem run (w : World) : HandSHeadRun.RunEq R (PySem.W.view R.prog [44]) hk ob 3000 names w := by
  intro os; kernel_rfl
set_option maxHeartbeats 2000000 in
theorem facts {P : Program} {w : World} {K : PySem.W.Frag} {h : Heap} {mg : Str → Option Value} {f : Addr} (X : K.In h) (G : h.Ns mainGlobals mg) (hfa : mg ("law" : Str) = some (.ref f)) (c : SaysN fas dds exM dd_wb dd_wp K) :
    ∃ fd : FuncData, (∀ (s : Shared) (v : Value), BindsTo s fd ⟨[v], []⟩ [("script", v)]) ∧ ∀ base : Heap, K.In base → base.Ns mainGlobals mg → FnOk P w K mg base CX0 8 f fd ["script"] (spLaw K) := by
  obtain ⟨fd, F⟩ := c.1.def_ 35 (d := dd_law) rfl
  have e := hfa.symm.trans (He.glo_ok X G (c.1.fact 35 (f := .glo "law") rfl))
  cases e
  have T : Txt K mg := ⟨He.free_ok X G (c.1.fact 36 (f := .free "int") rfl), He.free_ok X G (c.1.fact 37 (f := .free "abs") rfl), He.free_ok X G (c.1.fact 38 (f := .free "len") rfl), He.free_ok X G (c.1.fact 39 (f := .free "isinstance") rfl), He.free_ok X G (c.1.fact 40 (f := .free "bool") rfl), He.free_ok X G (c.1.fact 41 (f := .free "tuple") rfl), He.free_ok X G (c.1.fact 42 (f := .free "list") rfl), He.free_ok X G (c.1.fact 43 (f := .free "range") rfl), He.free_ok X G (c.1.fact 44 (f := .free "sorted") rfl), He.free_ok X G (c.1.fact 45 (f := .free "min") rfl), He.free_ok X G (c.1.fact 46 (f := .free "all") rfl), He.free_ok X G (c.1.fact 47 (f := .free "str") rfl)⟩
  have b := FunD.bindsA (ps := ["script"]) F fun _ _ _ _ _ _ us hl => match us, hl with | [_], _ => rfl
  refine ⟨fd, fun s v => b s [v] rfl, fun base _ _ => ?_⟩
  have D_branches_along : Kept P w K mg base 1 "branches_along" ["rows", "state", "blocks"] (spAlongG K) := kept_of (st := s_branches_along) X G (c.1.def_ 0 (d := dd_branches_along) rfl) (c.1.fact 0 (f := .glo "branches_along") rfl) (fun _ _ _ _ _ _ us hl => match us, hl with | [_, _, _], _ => rfl) (fun f fd F => ok_branches_along T F)
  have D_place_behind : Kept P w K mg base 1 "place_behind" ["watch", "place", "shown"] (spPlace K) := kept_of (st := s_place_behind) X G (c.1.def_ 1 (d := dd_place_behind) rfl) (c.1.fact 1 (f := .glo "place_behind") rfl) (fun _ _ _ _ _ _ us hl => match us, hl with | [_, _, _], _ => rfl) (fun f fd F => ok_place_behind T F)
  have D_branch_at : Kept P w K mg base 1 "branch_at" ["row", "tape", "at"] (spBranch K) := kept_of (st := s_branch_at) X G (c.1.def_ 6 (d := dd_branch_at) rfl) (c.1.fact 6 (f := .glo "branch_at") rfl) (fun _ _ _ _ _ _ us hl => match us, hl with | [_, _, _], _ => rfl) (fun f fd F => ok_branch_at T F)
  have D__law_begin : Kept P w K mg base 1 "_law_begin" ["script"] (spBegin K) := kept_of (st := s__law_begin) X G (c.1.def_ 7 (d := dd__law_begin) rfl) (c.1.fact 7 (f := .glo "_law_begin") rfl) (fun _ _ _ _ _ _ us hl => match us, hl with | [_], _ => rfl) (fun f fd F => ok__law_begin T F)
  have D__law_draw : Kept P w K mg base 1 "_law_draw" ["d", "many"] spDraw := kept_of (st := s__law_draw) X G (c.1.def_ 8 (d := dd__law_draw) rfl) (c.1.fact 8 (f := .glo "_law_draw") rfl) (fun _ _ _ _ _ _ us hl => match us, hl with | [_, _], _ => rfl) (fun f fd F => ok__law_draw T F)
  have D__law_pool : Kept P w K mg base 1 "_law_pool" [] spPool := kept_of (st := s__law_pool) X G (c.1.def_ 12 (d := dd__law_pool) rfl) (c.1.fact 12 (f := .glo "_law_pool") rfl) (fun _ _ _ _ _ _ us hl => match us, hl with | [], _ => rfl) (fun f fd F => ok__law_pool T F)
  have D__law_is_int : Kept P w K mg base 1 "_law_is_int" ["thing"] spIsInt := kept_of (st := s__law_is_int) X G (c.1.def_ 13 (d := dd__law_is_int) rfl) (c.1.fact 13 (f := .glo "_law_is_int") rfl) (fun _ _ _ _ _ _ us hl => match us, hl with | [_], _ => rfl) (fun f fd F => ok__law_is_int T F)
  have D__law_leaves : Kept P w K mg base 1 "_law_leaves" ["chain", "n", "most"] (spLeaves K) := kept_of (st := s__law_leaves) X G (c.1.def_ 15 (d := dd__law_leaves) rfl) (c.1.fact 15 (f := .glo "_law_leaves") rfl) (fun _ _ _ _ _ _ us hl => match us, hl with | [_, _, _], _ => rfl) (fun f fd F => ok__law_leaves T F)
  have D__law_watch_step : Kept P w K mg base 1 "_law_watch_step" ["watch", "state", "shown"] (spPlace K) := kept_of (st := s__law_watch_step) X G (c.1.def_ 16 (d := dd__law_watch_step) rfl) (c.1.fact 16 (f := .glo "_law_watch_step") rfl) (fun _ _ _ _ _ _ us hl => match us, hl with | [_, _, _], _ => rfl) (fun f fd F => ok__law_watch_step T F)
  have D__law_is_bool : Kept P w K mg base 1 "_law_is_bool" ["told", "due"] spIsBool := kept_of (st := s__law_is_bool) X G (c.1.def_ 26 (d := dd__law_is_bool) rfl) (c.1.fact 26 (f := .glo "_law_is_bool") rfl) (fun _ _ _ _ _ _ us hl => match us, hl with | [_, _], _ => rfl) (fun f fd F => ok__law_is_bool T F)
  have D_decide : Kept P w K mg base 2 "decide" ["chain", "watch"] (spDecide K) := kept_of (st := s_decide) X G (c.1.def_ 2 (d := dd_decide) rfl) (c.1.fact 2 (f := .glo "decide") rfl) (fun _ _ _ _ _ _ us hl => match us, hl with | [_, _], _ => rfl) (fun f fd F => ok_decide T D_place_behind F)
  have D_judge_holds : Kept P w K mg base 2 "judge_holds" ["chain", "watch", "pairs"] (spHolds K) := kept_of (st := s_judge_holds) X G (c.1.def_ 3 (d := dd_judge_holds) rfl) (c.1.fact 3 (f := .glo "judge_holds") rfl) (fun _ _ _ _ _ _ us hl => match us, hl with | [_, _, _], _ => rfl) (fun f fd F => ok_judge_holds T D_place_behind F)
  have D_walk : Kept P w K mg base 2 "walk" ["chain", "tape", "ticks"] (spWalk K) := kept_of (st := s_walk) X G (c.1.def_ 5 (d := dd_walk) rfl) (c.1.fact 5 (f := .glo "walk") rfl) (fun _ _ _ _ _ _ us hl => match us, hl with | [_, _, _], _ => rfl) (fun f fd F => ok_walk T D_branch_at F)
  have D__law_pick : Kept P w K mg base 2 "_law_pick" ["d", "row"] (spPick K) := kept_of (st := s__law_pick) X G (c.1.def_ 9 (d := dd__law_pick) rfl) (c.1.fact 9 (f := .glo "_law_pick") rfl) (fun _ _ _ _ _ _ us hl => match us, hl with | [_, _], _ => rfl) (fun f fd F => ok__law_pick T D__law_draw F)
  have D__law_pop : Kept P w K mg base 2 "_law_pop" ["d", "row"] spPop := kept_of (st := s__law_pop) X G (c.1.def_ 10 (d := dd__law_pop) rfl) (c.1.fact 10 (f := .glo "_law_pop") rfl) (fun _ _ _ _ _ _ us hl => match us, hl with | [_, _], _ => rfl) (fun f fd F => ok__law_pop T D__law_draw F)
  have D__law_rare : Kept P w K mg base 2 "_law_rare" ["d", "many"] spRare := kept_of (st := s__law_rare) X G (c.1.def_ 11 (d := dd__law_rare) rfl) (c.1.fact 11 (f := .glo "_law_rare") rfl) (fun _ _ _ _ _ _ us hl => match us, hl with | [_, _], _ => rfl) (fun f fd F => ok__law_rare T D__law_draw F)
  have D__law_words : Kept P w K mg base 2 "_law_words" ["d", "base", "many"] (spWords K) := kept_of (st := s__law_words) X G (c.1.def_ 14 (d := dd__law_words) rfl) (c.1.fact 14 (f := .glo "_law_words") rfl) (fun _ _ _ _ _ _ us hl => match us, hl with | [_, _, _], _ => rfl) (fun f fd F => ok__law_words T D__law_draw F)
  have D__law_met_pairs : Kept P w K mg base 2 "_law_met_pairs" ["chain", "watch", "starts"] (spMet K) := kept_of (st := s__law_met_pairs) X G (c.1.def_ 23 (d := dd__law_met_pairs) rfl) (c.1.fact 23 (f := .glo "_law_met_pairs") rfl) (fun _ _ _ _ _ _ us hl => match us, hl with | [_, _, _], _ => rfl) (fun f fd F => ok__law_met_pairs T D__law_watch_step F)
  have D__law_leads : Kept P w K mg base 2 "_law_leads" ["chain", "watch", "state", "here", "found"] (spLeads K) := kept_of (st := s__law_leads) X G (c.1.def_ 28 (d := dd__law_leads) rfl) (c.1.fact 28 (f := .glo "_law_leads") rfl) (fun _ _ _ _ _ _ us hl => match us, hl with | [_, _, _, _, _], _ => rfl) (fun f fd F => ok__law_leads T D__law_watch_step F)
  have D__law_least : Kept P w K mg base 2 "_law_least" ["chain", "watch", "far"] (spLeast K) := kept_of (st := s__law_least) X G (c.1.def_ 29 (d := dd__law_least) rfl) (c.1.fact 29 (f := .glo "_law_least") rfl) (fun _ _ _ _ _ _ us hl => match us, hl with | [_, _, _], _ => rfl) (fun f fd F => ok__law_least T D__law_watch_step F)
  obtain ⟨cx, cd⟩ := He.ba c.2.1
  obtain ⟨cdb, cdp⟩ := He.ba cd
  obtain ⟨x1, cx⟩ := He.ba cx
  obtain ⟨xb, xp⟩ := He.ba cx
  have WX : WTx K (He.ga K "Watcher") := ⟨He.cls_ok (c.1.fact 49 (f := .cls "Watcher") rfl), He.noat_ok (c.1.fact 50 (f := .noat "Watcher" "watch") rfl), He.noat_ok (c.1.fact 51 (f := .noat "Watcher" "here") rfl), He.noat_ok (c.1.fact 52 (f := .noat "Watcher" "has_broken") rfl)⟩
  obtain ⟨fdI, FI⟩ := c.1.def_ 36 (d := dd_wi) rfl
  obtain ⟨fdC, FC⟩ := c.1.def_ 37 (d := dd_wc) rfl
  obtain ⟨fdB, FB⟩ := He5.DefA.funD (d := dd_wb) c.2.2.1 cdb
  obtain ⟨fdP, FP⟩ := He5.DefA.funD (d := dd_wp) c.2.2.2 cdp
  have mC := He.meth_ok (c.1.fact 54 (f := .meth "Watcher" "__call__") rfl)
  have bC : Binds K fdC ["self", "shown"] [] := FunD.bindsN (ps := ["self", "shown"]) FC fun _ _ _ _ _ _ us hl => match us, hl with | [_, _], _ => rfl
  have okC := ok_wc (P := P) (w := w) (mg := mg) (base := base) WX D_place_behind FC
  have Wc : Wch P w K mg base (He.ga K "Watcher") (He.ma K (He.ga K "Watcher") "__init__") (He.ma K (He.ga K "Watcher") "__call__") (paX K "broken") (gaX K "broken") fdI fdB :=
    { mgC := He.glo_ok X G (c.1.fact 48 (f := .glo "Watcher") rfl), cl := WX.cl, mk_ := He.mkr_ok (c.1.fact 53 (f := .mkr "Watcher") rfl), fI_ := ok_wi WX FI,
      bI := FunD.bindsN (ps := ["self", "watch"]) FI fun _ _ _ _ _ _ us hl => match us, hl with | [_, _], _ => rfl,
      call := ⟨mC.1, mC.2, x1⟩,
      fC_ := fun A outer s H us vs Q E hr e0 r hs => (FnOk.raw okC bC .nil) A outer s H us vs Q E hr e0 r (by show spWC K (He.ga K "Watcher") (vs ++ []) H Q E; rw [List.append_nil]; exact hs),
      pr := prB_ok xb,
      fB_ := ok_wb WX FB,
      bB := FunD.bindsN (ps := ["self"]) FB fun _ _ _ _ _ _ us hl => match us, hl with | [_], _ => rfl }
  have Wp : WchP P w K mg base (He.ga K "Watcher") (paX K "place") (gaX K "place") fdP :=
    { pr := prB_ok xp, fA_ := ok_wp WX FP, bA := FunD.bindsN (ps := ["self"]) FP fun _ _ _ _ _ _ us hl => match us, hl with | [_], _ => rfl }
  have D_judge_breaks : Kept P w K mg base 3 "judge_breaks" ["chain", "watch", "blocks"] (spJBreaks K) := kept_of (st := s_judge_breaks) X G (c.1.def_ 4 (d := dd_judge_breaks) rfl) (c.1.fact 4 (f := .glo "judge_breaks") rfl) (fun _ _ _ _ _ _ us hl => match us, hl with | [_, _, _], _ => rfl) (fun f fd F => ok_judge_breaks T D_branches_along Wc F)
  have D__law_drawn_watch : Kept P w K mg base 3 "_law_drawn_watch" ["d", "marks", "many"] (spDWatch K) := kept_of (st := s__law_drawn_watch) X G (c.1.def_ 17 (d := dd__law_drawn_watch) rfl) (c.1.fact 17 (f := .glo "_law_drawn_watch") rfl) (fun _ _ _ _ _ _ us hl => match us, hl with | [_, _, _], _ => rfl) (fun f fd F => ok__law_drawn_watch T D__law_draw D__law_pop D__law_rare F)
  have D__law_ladder : Kept P w K mg base 3 "_law_ladder" ["d", "base", "states", "marks"] (spLadder K) := kept_of (st := s__law_ladder) X G (c.1.def_ 19 (d := dd__law_ladder) rfl) (c.1.fact 19 (f := .glo "_law_ladder") rfl) (fun _ _ _ _ _ _ us hl => match us, hl with | [_, _, _, _], _ => rfl) (fun f fd F => ok__law_ladder T D__law_draw D__law_pick D__law_words F)
  have D__law_wide_shown : Kept P w K mg base 3 "_law_wide_shown" ["d", "marks"] (spShown K) := kept_of (st := s__law_wide_shown) X G (c.1.def_ 20 (d := dd__law_wide_shown) rfl) (c.1.fact 20 (f := .glo "_law_wide_shown") rfl) (fun _ _ _ _ _ _ us hl => match us, hl with | [_, _], _ => rfl) (fun f fd F => ok__law_wide_shown T D__law_pick F)
  have D__law_spared : Kept P w K mg base 3 "_law_spared" ["d", "chain", "watch"] (spSpared K) := kept_of (st := s__law_spared) X G (c.1.def_ 24 (d := dd__law_spared) rfl) (c.1.fact 24 (f := .glo "_law_spared") rfl) (fun _ _ _ _ _ _ us hl => match us, hl with | [_, _, _], _ => rfl) (fun f fd F => ok__law_spared T D__law_draw D__law_met_pairs F)
  have D__law_far : Kept P w K mg base 3 "_law_far" ["chain", "watch"] (spFar K) := kept_of (st := s__law_far) X G (c.1.def_ 27 (d := dd__law_far) rfl) (c.1.fact 27 (f := .glo "_law_far") rfl) (fun _ _ _ _ _ _ us hl => match us, hl with | [_, _], _ => rfl) (fun f fd F => ok__law_far T D__law_leads F)
  have D__law_some_watch : Kept P w K mg base 4 "_law_some_watch" ["d", "marks", "most"] (spSWatch K) := kept_of (st := s__law_some_watch) X G (c.1.def_ 18 (d := dd__law_some_watch) rfl) (c.1.fact 18 (f := .glo "_law_some_watch") rfl) (fun _ _ _ _ _ _ us hl => match us, hl with | [_, _, _], _ => rfl) (fun f fd F => ok__law_some_watch T D__law_draw D__law_drawn_watch F)
  have D__law_wide_chain : Kept P w K mg base 4 "_law_wide_chain" ["d", "base", "states", "marks"] (spWChain K) := kept_of (st := s__law_wide_chain) X G (c.1.def_ 21 (d := dd__law_wide_chain) rfl) (c.1.fact 21 (f := .glo "_law_wide_chain") rfl) (fun _ _ _ _ _ _ us hl => match us, hl with | [_, _, _, _], _ => rfl) (fun f fd F => ok__law_wide_chain T D__law_draw D__law_words D__law_wide_shown F)
  have D__law_due : Kept P w K mg base 4 "_law_due" ["chain", "watch"] (spDue K) := kept_of (st := s__law_due) X G (c.1.def_ 30 (d := dd__law_due) rfl) (c.1.fact 30 (f := .glo "_law_due") rfl) (fun _ _ _ _ _ _ us hl => match us, hl with | [_, _], _ => rfl) (fun f fd F => ok__law_due T D__law_met_pairs D__law_far D__law_least F)
  have D__law_judged : Kept P w K mg base 4 "_law_judged" ["chain", "watch", "due"] (spJudged K) := kept_of (st := s__law_judged) X G (c.1.def_ 31 (d := dd__law_judged) rfl) (c.1.fact 31 (f := .glo "_law_judged") rfl) (fun _ _ _ _ _ _ us hl => match us, hl with | [_, _, _], _ => rfl) (fun f fd F => ok__law_judged T D_judge_holds D_judge_breaks D__law_met_pairs D__law_is_bool F)
  have D__law_replayed : Kept P w K mg base 4 "_law_replayed" ["chain", "watch", "blocks"] (spReplayed K) := kept_of (st := s__law_replayed) X G (c.1.def_ 32 (d := dd__law_replayed) rfl) (c.1.fact 32 (f := .glo "_law_replayed") rfl) (fun _ _ _ _ _ _ us hl => match us, hl with | [_, _, _], _ => rfl) (fun f fd F => ok__law_replayed T D__law_is_bool Wc F)
  have D__law_met_by_walk : Kept P w K mg base 4 "_law_met_by_walk" ["d", "chain", "watch"] (spMetW K) := kept_of (st := s__law_met_by_walk) X G (c.1.def_ 33 (d := dd__law_met_by_walk) rfl) (c.1.fact 33 (f := .glo "_law_met_by_walk") rfl) (fun _ _ _ _ _ _ us hl => match us, hl with | [_, _, _], _ => rfl) (fun f fd F => ok__law_met_by_walk T D_walk D__law_draw D__law_met_pairs Wc Wp F)
  have D__law_all_walks : Kept P w K mg base 4 "_law_all_walks" ["chain", "watch", "due"] (spAllW K) := kept_of (st := s__law_all_walks) X G (c.1.def_ 34 (d := dd__law_all_walks) rfl) (c.1.fact 34 (f := .glo "_law_all_walks") rfl) (fun _ _ _ _ _ _ us hl => match us, hl with | [_, _, _], _ => rfl) (fun f fd F => ok__law_all_walks T D__law_leaves D__law_is_bool Wc F)
  have D__law_some_chain : Kept P w K mg base 5 "_law_some_chain" ["d", "marks", "most"] (spSomeC K) := kept_of (st := s__law_some_chain) X G (c.1.def_ 22 (d := dd__law_some_chain) rfl) (c.1.fact 22 (f := .glo "_law_some_chain") rfl) (fun _ _ _ _ _ _ us hl => match us, hl with | [_, _, _], _ => rfl) (fun f fd F => ok__law_some_chain T D__law_draw D__law_rare D__law_ladder D__law_wide_chain F)
  obtain ⟨fdS, FS⟩ := c.1.def_ 25 (d := dd__law_same) rfl
  have gS := He.glo_ok X G (c.1.fact 25 (f := .glo "_law_same") rfl)
  have bS : Binds K fdS ["told", "due"] [] := FunD.bindsN (ps := ["told", "due"]) FS fun _ _ _ _ _ _ us hl => match us, hl with | [_, _], _ => rfl
  have D__law_same : Kept P w K mg base 7 "_law_same" ["told", "due"] (spSm K 5) := ⟨_, fdS, sm_ok T D__law_is_int 5 FS gS bS, gS, FS.kp, bS⟩
  exact ok_law T D_decide D__law_begin D__law_draw D__law_pop D__law_rare D__law_pool D__law_some_watch D__law_some_chain D__law_spared D__law_same D__law_due D__law_judged D__law_replayed D__law_met_by_walk D__law_all_walks F
end Mt
open PySem PySem.W PySem.Calls PyProof.Rows
set_option maxHeartbeats 0 in
theorem PySem.Challenge.cw_meantrace_k76_whole_claims_holds : PySem.Challenge.rw_meantrace_k76_whole_claims.Holds := by
  w_on; o_law
  refine HandSHeadRun.head_any (r := OpenLaw.row PySem.Challenge.rw_meantrace_k76_whole_claims) (q := view (OpenLaw.row PySem.Challenge.rw_meantrace_k76_whole_claims).prog [44]) (H := Mt.hk) (ob := Mt.ob) (M := 3000) (loose := Mt.names) (d := HandSHeadRun.topDef (OpenLaw.row PySem.Challenge.rw_meantrace_k76_whole_claims).prog 44) (kwd := []) Mt.ob_eq
    (by kernel_rfl) (fun s => by kernel_rfl) Mt.run (by kernel_rfl) (by kernel_rfl) (by kernel_rfl) (by rfl) (by first | assumption | decide +kernel) (by decide +kernel) ⟨rfl, rfl, rfl, rfl, rfl, by decide +kernel⟩ ?hw ?hc
  case hw => w_witness2
  case hc =>
    refine L2.walk_ofE (l := PySem.Challenge.rw_meantrace_k76_whole_claims) (n := 63) (k := 8) (x := "script") (CX := L2.CX0) rfl (by decide) (by kernel_rfl) ⟨rfl, by decide, by decide⟩ ?F (fun _ _ _ _ z => z)
    intro w mg fa h Y G hmg0
    obtain ⟨K, KX, c⟩ := Y
    have hmg : mg ("law" : PySem.Str) = some (.ref fa) := by
      have e : (HandSHeadRun.topDef (OpenLaw.row PySem.Challenge.rw_meantrace_k76_whole_claims).prog 44).name = ("law" : PySem.Str) := by kernel_rfl
      rw [← e]
      exact hmg0
    obtain ⟨fd, hb, hF⟩ := Mt.facts (P := (PySem.Challenge.rw_meantrace_k76_whole_claims).prog) (w := w) KX G hmg c
    exact ⟨K, fd, Mt.spLaw K, KX, hb, fun H a ns hl hO hS => ⟨a, ns, rfl, hS, hl, fun _ => rfl⟩, hF⟩
