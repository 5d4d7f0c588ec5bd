import PyProof.Rows.All
import Wide.All
import OpenK.AllK
import Wide.FinOn
import KE.KStateDown
import HandS.ForMost
import HandS.Wide
import HandS.IsInst
import HandS.Walk
import HandS.Style
import HandS.Evl
import HandS.StrMore
import HandS.Exc
import HandS.WordsExc
import HandS.Defaults
import HandS.Head0
import HandS.Head1
import HandS.Head2
import HandS.HeadEnd
import HandS.HeadHook1
import HandS.HeadHook2
import HandS.Gcd
import HandS.Head3
import HandS.Star
import HandS.RaiseMore
import HandS.AnyAll
import HandS.Conv
import HandS.More
import HandS.Small
import HandS.HeadHook3
import HandS.HeadHook4
import HandS.HeadWalk
import HandS.EndTab
import PyProof.GenCompT
import PyProof.TupleOfGen
import PyProof.WalksPairs
import KE.KTupSum
import KE.DataMinMax
import HandS.SortKw
import HandS.TupAny
import KE.KDictKeyed
import KE.SortData
import KE.KDictSum
import KE.KDictPairs
import HandS.Zip
import HandS.DictComp
import HandS.Property
import HandS.HeadNt
import PySem.Challenge.RW_meantrace_k75_claims_judged
set_option Elab.async false
set_option linter.all false
set_option maxRecDepth 100000
/-! Our own words over the hand layer: defs of the top by name, the draws' state, heaps that go on. -/
namespace Mt
open PySem PySem.Spec PyProof.Rows L2
section
variable {P : Program} {w : World} {K : PySem.W.Frag} {mg : Str → Option Value} {base : Heap}
abbrev FnP (K : PySem.W.Frag) (x : Str) (st : Stmt) (f : Addr) (fd : FuncData) : Prop := FunD K x x (defArgs st) (defBody st) (defScope st) [] [] f fd
/-- a def that keeps its promise -/
def Kept (P : Program) (w : World) (K : PySem.W.Frag) (mg : Str → Option Value) (base : Heap) (k : Nat) (x : Str) (ps : List Str) (sp : Sp) : Prop :=
  ∃ f fd, FnOk P w K mg base CX0 k f fd ps sp ∧ mg x = some (.ref f) ∧ PySem.W.keepIn K (.ref f) = true ∧ Binds K fd ps []
/-- what the head tells: facts by names, defs, one more word of one's own -/
abbrev AlM : Type := He.AlD × Bool
def obsM (n : Nat) (fa : List He.Fa) (fn : List He.DefD) (ex : PySem.W.Frag → Bool) (g : Addr → Option Obj) : AlM := (He.obsDG n fa fn g, ex (He.frG g (He.asD g n)))
def SaysM (fa : List He.Fa) (fn : List He.DefD) (ex : PySem.W.Frag → Bool) (K : PySem.W.Frag) : Prop := He.SaysD fa fn K ∧ ex K = true
def hookM (n : Nat) (fa : List He.Fa) (fn : List He.DefD) (ex : PySem.W.Frag → Bool) : PySem.W.Hook where
  α := AlM
  obs := fun s => obsM n fa fn ex s.heap.get?
  val := fun _ => (He.valD fn, true)
  says := fun _ h => ∃ K : PySem.W.Frag, K.In h ∧ SaysM fa fn ex K
  of := fun _ _ e => ⟨_, He.frG_in, congrArg (fun z : AlM => z.1) e, congrArg (fun z : AlM => z.2) e⟩
  keeps := fun _ _ _ ⟨K, hK, c⟩ k => ⟨K, PySem.W.Frag.In.keeps hK k, c⟩
theorem obsM_eq {n : Nat} {fa : List He.Fa} {fn : List He.DefD} {ex : PySem.W.Frag → Bool} {g : Addr → Option Obj} {s : Shared} (h : ∀ a, g a = s.heap.get? a) : obsM n fa fn ex g = (hookM n fa fn ex).obs s := by
  have e : g = s.heap.get? := funext h
  rw [e] <;> rfl
theorem kept_of {h : Heap} (X : K.In h) (G : h.Ns mainGlobals mg) {x : Str} {ps : List Str} {st : Stmt} {k : Nat} {sp : Sp}
    (hd : ∃ fd, FnP K x st (He.ga K x) fd) (hg : (He.Fa.glo x).ok K = true)
    (hb : ∀ (kV doc pm : Value) (an : Option Addr) (cdv ct : Value) (us : List Value), us.length = ps.length → bindArgs (PySem.W.fnOf x x (defArgs st) (defBody st) (defScope st) .none kV doc pm an cdv ct) ⟨us, []⟩ = pure (ps.zip us))
    (ok : ∀ f fd, FnP K x st f fd → FnOk P w K mg base CX0 k f fd ps sp) : Kept P w K mg base k x ps sp := by
  obtain ⟨fd, F⟩ := hd
  exact ⟨_, fd, ok _ fd F, He.glo_ok X G hg, F.kp, F.bindsN hb⟩
end
section
variable {X : Cx}
theorem pe_d {k : Nat} {x : Str} {ps : List Str} {sp : Sp} {e : Expr} {es : List Expr} {t : TA} {p pos : Pos} (D : Kept X.prog X.w X.K X.mg X.base k x ps sp) (hr : Room k X.A) (hg : Gl X x) (ha : PA X (e :: es) t)
    (hdb : (x == ("__debug__" : Str)) = false := by decide) (he : starEach (e :: es) X.env = (false, eval e X.env) :: starEach es X.env := by rfl) (hpl : (backTo pos (starEach es X.env)).any (·.1) = false := by rfl) :
    PE X (.Call (.Name x p) (e :: es) [] pos) (tCall sp [] E0 t) := by
  obtain ⟨f, fd, F, g, kp, b⟩ := D
  exact pe_call F hr hg g kp b .nil pass0 ha hdb he hpl
theorem pe_d0 {k : Nat} {x : Str} {ps : List Str} {sp : Sp} {p pos : Pos} (D : Kept X.prog X.w X.K X.mg X.base k x ps sp) (hr : Room k X.A) (hg : Gl X x) (hdb : (x == ("__debug__" : Str)) = false := by decide) :
    PE X (.Call (.Name x p) [] [] pos) (tCall sp [] E0 tNil) := by
  obtain ⟨f, fd, F, g, kp, b⟩ := D
  exact pe_call0 F hr hg g kp b .nil pass0 hdb
/-- a text of the module; an object of the module -/
theorem pe_gs {x z : Str} {pos : Pos} (h : ∃ t, X.mg x = some (.str z t)) (hg : Gl X x) (hd : (x == ("__debug__" : Str)) = false := by decide) : PE X (.Name x pos) (tC (.str z)) := by
  obtain ⟨t, h⟩ := h
  exact pe_glob hg h ⟨_, rfl⟩ hd
/-- xs[i] op= e reads xs[i] -/
theorem get_list : PGet X (rIxL X.K) := by
  intro pins s σ H o i ov iv Q I ro ri h
  obtain ⟨p, xs, i, z, rfl, rfl, hq, he, q⟩ := h
  cases ro
  obtain ⟨t, rfl⟩ := ri
  obtain ⟨its, r, pl, hz⟩ := I.list hq
  obtain ⟨j, h1, h2, h3, h4, h5⟩ := atI_get he
  obtain ⟨w, ew, rw'⟩ := r.get h2
  have hl := r.length
  have hn := line63
  have fin : EP X pins σ Q w s := ⟨z, H, I, rw', q⟩
  by_cases h0 : 0 ≤ i
  · have hj : i.toNat = j := by
      rw [seqIndex_of h0 h5] at h1
      exact Option.some.inj h1
    exact wpAny_mono (wpAny_getItem_list (Q := fun r s' => r = w ∧ EP X pins σ Q r s') pl.isList h0 (by omega) (by rw [hj]; simpa using ew) ⟨rfl, fin⟩) (fun _ _ q => q.2) (fun _ _ q => q)
  · have hj : (i + (its.toArray.size : Int)).toNat = j := by
      rw [seqIndex_neg (by omega) h4] at h1
      rw [List.size_toArray, ← hl]
      exact Option.some.inj h1
    exact wpAny_mono (wpAny_getItem_list_neg (Q := fun r s' => r = w ∧ EP X pins σ Q r s') pl.isList (by omega) (by rw [List.size_toArray] <;> omega) (by omega) (by rw [hj]; simpa using ew) ⟨rfl, fin⟩) (fun _ _ q => q.2) (fun _ _ q => q)
end

/-! ### the draws: [cells, place, rest, seed] at D -/
structure DrawAt (S D : Addr) (H : Hp) : Prop where
  ne : S ≠ D
  cells : ∃ cs : List Int, H S = some (.lst (cs.map V.int))
  at_ : ∃ i r c : Int, 0 ≤ i ∧ H D = some (.lst [.ref S, .int i, .int r, .int c])
/-- all else that is tracked stays -/
def Keep (D : Addr) (H H' : Hp) : Prop := ∀ b o, H b = some o → b ≠ D → H' b = some o
def Go (S D : Addr) (H H' : Hp) : Prop := DrawAt S D H' ∧ Keep D H H'
theorem Keep.refl {D : Addr} {H : Hp} : Keep D H H := fun _ _ h _ => h
theorem Keep.trans {D : Addr} {H H1 H2 : Hp} (a : Keep D H H1) (b : Keep D H1 H2) : Keep D H H2 := fun x o h n => b x o (a x o h n) n
theorem Go.trans {S D : Addr} {H H1 H2 : Hp} (a : Go S D H H1) (b : Go S D H1 H2) : Go S D H H2 := ⟨b.1, a.2.trans b.2⟩
theorem Keep.set {D : Addr} {H H' : Hp} {o : HO} (k : Keep D H H') : Keep D H (upd H' D o) := fun b u h n => by
  rw [upd_ne n]
  exact k b u h n
theorem DrawAt.set {S D : Addr} {H : Hp} (d : DrawAt S D H) {i r c : Int} (h : 0 ≤ i) : DrawAt S D (upd H D (.lst [.ref S, .int i, .int r, .int c])) :=
  ⟨d.ne, d.cells.imp fun cs h => by rw [upd_ne d.ne]; exact h, ⟨i, r, c, h, upd_same⟩⟩
theorem DrawAt.new {S D p : Addr} {H : Hp} {o : HO} (d : DrawAt S D H) (h : H p = none) : DrawAt S D (upd H p o) := by
  obtain ⟨cs, h1⟩ := d.cells
  obtain ⟨i, r, c, h0, h2⟩ := d.at_
  exact ⟨d.ne, ⟨cs, by rw [upd_ne (ne_of_none h1 h)]; exact h1⟩, ⟨i, r, c, h0, by rw [upd_ne (ne_of_none h2 h)]; exact h2⟩⟩
theorem Keep.new {D p : Addr} {H : Hp} {o : HO} (h : H p = none) : Keep D H (upd H p o) := fun b u e _ => by
  rw [upd_ne (ne_of_none e h)]
  exact e
theorem Go.new {S D p : Addr} {H : Hp} {o : HO} (d : DrawAt S D H) (h : H p = none) : Go S D H (upd H p o) := ⟨d.new h, Keep.new h⟩
theorem Go.same {S D : Addr} {H H' : Hp} (d : DrawAt S D H) (h : Same H H') : Go S D H H' := by
  obtain ⟨cs, h1⟩ := d.cells
  obtain ⟨i, r, c, h0, h2⟩ := d.at_
  exact ⟨⟨d.ne, ⟨cs, h _ _ h1⟩, ⟨i, r, c, h0, h _ _ h2⟩⟩, fun b o e _ => h b o e⟩
theorem Go.refl {S D : Addr} {H : Hp} (d : DrawAt S D H) : Go S D H H := ⟨d, Keep.refl⟩
/-- a fresh place stays fresh when looked at from behind -/
theorem DrawAt.free {S D p : Addr} {H : Hp} (d : DrawAt S D H) (h : H p = none) : p ≠ D ∧ p ≠ S := by
  obtain ⟨cs, h1⟩ := d.cells
  obtain ⟨i, r, c, h0, h2⟩ := d.at_
  exact ⟨(ne_of_none h2 h).symm, (ne_of_none h1 h).symm⟩
theorem Go.free {S D p : Addr} {H H' : Hp} (g : Go S D H H') (d : DrawAt S D H) (h : H' p = none) : H p = none := by
  cases q : H p with
  | none => rfl
  | some o =>
    by_cases e : p = D
    · exact absurd e (g.1.free h).1
    · rw [g.2 p o q e] at h
      cases h
def spDraw : Sp := fun vs H Q _ => ∃ (S D : Addr) (many : Int), vs = [.ref D, .int many] ∧ CDivW 0 many ∧ DrawAt S D H ∧ ∀ H' v, 0 ≤ v → v < many → Go S D H H' → Q (.int v) H'
end Mt
/-! ### {k: v for x in xs}, the keys tuples -/
namespace DCT
open PySem PySem.Spec PyProof.Rows L2
section
variable {X : Cx} {pins : List (Addr × Obj)} {σ : L2.St} {H H' : Hp} {s : Shared} {D : Addr} {y v : V} {u r : Value}
/-- a pair goes into the dict that a block fills -/
theorem put_in {E : Value → Shared → Prop} {Q : Unit → Shared → Prop} (room : X.A.units < cLine) (I : Inv X pins σ H s) (p : DPut H D y v H') (hy : RelV y u) (hv : RelV v r) (q : ∀ s2, Inv X pins σ H' s2 → Q () s2) : wpAny (model X.prog X.w) X.A (dictSet D u r) Q E s := by
  rcases p with ⟨kvs, k, hD, rfl, few, rfl⟩ | ⟨kvs, k, b, hD, rfl, hb, few, rfl⟩
  · exact d_dictSet I hD few hy hv q
  · obtain rfl : u = Value.ref b := hy
    obtain ⟨z, nosys, ps, rel, dd⟩ := dt_of I.hok hD
    have small : ps.length ≤ sizeLine := by
      rw [← Paired.length rel]
      exact z
    have small2 : (putK kvs k v).length ≤ sizeLine := by
      have := length_putK kvs k v
      omega
    refine wpAny_dictSet_heap (hsz := small) (show (tupleKind (mixKind X.prog X.w)).room X.A from room) (key_of I.hok hb) dd fun h2 dd2 same => q _ ?_
    obtain ⟨o, es, ep, ho, c1, c2, c3, _, c4⟩ := dd2
    refine d_write I (by rw [hD]; exact True.intro) same ⟨o, ho⟩ ⟨small2, nosys, _, (rel.put k hb hv).keeps fun c ys ec => ?_, o, es, ep, ho, c1, c2, c3, c4⟩
    rw [upd_ne (ne_of ec hD (fun z => nomatch z))]
    exact ec
end
section
variable {X : Cx}
/-- as tDc, without tests, keys of any form that DPut knows -/
def tDcT (wi : TI) (g : TG) (tk tv : TE) (vs : List Nat) : TE := fun σ H Q => wi σ H fun J H1 => ∀ D, H1 D = none →
  ∃ W : Nat → Nat → Hp → Prop, (∃ m, W 0 m (upd H1 D (.dT []))) ∧ ∀ i m H, W i m H →
    (J.stop i H ∧ Q (.ref D) H) ∨ (J.go i H ∧ ∃ Nx : Hp → Prop, (∀ H2, Nx H2 → ∃ m2, m2 < m ∧ W (i + 1) m2 H2) ∧
      ∀ x H2, J.yld i H x H2 → g x (wipe σ vs) H2 fun σ3 H3 => wipe σ3 vs = wipe σ vs ∧ tk σ3 H3 fun y H4 => tv σ3 H4 fun z H5 => ∃ H6, DPut H5 D y z H6 ∧ Nx H6)
abbrev BX (X : Cx) (scope : Scope) (q : Shared × Hp × Addr × List (Str × Addr) × List Addr) : Cx := X.blk q.1 q.2.1 scope (compEnvC scope q.2.2.2.1 q.2.2.1 X.env) q.2.2.2.2
theorem run_dcT {pins : List (Addr × Obj)} {σ : L2.St} {H : Hp} {s : Shared} {Q : VK} {kx vx tg iter : Expr} {scope : Scope} {own : List (Str × Nat)} {pos pos2 : Pos} {wi : TI} {g : TG} {tk tv : TE} {use : Option (Value → Sem Unit)} {Qf : Value → Shared → Prop}
    (calm : X.calm = true) (nd : X.N.Nodup) (I : Inv X pins σ H s) (hi : PI X tg iter wi) (ok : BlkOk X.N X.env.scope scope own) (room : X.A.units < cLine)
    (pg : ∀ q, PG (BX X scope q) tg g) (pk : ∀ q, PE (BX X scope q) kx tk) (pv : ∀ q, PE (BX X scope q) vx tv) (plain : ∀ x, foldedSetIterable iter X.env x = pure x) (h : tDcT wi g tk tv (own.map (·.2)) σ H Q)
    (done : ∀ D L s2 m H2, Inv X pins σ H2 s2 → Q (.ref D) H2 → s2.heap.Ns L m → FpOk X pins H2 L → compPost (model X.prog X.w) X.A X.xe use Qf (.ref D) L (.ok .next) s2) :
    wpAny (model X.prog X.w) X.A (comprehension (.DictComp kx vx [⟨tg, iter, [], 0⟩] scope pos) scope X.env pos2 newDict false (eval iter X.env) use) Qf X.xe s := by
  have lk : ∀ y ∈ scope.names, y.2 = .free → ∃ c, X.env.cells.lookup y.1 = some c := fun y hy e => (ok.free y hy e).elim (fun k => I.ok.has _ (.inl k)) (fun k => I.ok.has _ (.inr k))
  refine wpAny_comprehension_free (use := use) rfl plain (closure_ok lk) ok.kind (fun y hy e => by rw [ok.uniq y hy, e]) (thn (hi.run pins s σ H _ I h) fun _ s1 h1 => thn h1 fun _ s2 h2 => ?_)
  obtain ⟨it, fp, tn, J, H2, rfl, I2, T, st2, f2, fill⟩ := h2
  refine wpAny_newObj_type (newEnv_comp ?_)
  obtain ⟨W, ⟨m0, w0⟩, turn⟩ := fill _ (I2.hok.fresh (Nat.le_refl _))
  obtain ⟨D, eD⟩ : ∃ D, D = s2.heap.objs.size := ⟨_, rfl⟩
  obtain ⟨hp, ehp⟩ : ∃ hp, hp = s2.heap.push { cls := .type "dict", data := .dict #[] } := ⟨_, rfl⟩
  rw [← eD] at w0 turn ⊢
  rw [← ehp]
  -- the empty dict stands
  have old : ∀ b o, s2.heap.get? b = some o → hp.get? b = some o := fun b o e => by
    rw [ehp]
    exact Heap.get?_push_of_some _ e
  have big : hp.objs.size = D + 1 := by rw [ehp, Heap.size_push, eD]
  have I3 : Inv X pins σ (upd H2 D (.dT [])) { s2 with heap := hp } := by
    subst eD ehp
    exact I2.laid (t' := s2.toks) (fun b o e => Heap.get?_push_of_some _ e) (Nat.le_refl _) (dt_empty s2.heap I2.big)
  have low : ∀ b ∈ fp, b < D := fun b hb => by
    obtain ⟨o, e, _⟩ := T.obj _ _ st2 b hb
    rw [eD]
    exact Heap.lt_size e
  have f3 : ∀ b ∈ fp, FpOk X pins (upd H2 D (.dT [])) b ∧ b < ({ s2 with heap := hp } : Shared).heap.objs.size := fun b hb => by
    have lb := low b hb
    refine ⟨⟨?_, (f2 b hb).2⟩, ?_⟩
    · rw [upd_ne (Nat.ne_of_lt lb)]
      exact (f2 b hb).1
    · show b < hp.objs.size
      rw [big]
      exact Nat.lt_succ_of_lt lb
  have st3 : tn 0 hp := T.keep _ _ _ st2 fun b _ o e => old b o e
  obtain ⟨s3, es3⟩ : ∃ s3 : Shared, s3 = { s2 with heap := hp } := ⟨_, rfl⟩
  have eh3 : s3.heap = hp := by rw [es3]
  rw [← es3] at I3 f3
  obtain ⟨H3, eH3⟩ : ∃ H3, H3 = upd H2 D (.dT []) := ⟨_, rfl⟩
  rw [← eH3] at I3 f3 w0
  have gone : ∀ b ∈ fp, H3 b = none := fun b hb => (f3 b hb).1.1
  have I4 := block_start I3 ok nd f3
  obtain ⟨cl, ecl⟩ : ∃ cl, cl = cellsFrom (s3.heap.objs.size + 1) scope.names (cloFrom X.env.cells scope.names []) := ⟨_, rfl⟩
  have kg := pg (s3, H3, s3.heap.objs.size, cl, fp)
  have kk := pk (s3, H3, s3.heap.objs.size, cl, fp)
  have kv := pv (s3, H3, s3.heap.objs.size, cl, fp)
  rw [← ecl] at I4
  obtain ⟨ce, ece⟩ : ∃ ce, ce = compEnvC scope cl s3.heap.objs.size X.env := ⟨_, rfl⟩
  have ceL : ce.locals = s3.heap.objs.size := by rw [ece]; rfl
  obtain ⟨s4, es4⟩ : ∃ s4 : Shared, s4 = { s3 with heap := pushCells (hp.push { cls := .type "dict", data := .dict #[] }) scope.names } := ⟨_, rfl⟩
  obtain ⟨B, eB⟩ : ∃ B, B = X.blk s3 H3 scope ce fp := ⟨_, rfl⟩
  have kg : PG B tg g := by
    rw [eB, ece]
    exact kg
  have kk : PE B kx tk := by
    rw [eB, ece]
    exact kk
  have kv : PE B vx tv := by
    rw [eB, ece]
    exact kv
  have J4 : Inv B [] (wipe σ (own.map (·.2))) H3 s4 := by
    rw [eB, ece, es4]
    rw [← eh3]
    exact I4
  have tn4 : tn 0 s4.heap := T.keep _ _ _ st3 fun b _ o e => by
    rw [es4]
    exact pushCells_keeps _ _ _ _ (Heap.get?_push_of_some _ e)
  have back : ∀ (H5 : Hp) (s6 : Shared) (σ5 : L2.St), Inv B [] σ5 H5 s6 → Inv X pins σ H5 s6 ∧ ∃ m, s6.heap.Ns s3.heap.objs.size m ∧ FpOk X pins H5 s3.heap.objs.size := fun H5 s6 σ5 I6 => by
    subst eB
    have nC : H5 s3.heap.objs.size = none := by
      have z : H5 ce.locals = none := I6.free
      rwa [ceL] at z
    obtain ⟨m, hn, _⟩ := I6.loc
    have hn : s6.heap.Ns ce.locals m := hn
    rw [ceL] at hn
    exact ⟨I3.call' (ch := fp) I6.os I6.base I6.hok I6.bare fun b hb => ⟨(f3 b hb).1.2.2.2.1, (f3 b hb).1.2.1, (f3 b hb).1.2.2.2.2.1, (f3 b hb).1.2.2.2.2.2⟩, m, hn, I3.fpOk (Nat.le_refl _) nC⟩
  have go4 : codeAny (model X.prog X.w) X.A (.compLoop (.DictComp kx vx [⟨tg, iter, [], 0⟩] scope pos) 0 (.ref it) (.ref D) ce) (compPost (model X.prog X.w) X.A X.xe use Qf (.ref D) s3.heap.objs.size) s4 := by
    subst eB
    refine compLoop_anyD (fun n s' => ∃ i H', Inv (X.blk s3 H3 scope ce fp) [] (wipe σ (own.map (·.2))) H' s' ∧ tn i s'.heap ∧ (∀ b ∈ fp, H' b = none) ∧ W i n H') ?_ m0 ⟨0, H3, J4, tn4, gone, w0⟩
    rintro n s5 ⟨i, H5, I5, st5, n5, w5⟩
    have stay : ∀ {σ' : L2.St} {K' : Hp} {s' : Shared}, Inv (X.blk s3 H3 scope ce fp) [] σ' K' s' → (∀ b ∈ fp, K' b = none) → ∀ b ∈ fp, FpOk (X.blk s3 H3 scope ce fp) [] K' b := fun {σ' K' s'} I' hn b hb =>
      ⟨hn b hb, (I'.ok.exf b hb).1, I'.ok.exfs b hb, .inl hb, (I'.ok.exf b hb).2, fun p hp => by simp at hp⟩
    rcases turn i n H5 w5 with ⟨stop, qq⟩ | ⟨go, Nx, hNx, step⟩
    · refine thnF (T.done (X.blk s3 H3 scope ce fp) rfl rfl rfl calm i [] s5 _ H5 (fun _ _ => False) I5 (stay I5 n5) st5 stop) fun r s6 ⟨er, I6⟩ => ?_
      subst er
      obtain ⟨I7, m, hn, free⟩ := back _ _ _ I6
      exact done D _ s6 m H5 I7 qq hn free
    · refine thnF (T.item (X.blk s3 H3 scope ce fp) rfl rfl rfl calm i [] s5 _ H5 (fun _ _ => False) I5 (stay I5 n5) st5 go) fun r s6 ⟨u, er, h6⟩ => ?_
      subst er
      refine thnF h6 fun _ s7 ⟨x, H7, I7, r7, y7, st7, n7⟩ => ?_
      have P7 := I7.pinned (stay I7 n7) (T.obj _ _ st7)
      refine thnF (kg.run _ s7 _ H7 x u _ P7 r7 (step x H7 y7)) fun _ s8 ⟨σ8, H8, I8, hw8, q8⟩ => ?_
      simp only [List.forIn_nil]
      refine wpAny_pure ?_
      simp only [if_true]
      refine thnF (kk.run _ s8 σ8 H8 _ I8 q8) fun k9 s9 ⟨yk, H9, I9, r9, q9⟩ => ?_
      refine thnF (kv.run _ s9 σ8 H9 _ I9 q9) fun v10 s10 ⟨yv, H10, I10, r10, H11, put, nx⟩ => ?_
      refine put_in (X := X.blk s3 H3 scope ce fp) room I10 put r9 r10 fun s11 I11 => ?_
      obtain ⟨m2, lt, w2⟩ := hNx H11 nx
      have pinned : ∀ b ∈ fp, ∀ o, s7.heap.get? b = some o → s11.heap.get? b = some o ∧ H11 b = none := fun b hb o e => by
        have z := I11.pin (b, o) (List.mem_append_right _ (List.mem_append_right _ (mem_pinsAt hb e)))
        exact ⟨z.1, z.2.1⟩
      refine ⟨m2, lt, i + 1, H11, (I11.unpinned (pins := [])).weak (by rw [← hw8, wipe_length]) (fun j v e => ?_), T.keep _ _ _ st7 fun b hb o e => (pinned b hb o e).1, fun b hb => ?_, w2⟩
      · rw [← hw8] at e
        exact (wipe_some e).1
      · obtain ⟨o, e, _⟩ := T.obj _ _ st7 b hb
        exact (pinned b hb o e).2
  have fin := codeAny_compStart_dict go4 (T.self X.A 0 _ _ _ tn4 go4)
  subst es4 es3 ece ecl
  exact fin
theorem pe_dcT {kx vx tg iter : Expr} {scope : Scope} {own : List (Str × Nat)} {pos : Pos} {wi : TI} {g : TG} {tk tv : TE} (calm : X.calm = true) (nd : X.N.Nodup) (hi : PI X tg iter wi) (ok : BlkOk X.N X.env.scope scope own) (room : X.A.units < cLine)
    (pg : ∀ q, PG (BX X scope q) tg g) (pk : ∀ q, PE (BX X scope q) kx tk) (pv : ∀ q, PE (BX X scope q) vx tv) (plain : ∀ x, foldedSetIterable iter X.env x = pure x := by intro _; rfl) :
    PE X (.DictComp kx vx [⟨tg, iter, [], 0⟩] scope pos) (tDcT wi g tk tv (own.map (·.2))) := by
  refine ⟨fun pins s σ H Q I h => ?_⟩
  rw [arm_eval_DictComp]
  refine run_dcT calm nd I hi ok room pg pk pv plain h fun D L s2 m H2 I2 q hn free => ⟨m, hn, fun h2 sb => ?_⟩
  obtain ⟨c0, c1, c2, c3, c4, c5⟩ := free
  exact ⟨.ref D, H2, I2.turned (t' := s2.toks) (fun b o hb e => (sb.2 b hb).trans e) c0 c1 c3 c4 c5, rfl, q⟩
theorem swaps {kx vx : Expr} {gs : List Comprehension} {scope : Scope} {pos py : Pos} {y : Str} {l : Nat} {env : Env} (fn : env.scope.kind = .function) (loc : env.scope.names.lookup y = some .local) (line : (py.line == pos.line) = true)
    (no : (scope.names.any fun (n, k) => n == y && (k == .local || k == .cell)) = false) : swapsWith (.DictComp kx vx gs scope pos) (some (.Name y py)) l env = pure true := by
  have e1 : env.blockKind = .function := by
    unfold Env.blockKind
    rw [fn]
    rfl
  have e2 : env.kindOf y = some .local := loc
  unfold swapsWith
  simp only [e1, e2, no, Expr.pos, line]
  rfl
/-- name = {..}, a local -/
theorem ps_setDcT {i : Nat} {y : Str} {py : Pos} {kx vx tg iter : Expr} {scope : Scope} {own : List (Str × Nat)} {pos spos : Pos} {wi : TI} {g : TG} {tk tv : TE} (calm : X.calm = true) (nd : X.N.Nodup) (hy : X.N[i]? = some y) (loc : X.env.scope.names.lookup y = some .local)
    (sw : swapsWith (.DictComp kx vx [⟨tg, iter, [], 0⟩] scope pos) (some (.Name y py)) spos.line X.env = pure true) (hi : PI X tg iter wi) (ok : BlkOk X.N X.env.scope scope own) (room : X.A.units < cLine)
    (pg : ∀ q, PG (BX X scope q) tg g) (pk : ∀ q, PE (BX X scope q) kx tk) (pv : ∀ q, PE (BX X scope q) vx tv) (plain : ∀ x, foldedSetIterable iter X.env x = pure x := by intro _; rfl) :
    PS X (.Assign [.Name y py] (.DictComp kx vx [⟨tg, iter, [], 0⟩] scope pos) spos) (tAsg (tDcT wi g tk tv (own.map (·.2))) (gName i)) := by
  refine ⟨fun pins s σ H E I h => ?_⟩
  rw [exec_Assign_Name_used _ _ _ _ sw]
  refine wpAny_bind (wpAny_standAt (wpAny_bind ?_))
  have h : tDcT wi g tk tv (own.map (·.2)) σ H (fun x H1 => gName i x σ H1 E.nx) := h
  have r := run_dcT (use := some (assign (.Name y py) X.env)) (Qf := fun _ s2 => SP X pins E .next s2) (pos := pos) (pos2 := firstIterPos [⟨tg, iter, [], 0⟩] pos) calm nd I hi ok room pg pk pv plain h fun D L s2 m H2 I2 q hn free => by
    show wpAny _ _ (assign (.Name y py) X.env (.ref D)) _ _ _
    refine wpAny_assign_Name (store_ok2 (v := V.ref D) I2 nd hy (.inl loc) rfl (fun s3 I3 ⟨a, sb, ha⟩ => ?_) (.inr loc))
    obtain ⟨c0, c1, c2, c3, c4, c5⟩ := free
    have La : L ≠ a := ha.elim (fun z => by rw [z]; exact c1) (fun z e => c4 y a z e.symm)
    exact ⟨m, hn.sameBut sb La, fun h4 sb4 => ⟨_, H2, I3.turned (t' := s3.toks) (fun b o hb e => (sb4.2 b hb).trans e) c0 c1 c3 c4 c5, q⟩⟩
  exact wpAny_bind (thn r fun _ s2 hq => wpAny_pure (wpAny_pure hq))
end
end DCT
/-! ### sorted of tuples, any length; dict(pairs); tuple() with its object known -/
namespace SR
open PySem PySem.Spec PyProof.Rows L2
section
variable {prog : Program} {w : World} {A : Around} {s : Shared}
theorem sorts_single {v : Value} {as : List Addr} (r : Reads s.heap v (.tuple []) as) : PySem.W.SortsAt prog w A s (PySem.W.dataKind s.heap [.tuple []]) [v] := by
  have hal : PySem.W.AllAlike [PyData.tuple []] := fun d hd d' hd' => by
    rw [List.mem_singleton.mp hd, List.mem_singleton.mp hd']
    rfl
  refine ⟨fun u hu => ?_, tuples' true, fun E x y a b Q ha hb hq => ?_, fun h2 => absurd h2 (by simp)⟩
  · rw [List.mem_singleton.mp hu]
    exact ⟨_, PySem.W.dataKind_some hal List.mem_cons_self r⟩
  · obtain ⟨d, as1, hd, ra, rfl⟩ := PySem.W.dataKind_inv ha
    obtain ⟨d', as2, hd', rb, rfl⟩ := PySem.W.dataKind_inv hb
    rw [List.mem_singleton.mp hd] at ra hq
    rw [List.mem_singleton.mp hd'] at rb hq
    have hq' : Q (PySem.W.dataLt (.tuple []) (.tuple [])) s := hq
    rw [PySem.W.dataLt_tuple] at hq'
    cases ra with
    | @tuple l o xs n _ _ h1 h2 h3 h4 =>
      cases rb with
      | @tuple l' o' xs' n' _ _ k1 k2 k3 k4 =>
        have n1 : xs.toList = [] := by
          cases hx : xs.toList with
          | nil => rfl
          | cons z t => rw [hx] at h4; cases h4
        have n2 : xs'.toList = [] := by
          cases hx : xs'.toList with
          | nil => rfl
          | cons z t => rw [hx] at k4; cases k4
        refine PySem.W.kat_lt h1 h3 k1 k3 ?_
        rw [n1, n2]
        have e1 : xs.size = 0 := by rw [← Array.length_toList, n1]; rfl
        have e2 : xs'.size = 0 := by rw [← Array.length_toList, n2]; rfl
        show Q (decide (xs.size < xs'.size)) s
        rw [e1, e2]
        exact hq'
end
section
variable {X : Cx}
/-- what a list of tuples of data holds, when it can be sorted -/
def SrtOk (ds : List PyData) : Prop := PySem.W.AllAlike ds ∧ (PySem.W.Sortable ds ∨ ds = [.tuple []]) ∧ ∀ d ∈ ds, d.depth ≤ 8
def rSrt (K : PySem.W.Frag) : List V → Hp → VK → Prop := fun vs H Q => ∃ (a : Addr) (bs : List (V × PyData)), vs = [V.ref a] ∧ SqL K H a (bs.map (·.1)) ∧ (∀ b ∈ bs, Dp K H b.1 b.2) ∧ SrtOk (bs.map (·.2)) ∧
  ∀ (ys : List (V × PyData)) (p : Addr), ys.Perm bs → H p = none → Q (.ref p) (upd H p (.lst (ys.map (·.1))))
theorem each_vals {bs : List (V × PyData)} {us : List Value} (r : Vals (bs.map (·.1)) us) : PySem.W.EachIs (fun v (b : V × PyData) => RelV b.1 v) us bs := by
  induction bs generalizing us with
  | nil =>
    cases r
    exact .nil
  | cons b t ih =>
    cases r with
    | cons h r => exact .cons h (ih r)
theorem vals_each {bs : List (V × PyData)} {us : List Value} (e : PySem.W.EachIs (fun v (b : V × PyData) => RelV b.1 v) us bs) : Vals (bs.map (·.1)) us := by
  induction e with
  | nil => exact .nil
  | cons h t ih => exact .cons h ih
theorem each_reads {pins : List (Addr × Obj)} {σ : L2.St} {H : Hp} {s : Shared} (I : Inv X pins σ H s) {bs : List (V × PyData)} {us : List Value} (e : PySem.W.EachIs (fun v (b : V × PyData) => RelV b.1 v) us bs) (h : ∀ b ∈ bs, Dp X.K H b.1 b.2) :
    PySem.W.EachIs (fun v (b : V × PyData) => ∃ as, Reads s.heap v b.2 as) us bs := by
  induction e with
  | nil => exact .nil
  | @cons v b us bs r t ih => exact .cons (Dp.reads I b.2 b.1 v (h b List.mem_cons_self) r) (ih fun x hx => h x (List.mem_cons_of_mem _ hx))
theorem cr_srt (hu : X.A.units + 64 < cLine) : CallR X (.builtin "sorted") (rSrt X.K) := by
  intro pins s σ H vs us Q I r q
  obtain ⟨a, bs, rfl, hs, hd, ⟨hal, hk, hdep⟩, q⟩ := q
  rw [Vals.ref1 r]
  obtain ⟨its, rv, hl, hz⟩ := I.list hs
  rw [List.length_map] at hz
  have e := each_vals rv
  have er := each_reads I e hd
  have fin : ∀ out : List Value, out.length = bs.length → PySem.W.EachIs (fun v (b : V × PyData) => RelV b.1 v) out (bs.mergeSort (PySem.W.dataLe false (·.2))) → EP X pins σ Q (.ref (s.heap.objs.size + 1)) { s with heap := sortedAll s.heap its (List.toArray out) } := fun out ho1 ho2 => by
    obtain ⟨ep, he'⟩ := PyProof.Rows.sortedAll_at s.heap its out.toArray
    have hp : (bs.mergeSort (PySem.W.dataLe false (·.2))).Perm bs := List.mergeSort_perm _ _
    exact ⟨.ref _, upd H (s.heap.objs.size + 1) (.lst ((bs.mergeSort (PySem.W.dataLe false (·.2))).map (·.1))), I.laid (t' := s.toks) (fun _ _ => PyProof.Rows.sortedAll_old) (Nat.le_succ _)
      ⟨by rw [List.length_map, hp.length_eq]; exact hz, out, ep, vals_each ho2, he'⟩, rfl, q _ _ hp (I.hok.fresh (Nat.le_succ _))⟩
  rcases hk with hk | h1
  · exact PySem.W.sorted_data (bs := bs) (enc := (·.2)) (R := fun v b => RelV b.1 v) hl.isList e er hal hk hz (fun b hb => by
      have := hdep b.2 (List.mem_map.mpr ⟨b, hb, rfl⟩)
      omega) fin
  · have hlen : its.length = bs.length := e.length
    match its, bs, e, er, hlen, h1, fin, hl, hz with
    | [u], [b], e, er, _, h1, fin, hl, hz =>
      have hb : b.2 = .tuple [] := by
        have : [b.2] = [PyData.tuple []] := h1
        exact (List.cons.inj this).1
      obtain ⟨as, rd⟩ : ∃ as, Reads s.heap u (.tuple []) as := by
        cases er with
        | cons h _ =>
          rw [hb] at h
          exact h
      have rd' : Reads (PySem.W.sortingHeap (PySem.W.copyHeap s.heap [u]) (s.heap.objs.size + 1) [u]) u (.tuple []) as := PyProof.Rows.Reads.keeps (fun _ _ => PySem.W.sorting_copy_old) rd
      have er' : PySem.W.EachIs (fun v (b : V × PyData) => ∃ as, Reads (PySem.W.sortingHeap (PySem.W.copyHeap s.heap [u]) (s.heap.objs.size + 1) [u]) v b.2 as) [u] [b] := .cons ⟨as, by rw [hb]; exact rd'⟩ .nil
      refine PySem.W.sorted_vals (κ := PySem.W.dataKind (PySem.W.sortingHeap (PySem.W.copyHeap s.heap [u]) (s.heap.objs.size + 1) [u]) [.tuple []]) hl.isList (sorts_single (s := { s with heap := PySem.W.sortingHeap (PySem.W.copyHeap s.heap [u]) (s.heap.objs.size + 1) [u] }) rd') hz ?_
      refine fin _ (by rw [PySem.W.sortVals_length false rfl]; rfl) ?_
      have := PySem.W.sortVals_data (h' := PySem.W.sortingHeap (PySem.W.copyHeap s.heap [u]) (s.heap.objs.size + 1) [u]) false e er' hal
      rw [show List.map (fun x : V × PyData => x.2) [b] = [PyData.tuple []] from h1] at this
      exact this
    | [], [], _, _, _, h1, _, _, _ => exact absurd h1 (by simp)
    | [], _ :: _, _, _, hlen, _, _, _, _ => exact absurd hlen (by simp)
    | _ :: _, [], _, _, hlen, _, _, _, _ => exact absurd hlen (by simp)
    | [_], _ :: _ :: _, _, _, hlen, _, _, _, _ => exact absurd hlen (by simp)
    | _ :: _ :: _, [_], _, _, hlen, _, _, _, _ => exact absurd hlen (by simp)
    | _ :: _ :: _, _ :: _ :: _, _, _, _, h1, _, _, _ => exact absurd h1 (by simp)
/-- a tuple whose object is known, one without attributes of its own -/
def TupK (H : Hp) (a : Addr) (ys : List V) : Prop := ∃ o : Obj, H a = some (.frz o (.tup ys)) ∧ o.dict = none
theorem TupK.sqt {K : PySem.W.Frag} {H : Hp} {a : Addr} {ys : List V} (h : TupK H a ys) : SqT K H a ys := let ⟨o, h, _⟩ := h; .inl (.inr ⟨o, h⟩)
theorem cr_tupleK : CallR X (.type "tuple") (fun xs H Q => ∃ p ys, xs = [.ref p] ∧ SqL X.K H p ys ∧ ∀ l (o : Obj), H l = none → o.dict = none → Q (.ref l) (upd H l (.frz o (.tup ys)))) := by
  intro pins s σ H xs us Q I r h
  obtain ⟨p, ys, rfl, hq, q⟩ := h
  rw [Vals.ref1 r]
  obtain ⟨its, r', pl, hz⟩ := I.list hq
  have hlen := r'.length
  refine call_tuple_list pl.isList (fun h' kp => ?_) (by simp only [List.size_toArray] <;> omega)
  have I1 : Inv X pins σ H { s with heap := h' } := I.kept (t' := s.toks) kp
  have I2 : Inv X pins σ (upd H h'.objs.size (.frz { cls := .type "tuple", data := .seq its.toArray } (.tup ys))) { s with heap := h'.push { cls := .type "tuple", data := .seq its.toArray } } :=
    I1.laid (t' := s.toks) (fun b o e => Heap.get?_push_of_some _ e) (Nat.le_refl _) (show ObjOk X.prog X.w _ _ _ (.frz _ (.tup ys)) from ⟨Heap.get?_push_size _ rfl, hz, its, r', IsTup.new _ _⟩)
  exact ⟨.ref h'.objs.size, _, I2, rfl, q _ _ (I1.hok.fresh (Nat.le_refl _)) rfl⟩
def tTupK (t : TA) : TE := fun σ H Q => t σ H fun xs H1 => xs.length ≤ sizeLine ∧ ∀ p (o : Obj), H1 p = none → o.dict = none → Q (.ref p) (upd H1 p (.frz o (.tup xs)))
theorem pe_tupK {es : List Expr} {t : TA} {pos : Pos} {x1} (h : PA X es t) : PE X (.Tuple es x1 pos) (tTupK t) := by
  refine ⟨fun pins s σ H Q I hq => ?_⟩
  refine wpAny_Tuple_spliced (thn (h.run pos pins s σ H _ I hq) fun us s1 ⟨xs, H1, I1, r, z, q⟩ => ⟨by rw [← r.length]; exact z, ?_⟩)
  have hf : H1 s1.heap.objs.size = none := I1.hok.fresh (Nat.le_refl _)
  exact ⟨.ref s1.heap.objs.size, upd H1 s1.heap.objs.size (.frz { cls := .type "tuple", data := .seq us.toArray } (.tup xs)), I1.laid (t' := s1.toks) (fun b u e => Heap.get?_push_of_some _ e) (Nat.le_refl _)
    ⟨Heap.get?_push_size _ rfl, z, us, r, ⟨_, Heap.get?_push_size _ rfl, rfl, _, rfl⟩⟩, rfl, q _ _ hf rfl⟩
/-- dict(t): t a tuple of pairs of a text and an int -/
abbrev Ptr : Type := Addr × Str × Int
def rDictT (K : PySem.W.Frag) : List V → Hp → VK → Prop := fun vs H Q => ∃ (a : Addr) (ps : List Ptr), vs = [V.ref a] ∧ TupK H a (ps.map fun p => V.ref p.1) ∧ (∀ p ∈ ps, SqT K H p.1 [.str p.2.1, .int p.2.2]) ∧
  ∀ q, H q = none → Q (.ref q) (upd H q (.dK (mergeK [] (ps.map fun p => ((.inr p.2.1 : L2.Key), V.int p.2.2)))))
def PairV (h : Heap) (p : Ptr) (q : Value × Value) : Prop := PairAt h p.1 q.1 q.2 ∧ RelV (.str p.2.1) q.1 ∧ RelV (.int p.2.2) q.2
theorem pairs_ex {pins : List (Addr × Obj)} {σ : L2.St} {H : Hp} {s : Shared} (I : Inv X pins σ H s) : ∀ {ps : List Ptr}, (∀ p ∈ ps, SqT X.K H p.1 [.str p.2.1, .int p.2.2]) → ∃ qs : List (Value × Value), Paired (PairV s.heap) ps qs
  | [], _ => ⟨[], .nil⟩
  | p :: r, h => by
    obtain ⟨qs, hq⟩ := pairs_ex I (ps := r) fun x hx => h x (List.mem_cons_of_mem _ hx)
    obtain ⟨its, rv, pl, _⟩ := I.tuple (h p List.mem_cons_self)
    obtain ⟨u1, u2, rfl, r1, r2⟩ := Vals.two rv
    exact ⟨(u1, u2) :: qs, .cons ⟨.inl pl, r1, r2⟩ hq⟩
theorem cr_dictT (hcalm : X.calm = true) : CallR X (.type "dict") (rDictT X.K) := by
  intro pins s σ H vs us Q I r q
  obtain ⟨a, ps, rfl, ⟨o, ha, hod⟩, hp, q⟩ := q
  rw [Vals.ref1 r]
  obtain ⟨hoa, hz, its, rv, ⟨o', e1, e2, n, e3⟩⟩ := I.hok a _ ha
  rw [hoa] at e1
  cases e1
  obtain ⟨qs, hq⟩ := pairs_ex I hp
  have hl : ps.length = qs.length := Paired.length hq
  have hil := rv.length
  rw [List.length_map] at hil hz
  let Ts : Nat → Addr := fun j => (ps[j]?.map (·.1)).getD 0
  have hT : ∀ j p, ps[j]? = some p → Ts j = p.1 := fun j p e => by
    show (ps[j]?.map (·.1)).getD 0 = p.1
    rw [e]
    rfl
  have hitem : PairItems s.heap its.toArray Ts qs := by
    refine ⟨by rw [List.size_toArray]; omega, fun j k v e => ?_⟩
    have hj : j < ps.length := by
      have := (List.getElem?_eq_some_iff.mp e).1
      omega
    have ej : ps[j]? = some ps[j] := List.getElem?_eq_getElem hj
    obtain ⟨b, hb, h1, _, _⟩ := paired_get hq ej
    rw [e] at hb
    cases hb
    have em : (ps.map fun p => V.ref p.1)[j]? = some (V.ref ps[j].1) := by rw [List.getElem?_map, ej]; rfl
    obtain ⟨u, hu, ru⟩ := rv.get em
    cases ru
    exact ⟨by rw [List.getElem?_toArray, hT j _ ej]; exact hu, by rw [hT j _ ej]; exact h1⟩
  let kvs : List (L2.Key × Value) := (ps.zip qs).map fun z => (.inr z.1.2.1, z.2.2)
  have hkv : KV (ps.map fun p => ((.inr p.2.1 : L2.Key), V.int p.2.2)) kvs := by
    have go : ∀ {ps : List Ptr} {qs : List (Value × Value)}, Paired (PairV s.heap) ps qs → KV (ps.map fun p => ((.inr p.2.1 : L2.Key), V.int p.2.2)) ((ps.zip qs).map fun z => (.inr z.1.2.1, z.2.2)) := fun {ps qs} h => by
      induction h with
      | nil => exact .nil
      | cons h t ih => exact .cons ⟨rfl, h.2.2⟩ ih
    exact go hq
  have hhave : PairsHave (mixKind X.prog X.w) qs.length (PairRel qs) kvs := by
    refine ⟨by show ((ps.zip qs).map _).length = _; rw [List.length_map, List.length_zip]; omega, fun i key v e => ?_⟩
    have hj : i < ps.length := by
      have := (List.getElem?_eq_some_iff.mp e).1
      omega
    have ej : ps[i]? = some ps[i] := List.getElem?_eq_getElem hj
    obtain ⟨b, hb, _, h2, _⟩ := paired_get hq ej
    have e' : qs[i]? = some (key, v) := e
    rw [e'] at hb
    cases hb
    refine ⟨.inr ps[i].2.1, ?_, ?_⟩
    · show ((ps.zip qs).map _)[i]? = _
      rw [List.getElem?_map, show (ps.zip qs)[i]? = some (ps[i], (key, v)) from List.getElem?_zip_eq_some.mpr ⟨ej, e'⟩]
      rfl
    · obtain ⟨t, rfl⟩ := h2
      exact mixKind_str _ _ _ _
  refine call_dict_pairs (PairArg.tuple a its.toArray Ts qs) (I.ok.hd hcalm) ⟨⟨o, n, hoa, e2, hod, e3⟩, hitem⟩ hhave (by rw [← hl]; exact hz) fun h' tk hd' hk => ?_
  have hm : (s.heap.objs.size == sysModules) = false := beq_eq_false_iff_ne.mpr (Nat.ne_of_gt I.big)
  have rel := KV.merge hkv (.nil : KV [] [])
  exact ⟨.ref s.heap.objs.size, _, I.laid (t' := tk) (fun b u e => hk b u List.not_mem_nil e) (Nat.le_refl _) (dk_new (by
    have := length_mergeK (ps.map fun p => ((.inr p.2.1 : L2.Key), V.int p.2.2)) []
    rw [List.length_map] at this
    exact Nat.le_trans this (by show 0 + ps.length ≤ sizeLine; omega)) hm rel hd'), rfl, q _ (I.hok.fresh (Nat.le_refl _))⟩
end
end SR
namespace Mt
open PySem PySem.Spec PyProof.Rows L2
def topS (i : Nat) : Stmt := PySem.Challenge.pw_meantrace_k75_claims_judged.main.body.getD i (.Pass ⟨0, 0, 0, 0⟩)
abbrev s_branches_along : Stmt := topS 1
abbrev N_branches_along : List Str := ["rows", "state", "blocks", "found", "block", "fitting", "branch"]
theorem sc_branches_along : FnScope N_branches_along ["rows", "state", "blocks"] (defScope s_branches_along) := ⟨rfl, rfl, rfl, by decide +kernel, rfl, by decide +kernel, by decide +kernel⟩
abbrev s_place_behind : Stmt := topS 3
abbrev N_place_behind : List Str := ["watch", "place", "shown", "row", "mark", "to"]
theorem sc_place_behind : FnScope N_place_behind ["watch", "place", "shown"] (defScope s_place_behind) := ⟨rfl, rfl, rfl, by decide +kernel, rfl, by decide +kernel, by decide +kernel⟩
abbrev s_judge_holds : Stmt := topS 6
abbrev N_judge_holds : List Str := ["chain", "watch", "pairs", "known", "pair", "state", "place", "_", "shown", "target"]
theorem sc_judge_holds : FnScope N_judge_holds ["chain", "watch", "pairs"] (defScope s_judge_holds) := ⟨rfl, rfl, rfl, by decide +kernel, rfl, by decide +kernel, by decide +kernel⟩
abbrev s_judge_breaks : Stmt := topS 7
abbrev N_judge_breaks : List Str := ["chain", "watch", "blocks", "branches", "watcher", "branch"]
theorem sc_judge_breaks : FnScope N_judge_breaks ["chain", "watch", "blocks"] (defScope s_judge_breaks) := ⟨rfl, rfl, rfl, by decide +kernel, rfl, by decide +kernel, by decide +kernel⟩
abbrev s__law_begin : Stmt := topS 9
abbrev N__law_begin : List Str := ["script", "cell"]
theorem sc__law_begin : FnScope N__law_begin ["script"] (defScope s__law_begin) := ⟨rfl, rfl, rfl, by decide +kernel, rfl, by decide +kernel, by decide +kernel⟩
abbrev s__law_draw : Stmt := topS 10
abbrev N__law_draw : List Str := ["d", "many", "found", "size", "cell"]
theorem sc__law_draw : FnScope N__law_draw ["d", "many"] (defScope s__law_draw) := ⟨rfl, rfl, rfl, by decide +kernel, rfl, by decide +kernel, by decide +kernel⟩
abbrev s__law_pick : Stmt := topS 11
abbrev N__law_pick : List Str := ["d", "row"]
theorem sc__law_pick : FnScope N__law_pick ["d", "row"] (defScope s__law_pick) := ⟨rfl, rfl, rfl, by decide +kernel, rfl, by decide +kernel, by decide +kernel⟩
abbrev s__law_pop : Stmt := topS 12
abbrev N__law_pop : List Str := ["d", "row"]
theorem sc__law_pop : FnScope N__law_pop ["d", "row"] (defScope s__law_pop) := ⟨rfl, rfl, rfl, by decide +kernel, rfl, by decide +kernel, by decide +kernel⟩
abbrev s__law_rare : Stmt := topS 13
abbrev N__law_rare : List Str := ["d", "many"]
theorem sc__law_rare : FnScope N__law_rare ["d", "many"] (defScope s__law_rare) := ⟨rfl, rfl, rfl, by decide +kernel, rfl, by decide +kernel, by decide +kernel⟩
abbrev s__law_shuffled : Stmt := topS 14
abbrev N__law_shuffled : List Str := ["d", "row", "left", "found", "k"]
theorem sc__law_shuffled : FnScope N__law_shuffled ["d", "row"] (defScope s__law_shuffled) := ⟨rfl, rfl, rfl, by decide +kernel, rfl, by decide +kernel, by decide +kernel⟩
abbrev s__law_pool : Stmt := topS 15
abbrev N__law_pool : List Str := ["text"]
theorem sc__law_pool : FnScope N__law_pool [] (defScope s__law_pool) := ⟨rfl, rfl, rfl, by decide +kernel, rfl, by decide +kernel, by decide +kernel⟩
abbrev s__law_words : Stmt := topS 16
abbrev N__law_words : List Str := ["d", "base", "many", "words", "k", "at", "word", "digit"]
theorem sc__law_words : FnScope N__law_words ["d", "base", "many"] (defScope s__law_words) := ⟨rfl, rfl, rfl, by decide +kernel, rfl, by decide +kernel, by decide +kernel⟩
abbrev s__law_watch_step : Stmt := topS 17
abbrev N__law_watch_step : List Str := ["watch", "state", "shown", "mark", "to"]
theorem sc__law_watch_step : FnScope N__law_watch_step ["watch", "state", "shown"] (defScope s__law_watch_step) := ⟨rfl, rfl, rfl, by decide +kernel, rfl, by decide +kernel, by decide +kernel⟩
abbrev s__law_drawn_watch : Stmt := topS 18
abbrev N__law_drawn_watch : List Str := ["d", "marks", "many", "rows", "k", "left", "row", "most", "j", "share", "bad"]
theorem sc__law_drawn_watch : FnScope N__law_drawn_watch ["d", "marks", "many"] (defScope s__law_drawn_watch) := ⟨rfl, rfl, rfl, by decide +kernel, rfl, by decide +kernel, by decide +kernel⟩
abbrev s__law_some_watch : Stmt := topS 19
abbrev N__law_some_watch : List Str := ["d", "marks", "most", "way", "one", "other", "n", "steps", "k"]
theorem sc__law_some_watch : FnScope N__law_some_watch ["d", "marks", "most"] (defScope s__law_some_watch) := ⟨rfl, rfl, rfl, by decide +kernel, rfl, by decide +kernel, by decide +kernel⟩
abbrev s__law_ladder : Stmt := topS 20
abbrev N__law_ladder : List Str := ["d", "base", "states", "marks", "rows", "s", "words", "up", "row", "k", "shown", "there"]
theorem sc__law_ladder : FnScope N__law_ladder ["d", "base", "states", "marks"] (defScope s__law_ladder) := ⟨rfl, rfl, rfl, by decide +kernel, rfl, by decide +kernel, by decide +kernel⟩
abbrev s__law_wide_shown : Stmt := topS 21
abbrev N__law_wide_shown : List Str := ["d", "marks", "k"]
theorem sc__law_wide_shown : FnScope N__law_wide_shown ["d", "marks"] (defScope s__law_wide_shown) := ⟨rfl, rfl, rfl, by decide +kernel, rfl, by decide +kernel, by decide +kernel⟩
abbrev s__law_wide_chain : Stmt := topS 22
abbrev N__law_wide_chain : List Str := ["d", "base", "states", "marks", "rows", "s", "row", "word"]
theorem sc__law_wide_chain : FnScope N__law_wide_chain ["d", "base", "states", "marks"] (defScope s__law_wide_chain) := ⟨rfl, rfl, rfl, by decide +kernel, rfl, by decide +kernel, by decide +kernel⟩
abbrev s__law_some_chain : Stmt := topS 23
abbrev N__law_some_chain : List Str := ["d", "marks", "most", "base", "states"]
theorem sc__law_some_chain : FnScope N__law_some_chain ["d", "marks", "most"] (defScope s__law_some_chain) := ⟨rfl, rfl, rfl, by decide +kernel, rfl, by decide +kernel, by decide +kernel⟩
abbrev s__law_met_pairs : Stmt := topS 24
abbrev N__law_met_pairs : List Str := ["chain", "watch", "starts", "found", "known", "pair", "k", "state", "here", "digits", "shown", "there"]
theorem sc__law_met_pairs : FnScope N__law_met_pairs ["chain", "watch", "starts"] (defScope s__law_met_pairs) := ⟨rfl, rfl, rfl, by decide +kernel, rfl, by decide +kernel, by decide +kernel⟩
abbrev s__law_spared : Stmt := topS 25
abbrev N__law_spared : List Str := ["d", "chain", "watch", "met", "pair", "one"]
theorem sc__law_spared : FnScope N__law_spared ["d", "chain", "watch"] (defScope s__law_spared) := ⟨rfl, rfl, rfl, by decide +kernel, rfl, by decide +kernel, by decide +kernel⟩
abbrev s__law_is_bool : Stmt := topS 26
abbrev N__law_is_bool : List Str := ["told", "due"]
theorem sc__law_is_bool : FnScope N__law_is_bool ["told", "due"] (defScope s__law_is_bool) := ⟨rfl, rfl, rfl, by decide +kernel, rfl, by decide +kernel, by decide +kernel⟩
abbrev s__law_closed : Stmt := topS 27
abbrev N__law_closed : List Str := ["chain", "watch", "pairs", "known", "pair", "state", "here", "digits", "shown", "there"]
theorem sc__law_closed : FnScope N__law_closed ["chain", "watch", "pairs"] (defScope s__law_closed) := ⟨rfl, rfl, rfl, by decide +kernel, rfl, by decide +kernel, by decide +kernel⟩
abbrev s__law_broken_by : Stmt := topS 28
abbrev N__law_broken_by : List Str := ["chain", "watch", "blocks", "state", "here", "fell", "block", "found", "branch"]
theorem sc__law_broken_by : FnScope N__law_broken_by ["chain", "watch", "blocks"] (defScope s__law_broken_by) := ⟨rfl, rfl, rfl, by decide +kernel, rfl, by decide +kernel, by decide +kernel⟩
abbrev s__law_table : Stmt := topS 29
abbrev N__law_table : List Str := ["d", "chain", "watch", "many", "size", "drawn", "starts", "pairs", "s", "k", "way"]
theorem sc__law_table : FnScope N__law_table ["d", "chain", "watch"] (defScope s__law_table) := ⟨rfl, rfl, rfl, by decide +kernel, rfl, by decide +kernel, by decide +kernel⟩
abbrev s__law_blocks : Stmt := topS 30
abbrev N__law_blocks : List Str := ["d", "chain", "state", "blocks", "step", "digits", "shown", "way", "k", "word"]
theorem sc__law_blocks : FnScope N__law_blocks ["d", "chain"] (defScope s__law_blocks) := ⟨rfl, rfl, rfl, by decide +kernel, rfl, by decide +kernel, by decide +kernel⟩
abbrev s_law : Stmt := topS 31
abbrev N_law : List Str := ["script", "d", "names", "marks", "k", "chain", "watch", "tables", "rows", "turn"]
theorem sc_law : FnScope N_law ["script"] (defScope s_law) := ⟨rfl, rfl, rfl, by decide +kernel, rfl, by decide +kernel, by decide +kernel⟩
structure Txt (K : PySem.W.Frag) (mg : Str → Option Value) : Prop where
  b_int : mg "int" = none
  b_abs : mg "abs" = none
  b_len : mg "len" = none
  b_isinstance : mg "isinstance" = none
  b_bool : mg "bool" = none
  b_tuple : mg "tuple" = none
  b_list : mg "list" = none
  b_range : mg "range" = none
  b_sorted : mg "sorted" = none
  b_min : mg "min" = none
theorem upd_upd {H : Hp} {p : Addr} {a b : HO} : upd (upd H p a) p b = upd H p b := by
  funext x
  unfold upd
  split <;> rfl
theorem take_map_succ {α β : Type} {f : α → β} {l : List α} {i : Nat} {c : α} (h : l[i]? = some c) : (l.take i).map f ++ [f c] = (l.take (i + 1)).map f := by
  rw [List.take_add_one, h, List.map_append]
  rfl
theorem divW_of {n : Int} (h : 0 < n) (h2 : n < 2 ^ 64) : CDivW 0 n := wide_div h (b := 64) (by omega) (by decide) (by decide)
theorem getV {ns : List Int} {i : Nat} {x : V} (h : (ns.map V.int)[i]? = some x) : ∃ z, x = .int z ∧ ns[i]? = some z := by
  rw [List.getElem?_map] at h
  cases e : ns[i]? with
  | none =>
    rw [e] at h
    cases h
  | some z =>
    rw [e] at h
    exact ⟨z, (Option.some.inj h).symm, rfl⟩
def spBegin (K : PySem.W.Frag) : Sp := fun vs H Q _ => ∃ (a : Addr) (ns : List Int), vs = [.ref a] ∧ SqL K H a (ns.map V.int) ∧ ns.length ≤ 63 ∧ ∀ S D H', Same H H' → H D = none → DrawAt S D H' → Q (.ref D) H'
/-- a text or a list, what it holds -/
def Row (K : PySem.W.Frag) (H : Hp) (v : V) (xs : List V) : Prop := (∃ z : Str, v = .str z ∧ xs = z.cps.toList.map fun c => .str ⟨#[c]⟩) ∨ (∃ p, v = .ref p ∧ SqL K H p xs) ∨ ∃ p, v = .ref p ∧ SqT K H p xs
def spPick (K : PySem.W.Frag) : Sp := fun vs H Q _ => ∃ (S D : Addr) (r : V) (xs : List V), vs = [.ref D, r] ∧ DrawAt S D H ∧ (∀ H', Go S D H H' → Row K H' r xs) ∧ 0 < xs.length ∧ xs.length ≤ 100000 ∧ ∀ H' x, x ∈ xs → Go S D H H' → Q x H'

theorem same_new {H : Hp} {p : Addr} {o : HO} (h : H p = none) : Same H (upd H p o) := fun b x e => by
  rw [upd_ne (ne_of_none e h)]
  exact e
/-- a change at a place that H does not know -/
theorem same_mut {H H' : Hp} {p : Addr} {o : HO} (s : Same H H') (h : H p = none) : Same H (upd H' p o) := fun b u e => by
  rw [upd_ne (ne_of_none e h)]
  exact s b u e
theorem iteNT {A B : Prop} (h : B) : if (!true) = true then A else B := iteF h
theorem line5 {n : Nat} (h : n ≤ 100000) : n ≤ sizeLine := Nat.le_trans h (by decide)
theorem line6 {n : Nat} (h : n < 100000) : n < sizeLine := Nat.lt_of_lt_of_le h (by decide)
/-! ### data as it stands in the heap -/
def KeepT (H H' : Hp) : Prop := ∀ p xs, Rd H p (.tup xs) → Rd H' p (.tup xs)
theorem KeepT.of_same {H H' : Hp} (s : Same H H') : KeepT H H' := fun p xs h => by
  rcases h with h | ⟨o, h⟩
  · exact .inl (s _ _ h)
  · exact .inr ⟨o, s _ _ h⟩
theorem KeepT.trans {H H1 H2 : Hp} (a : KeepT H H1) (b : KeepT H1 H2) : KeepT H H2 := fun p xs h => b p xs (a p xs h)
mutual
def noL : PyData → Bool
  | .list _ => false
  | .dict _ => false
  | .tuple ds => noLs ds
  | _ => true
def noLs : List PyData → Bool
  | [] => true
  | d :: ds => noL d && noLs ds
end
theorem sqt_keep {K : PySem.W.Frag} {H H' : Hp} {a : Addr} {xs : List V} (k : KeepT H H') (h : SqT K H a xs) : SqT K H' a xs := by
  rcases h with h | h
  · exact .inl (k _ _ h)
  · exact .inr h
mutual
theorem dp_keep {K : PySem.W.Frag} {H H' : Hp} (k : KeepT H H') : ∀ (d : PyData) (v : V), noL d = true → Dp K H v d → Dp K H' v d
  | .none, _, _, h => by
    cases h
    exact .non
  | .bool b, _, _, h => by
    cases h
    exact .bl b
  | .int i, _, _, h => by
    cases h
    exact .int i
  | .str x, _, _, h => by
    cases h
    exact .str x
  | .list ds, _, n, _ => by
    have n2 : false = true := n
    cases n2
  | .dict ds, _, n, _ => by
    have n2 : false = true := n
    cases n2
  | .tuple ds, _, n, h => by
    cases h with
    | tup h1 h2 => exact .tup (sqt_keep k h1) (dpA_keep k ds _ n h2)
theorem dpA_keep {K : PySem.W.Frag} {H H' : Hp} (k : KeepT H H') : ∀ (ds : List PyData) (xs : List V), noLs ds = true → DpAll K H xs ds → DpAll K H' xs ds
  | [], _, _, h => by
    cases h
    exact .nil
  | d :: ds, _, n, h => by
    cases h with
    | cons h1 h2 =>
      have n2 : (noL d && noLs ds) = true := n
      rw [Bool.and_eq_true] at n2
      exact .cons (dp_keep k d _ n2.1 h1) (dpA_keep k ds _ n2.2 h2)
end
theorem dp_tup {K : PySem.W.Frag} {H : Hp} {v : V} {ds : List PyData} (h : Dp K H v (.tuple ds)) : ∃ a xs, v = .ref a ∧ SqT K H a xs ∧ DpAll K H xs ds := by
  cases h with
  | tup h1 h2 => exact ⟨_, _, rfl, h1, h2⟩
theorem dp_str {K : PySem.W.Frag} {H : Hp} {v : V} {z : Str} (h : Dp K H v (.str z)) : v = .str z := by
  cases h
  rfl
theorem dp_int {K : PySem.W.Frag} {H : Hp} {v : V} {z : Int} (h : Dp K H v (.int z)) : v = .int z := by
  cases h
  rfl
theorem dp_non {K : PySem.W.Frag} {H : Hp} {v : V} (h : Dp K H v .none) : v = .non := by
  cases h
  rfl
theorem dpA_nil {K : PySem.W.Frag} {H : Hp} {xs : List V} (h : DpAll K H xs []) : xs = [] := by
  cases h
  rfl
theorem dpA_cons {K : PySem.W.Frag} {H : Hp} {xs : List V} {d : PyData} {ds : List PyData} (h : DpAll K H xs (d :: ds)) : ∃ x r, xs = x :: r ∧ Dp K H x d ∧ DpAll K H r ds := by
  cases h with
  | cons h1 h2 => exact ⟨_, _, rfl, h1, h2⟩
theorem dpA_len {K : PySem.W.Frag} {H : Hp} : ∀ {ds : List PyData} {xs : List V}, DpAll K H xs ds → xs.length = ds.length
  | [], _, h => by rw [dpA_nil h]; rfl
  | d :: ds, _, h => by
    obtain ⟨x, r, rfl, _, h2⟩ := dpA_cons h
    rw [List.length_cons, List.length_cons, dpA_len h2]
theorem dpA_at {K : PySem.W.Frag} {H : Hp} : ∀ {ds : List PyData} {xs : List V} {i : Nat} {x : V}, DpAll K H xs ds → xs[i]? = some x → ∃ d, ds[i]? = some d ∧ Dp K H x d
  | [], _, i, x, h, e => by
    rw [dpA_nil h] at e
    simp at e
  | d :: ds, _, 0, x, h, e => by
    obtain ⟨y, r, rfl, h1, h2⟩ := dpA_cons h
    have e2 : y = x := Option.some.inj e
    subst e2
    exact ⟨d, rfl, h1⟩
  | d :: ds, _, i + 1, x, h, e => by
    obtain ⟨y, r, rfl, h1, h2⟩ := dpA_cons h
    obtain ⟨d', h3, h4⟩ := dpA_at (i := i) (x := x) h2 (by simpa using e)
    exact ⟨d', by simpa using h3, h4⟩
theorem noLs_map {α : Type} (f : α → PyData) : ∀ l : List α, (∀ x ∈ l, noL (f x) = true) → noLs (l.map f) = true
  | [], _ => rfl
  | x :: r, h => by
    show (noL (f x) && noLs (r.map f)) = true
    rw [h x List.mem_cons_self, noLs_map f r fun y hy => h y (List.mem_cons_of_mem _ hy)]
    rfl
theorem keepT_new {H : Hp} {L : Addr} {o : HO} (h : H L = none) : KeepT H (upd H L o) := KeepT.of_same (same_new h)
theorem ixT {X : Cx} {K : PySem.W.Frag} (h : X.K = K) : IxR X (rIxT K) := h ▸ ix_tup
theorem isiT {X : Cx} {K : PySem.W.Frag} (h : X.K = K) : CallR X (.builtin "isinstance") (rIsi K) := h ▸ call_isi
theorem map_at {α : Type} {f : α → PyData} {l : List α} {i : Nat} {d : PyData} (h : (l.map f)[i]? = some d) : ∃ x, l[i]? = some x ∧ f x = d := by
  rw [List.getElem?_map] at h
  cases e : l[i]? with
  | none =>
    rw [e] at h
    cases h
  | some x =>
    rw [e] at h
    exact ⟨x, rfl, Option.some.inj h⟩
theorem dpA_snoc {K : PySem.W.Frag} {H : Hp} : ∀ {ds : List PyData} {xs : List V} {x : V} {d : PyData}, DpAll K H xs ds → Dp K H x d → DpAll K H (xs ++ [x]) (ds ++ [d])
  | [], _, _, _, h, hx => by
    rw [dpA_nil h]
    exact .cons hx .nil
  | d0 :: ds, _, _, _, h, hx => by
    obtain ⟨y, r, rfl, h1, h2⟩ := dpA_cons h
    exact .cons h1 (dpA_snoc h2 hx)
theorem sqt_ty {K : PySem.W.Frag} {H : Hp} {a : Addr} {xs : List V} (h : SqT K H a xs) : TyX K H (.ref a) (.type "tuple") := by
  rcases h with (h | ⟨o, h⟩) | ⟨o, its, n, hk, hc, _⟩
  · exact .base (.tup h)
  · exact .fTuple h
  · exact .kTuple hk hc
theorem same_l {K : PySem.W.Frag} {H H' : Hp} {a : Addr} {xs : List V} (e : Same H H') (h : SqL K H a xs) : SqL K H' a xs := e.seq h
theorem same_t {K : PySem.W.Frag} {H H' : Hp} {a : Addr} {xs : List V} (e : Same H H') (h : SqT K H a xs) : SqT K H' a xs := by
  rcases h with (h | ⟨o, h⟩) | h
  · exact .inl (.inl (e _ _ h))
  · exact .inl (.inr ⟨o, e _ _ h⟩)
  · exact .inr h
theorem Paired.at {α β : Type} {R : α → β → Prop} : ∀ {xs : List α} {ys : List β} {i : Nat} {x : α}, Paired R xs ys → xs[i]? = some x → ∃ y, ys[i]? = some y ∧ R x y
  | _, _, _, _, .nil, e => by simp at e
  | _, _, 0, _, .cons r _, e => by
    have e : _ = _ := Option.some.inj e
    subst e
    exact ⟨_, rfl, r⟩
  | _, _, i + 1, x, .cons _ t, e => by
    obtain ⟨y, h1, h2⟩ := Paired.at (i := i) (x := x) t (by simpa using e)
    exact ⟨y, by simpa using h1, h2⟩
/-! ### promises -/
def spIsInt : Sp := fun vs H Q _ => ∃ i : Int, vs = [.int i] ∧ Q (.bl true) H
def spIsInts (K : PySem.W.Frag) : Sp := fun vs H Q _ => ∃ (p : Addr) (ns : List Int), vs = [.ref p] ∧ H p = some (.tup (ns.map V.int)) ∧ ns.length ≤ 100 ∧ ∀ H', Same H H' → Q (.bl true) H'
def spLaw (K : PySem.W.Frag) : Sp := fun vs H Q _ => ∃ (a : Addr) (ns : List Int), vs = [.ref a] ∧ SqL K H a (ns.map V.int) ∧ ns.length ≤ 63 ∧ ∀ H', Q (.bl true) H'
theorem all_true {α : Type} (l : List α) : (l.map fun _ => true).all id = true := by
  rw [List.all_map]
  exact List.all_eq_true.mpr fun _ _ => rfl
def NT (o : HO) : Prop := (∀ xs, o ≠ .tup xs) ∧ ∀ ob u, o ≠ .frz ob u
theorem nt_lst (l : List V) : NT (.lst l) := ⟨fun _ e => (nomatch e), fun _ _ e => (nomatch e)⟩
theorem nt_dk (l : List (Key × V)) : NT (.dK l) := ⟨fun _ e => (nomatch e), fun _ _ e => (nomatch e)⟩
theorem DrawAt.upd {S D L : Addr} {H : Hp} {o : HO} (d : DrawAt S D H) (n1 : L ≠ D) (n2 : L ≠ S) : DrawAt S D (upd H L o) := by
  obtain ⟨cs, h1⟩ := d.cells
  obtain ⟨i, r, c, h0, h2⟩ := d.at_
  exact ⟨d.ne, ⟨cs, by rw [upd_ne n2.symm]; exact h1⟩, ⟨i, r, c, h0, by rw [upd_ne n1.symm]; exact h2⟩⟩
/-- the draws, and one thing F that may change -/
structure StF (S D F : Addr) (H : Hp) : Prop where
  dr : DrawAt S D H
  nS : F ≠ S
  fl : ∃ o, H F = some o ∧ NT o
def GoL (S D F : Addr) (H H' : Hp) : Prop := StF S D F H' ∧ ∀ b o, H b = some o → b ≠ D → b ≠ F → H' b = some o
section
variable {S D F L p : Addr} {H H1 H2 H' : Hp} {o : HO} {K : PySem.W.Frag}
theorem StF.of_draw (d : DrawAt S D H) : StF S D D H := ⟨d, d.ne.symm, let ⟨_, _, _, _, h⟩ := d.at_; ⟨_, h, nt_lst _⟩⟩
theorem StF.free (st : StF S D F H) (h : H p = none) : p ≠ D ∧ p ≠ S ∧ p ≠ F := by
  obtain ⟨o, hF, _⟩ := st.fl
  exact ⟨(st.dr.free h).1, (st.dr.free h).2, (ne_of_none hF h).symm⟩
theorem GoL.refl (st : StF S D F H) : GoL S D F H H := ⟨st, fun _ _ h _ _ => h⟩
theorem GoL.trans (a : GoL S D F H H1) (b : GoL S D F H1 H2) : GoL S D F H H2 := ⟨b.1, fun x o h n m => b.2 x o (a.2 x o h n m) n m⟩
theorem GoL.of_go (st : StF S D F H) (g : Go S D H H') : GoL S D F H H' := by
  refine ⟨⟨g.1, st.nS, ?_⟩, fun b o h n _ => g.2 b o h n⟩
  obtain ⟨o, hF, nt⟩ := st.fl
  by_cases e : F = D
  · rw [e]
    obtain ⟨_, _, _, _, h⟩ := g.1.at_
    exact ⟨_, h, nt_lst _⟩
  · exact ⟨o, g.2 F _ hF e, nt⟩
theorem GoL.to_go (g : GoL S D D H H') : Go S D H H' := ⟨g.1.dr, fun b o h n => g.2 b o h n n⟩
theorem GoL.mut (st : StF S D F H) (g : GoL S D F H H') (h : H L = none) : GoL S D F H (upd H' L o) := by
  obtain ⟨n1, n2, n3⟩ := st.free h
  obtain ⟨u, hF, nt⟩ := g.1.fl
  exact ⟨⟨g.1.dr.upd n1 n2, st.nS, ⟨u, by rw [upd_ne n3.symm]; exact hF, nt⟩⟩, fun b v hb m1 m2 => by
    rw [upd_ne (ne_of_none hb h)]
    exact g.2 b v hb m1 m2⟩
theorem GoL.new (st : StF S D F H) (h : H p = none) : GoL S D F H (upd H p o) := GoL.mut st (GoL.refl st) h
theorem GoL.setF (nD : F ≠ D) (nt : NT o) (g : GoL S D F H H') : GoL S D F H (upd H' F o) :=
  ⟨⟨g.1.dr.upd nD g.1.nS, g.1.nS, ⟨o, upd_same, nt⟩⟩, fun b v hb m1 m2 => by
    rw [upd_ne m2]
    exact g.2 b v hb m1 m2⟩
theorem GoL.back (st : StF S D F H) (g : GoL S D F H H') (h : H' p = none) : H p = none := by
  cases q : H p with
  | none => rfl
  | some u =>
    obtain ⟨n1, n2, n3⟩ := g.1.free h
    rw [g.2 p u q n1 n3] at h
    cases h
theorem nt_not {xs : List V} (nt : NT o) (h : H p = some o) (r : Rd H L (.tup xs)) : L ≠ p := fun e => by
  subst e
  rcases r with r | ⟨ob, r⟩
  · rw [h] at r
    exact nt.1 _ (Option.some.inj r)
  · rw [h] at r
    exact nt.2 _ _ (Option.some.inj r)
theorem GoL.keepT (st : StF S D F H) (g : GoL S D F H H') : KeepT H H' := fun p xs r => by
  obtain ⟨_, _, _, _, hD⟩ := st.dr.at_
  obtain ⟨o, hF, nt⟩ := st.fl
  have n1 := nt_not (nt_lst _) hD r
  have n2 := nt_not nt hF r
  rcases r with r | ⟨o, r⟩
  · exact .inl (g.2 _ _ r n1 n2)
  · exact .inr ⟨o, g.2 _ _ r n1 n2⟩
theorem Go.keepT (d : DrawAt S D H) (g : Go S D H H') : KeepT H H' := GoL.keepT (StF.of_draw d) (GoL.of_go (StF.of_draw d) g)
theorem keepT_nt {o2 : HO} (nt : NT o2) (h : H L = some o2) : KeepT H (upd H L o) := fun p xs r => by
  have n := nt_not nt h r
  rcases r with r | ⟨o, r⟩
  · exact .inl (by rw [upd_ne n]; exact r)
  · exact .inr ⟨o, by rw [upd_ne n]; exact r⟩
theorem noLs_of {α : Type} {f : α → PyData} (h : ∀ a, noL (f a) = true) (l : List α) : noLs (l.map f) = true := noLs_map f l fun a _ => h a
end
/-- a list that is being filled -/
structure BL (K : PySem.W.Frag) (S D F L : Addr) (H0 H : Hp) {α : Type} (f : α → PyData) (as : List α) : Prop where
  g : GoL S D F H0 H
  l : ∃ zs, H L = some (.lst zs) ∧ DpAll K H zs (as.map f)
section
variable {S D F L : Addr} {H0 H H1 : Hp} {K : PySem.W.Frag} {α : Type} {f : α → PyData} {as : List α}
theorem BL.nil (st : StF S D F H0) (h : H0 L = none) : BL K S D F L H0 (upd H0 L (.lst [])) f [] := ⟨GoL.new st h, [], upd_same, .nil⟩
theorem BL.go (st : StF S D F H0) (hL : H0 L = none) (hn : ∀ a, noL (f a) = true) (b : BL K S D F L H0 H f as) (g : GoL S D F H H1) : BL K S D F L H0 H1 f as := by
  obtain ⟨zs, h1, h2⟩ := b.l
  obtain ⟨n1, n2, n3⟩ := st.free hL
  exact ⟨b.g.trans g, zs, g.2 _ _ h1 n1 n3, dpA_keep (GoL.keepT b.g.1 g) _ _ (noLs_of hn as) h2⟩
theorem BL.add (st : StF S D F H0) (hL : H0 L = none) (hn : ∀ a, noL (f a) = true) {a : α} {x : V} {zs : List V} (g : GoL S D F H0 H) (h1 : H L = some (.lst zs)) (h2 : DpAll K H zs (as.map f)) (hx : Dp K H x (f a)) :
    BL K S D F L H0 (upd H L (.lst (zs ++ [x]))) f (as ++ [a]) := by
  have k := keepT_nt (o := .lst (zs ++ [x])) (nt_lst _) h1
  refine ⟨GoL.mut st g hL, zs ++ [x], upd_same, ?_⟩
  rw [List.map_append]
  exact dpA_snoc (dpA_keep k _ _ (noLs_of hn as) h2) (dp_keep k _ _ (hn a) hx)
theorem BL.len (b : BL K S D F L H0 H f as) : ∃ zs, H L = some (.lst zs) ∧ DpAll K H zs (as.map f) ∧ zs.length = as.length := by
  obtain ⟨zs, h1, h2⟩ := b.l
  exact ⟨zs, h1, h2, by have := dpA_len h2; rw [List.length_map] at this; exact this⟩
theorem GoL.drop {H' : Hp} (g : GoL S D F H H') (h : H F = none) : Go S D H H' := ⟨g.1.dr, fun b o hb n => g.2 b o hb n (ne_of_none hb h)⟩
end
theorem snoc_str (l : List Str) (z : Str) : l.map V.str ++ [V.str z] = (l ++ [z]).map V.str := by
  rw [List.map_append]
  rfl
theorem int_noL (p : Int) : noL (.int p) = true := rfl
theorem str_noL (p : Str) : noL (.str p) = true := rfl
/-! ### promises of the small draws -/
def spPop : Sp := fun vs H Q _ => ∃ (S D p : Addr) (xs : List V), vs = [.ref D, .ref p] ∧ DrawAt S D H ∧ p ≠ D ∧ H p = some (.lst xs) ∧ 0 < xs.length ∧ xs.length ≤ 1000 ∧ ∀ (H1 : Hp) (j : Nat) (x : V), Go S D H H1 → xs[j]? = some x → Q x (upd H1 p (.lst (xs.eraseIdx j)))
def spRare : Sp := fun vs H Q _ => ∃ (S D : Addr) (m : Int), vs = [.ref D, .int m] ∧ 0 < m ∧ m < 1000 ∧ DrawAt S D H ∧ ∀ H' b, Go S D H H' → Q (.bl b) H'
def spShuf (K : PySem.W.Frag) : Sp := fun vs H Q _ => ∃ (S D p : Addr) (xs : List V), vs = [.ref D, .ref p] ∧ DrawAt S D H ∧ SqL K H p xs ∧ xs.length ≤ 1000 ∧
  ∀ (H' : Hp) (q : Addr) (ys : List V), Go S D H H' → H q = none → H' q = some (.lst ys) → ys.length = xs.length → (∀ y ∈ ys, y ∈ xs) → Q (.ref q) H'
abbrev PA : Str := "a b2 sum left r k0 carry z9z full tail n m8 aa busy cnt p t4 even2 ab1 head u v2 w lowest high mid "
abbrev PB : Str := "s t e f g h i j k x y q7 deep turn gate l5 next1 o c0 d two zz1 near far9 last ring2 "
abbrev PC : Str := "aaaaaaa8 b c1 top2 net3 row col7 v"
def POOL : List Str := Txt.split (PA ++ PB ++ PC) " "
theorem pool_len : POOL.length = 60 := by decide +kernel
def spPool : Sp := fun vs H Q _ => vs = [] ∧ ∀ p, H p = none → Q (.ref p) (upd H p (.lst (POOL.map V.str)))
section
variable {P : Program} {w : World} {K : PySem.W.Frag} {mg : Str → Option Value} {base : Heap}
theorem ok__law_draw (T : Txt K mg) {f : Addr} {fd : FuncData} (F : FnP K "_law_draw" s__law_draw f fd) : FnOk P w K mg base CX0 1 f fd ["d", "many"] spDraw := by
  refine F.ok sc__law_draw (fun vs H Q E h => ?_) (fun cdv A outer s H vs Q E hr h => ?_)
  · obtain ⟨S, D, m, rfl, _⟩ := h
    rfl
  · obtain ⟨S, D, m, rfl, hm, d, q⟩ := h
    obtain ⟨cs, hS⟩ := id d.cells
    obtain ⟨i, r, c, h0, hD⟩ := id d.at_
    have hm0 : 0 < m := hm.1
    refine ⟨_, PSs.nox (pss_cons (ps_if (pt_cmpR op_gt (pe_ix ix_list (pv 0) pe_int (fun _ _ => rfl)) pe_int (nomark _)) (pss_cons (ps_set (i := 2) sc__law_draw.nd rfl (Or.inl rfl) (pe_ix ix_list (pv 0) pe_int (fun _ _ => rfl)))
      (pss_cons (ps_asg (pe_op op_fdivW (pv 2) (pv 1)) (pg_sub (pv 0) pe_int set_list))
      (pss_one (ps_ret (pe_op op_mod (pe_callTy call_int1 (by rfl) T.b_int (by decide +kernel) (pa_cons (pv 2) pa_nil)) (pv 1)))))) pss_nil)
      (pss_cons (ps_set (i := 3) sc__law_draw.nd rfl (Or.inl rfl) pe_int)
      (Evl.pss_cut (ps_if (pt_cmpR op_lt (pe_ix ix_list (pv 0) pe_int (fun _ _ => rfl)) (pe_callB call_len (by rfl) T.b_len (by decide +kernel) (pa_cons (pe_ix ix_list (pv 0) pe_int (fun _ _ => rfl)) pa_nil)) (nomark _)) (pss_cons (ps_set (i := 4) sc__law_draw.nd rfl (Or.inl rfl) (pe_ix ix_list (pe_ix ix_list (pv 0) pe_int (fun _ _ => rfl)) (pe_ix ix_list (pv 0) pe_int (fun _ _ => rfl)) (fun _ _ => rfl)))
      (pss_one (ps_set (i := 3) sc__law_draw.nd rfl (Or.inl rfl) (pe_op op_add (pe_op op_mul pe_int (pe_callB call_abs (by rfl) T.b_abs (by decide +kernel) (pa_cons (pv 4) pa_nil))) (pe_callTy call_int1 (by rfl) T.b_int (by decide +kernel) (pa_cons (pe_cmpR op_lt (pv 4) pe_int (nomark _)) pa_nil)))))) pss_nil)
      (pss_cons (ps_augS (pv 0) pe_int get_list pe_int ip_add set_list)
      (pss_cons (ps_if (pt_cmpR op_ge (pv 3) (pe_op op_mul pe_int (pe_op op_pow pe_int pe_int)) (nomark _)) (pss_cons (ps_set (i := 2) sc__law_draw.nd rfl (Or.inl rfl) (pe_op op_mod (pe_callTy call_int1 (by rfl) T.b_int (by decide +kernel) (pa_cons (pe_op op_fdivW (pv 3) pe_int) pa_nil)) (pe_op op_shl pe_int pe_int)))
      (pss_cons (ps_asg (pe_op op_fdivW (pv 2) (pv 1)) (pg_sub (pv 0) pe_int set_list))
      (pss_one (ps_ret (pe_op op_mod (pe_callTy call_int1 (by rfl) T.b_int (by decide +kernel) (pa_cons (pv 2) pa_nil)) (pv 1)))))) pss_nil)
      (pss_cons (ps_asg (pe_op op_mod (pe_callTy call_int1 (by rfl) T.b_int (by decide +kernel) (pa_cons (pe_op op_add (pe_op op_add (pe_op op_add (pe_op op_mul (pe_ix ix_list (pv 0) pe_int (fun _ _ => rfl)) pe_int) (pe_op op_mul (pe_op op_mod (pe_callTy call_int1 (by rfl) T.b_int (by decide +kernel) (pa_cons (pv 3) pa_nil)) pe_int) pe_int)) (pe_op op_mul (pe_ix ix_list (pv 0) pe_int (fun _ _ => rfl)) pe_int)) pe_int) pa_nil)) pe_int) (pg_sub (pv 0) pe_int set_list))
      (pss_one (ps_ret (pe_op op_mod (pe_callTy call_int1 (by rfl) T.b_int (by decide +kernel) (pa_cons (pe_op op_fdivW (pe_ix ix_list (pv 0) pe_int (fun _ _ => rfl)) pe_int) pa_nil)) (pv 1)))))))))), ?_⟩
    refine ⟨_, rfl, D, _, _, _, rfl, rfl, SqL.of hD, atI_nat (j := 2) rfl, _, _, rfl, rfl, _, rfl, ?_⟩
    refine ite2 (fun e => ?_) (fun e => ?_)
    · refine ⟨_, rfl, D, _, _, _, rfl, rfl, SqL.of hD, atI_nat (j := 2) rfl, ?_⟩
      refine ⟨_, rfl, _, rfl, _, _, rfl, rfl, hm, _, rfl, D, _, _, 2, rfl, rfl, hD, rfl, ?_⟩
      refine ⟨_, rfl, .inl ⟨_, rfl, _, rfl, _, _, rfl, rfl, hm0, ?_⟩⟩
      refine q _ _ (Int.emod_nonneg _ (by omega)) (Int.emod_lt_of_pos _ hm0) ⟨d.set h0, Keep.refl.set⟩
    · refine ⟨fun σ' H' => ∃ (z : Int) (x : Option V), σ' = [some (.ref D), some (.int m), none, some (.int z), x] ∧ H' = H, ?_, ?_⟩
      · refine ⟨_, rfl, D, _, _, _, rfl, rfl, SqL.of hD, atI_nat (j := 1) rfl, ?_⟩
        refine ⟨_, rfl, D, _, _, _, rfl, rfl, SqL.of hD, atI_nat (j := 0) rfl, _, _, rfl, .inl ⟨_, SqL.of hS, rfl⟩, _, _, rfl, rfl, _, rfl, ?_⟩
        refine ite2 (fun e1 => ?_) (fun e1 => ?_)
        · have e2 : i < ((cs.map V.int).length : Int) := of_decide_eq_true e1
          have e3 : i.toNat < (cs.map V.int).length := by omega
          have e4 : i.toNat < cs.length := by rw [List.length_map] at e3; exact e3
          have e5 : (cs.map V.int)[i.toNat]? = some (.int cs[i.toNat]) := by
            rw [List.getElem?_map, List.getElem?_eq_getElem e4]
            rfl
          have e6 : atI (cs.map V.int) i = some (.int cs[i.toNat]) := by
            have := atI_nat (xs := cs.map V.int) e5
            rw [show ((i.toNat : Nat) : Int) = i by omega] at this
            exact this
          refine ⟨_, rfl, D, _, _, _, rfl, rfl, SqL.of hD, atI_nat (j := 0) rfl, ?_⟩
          refine ⟨_, rfl, D, _, _, _, rfl, rfl, SqL.of hD, atI_nat (j := 1) rfl, ?_⟩
          refine ⟨S, _, _, _, rfl, rfl, SqL.of hS, e6, ?_⟩
          refine ⟨_, rfl, _, rfl, _, _, rfl, rfl, .inl ⟨by decide, by decide⟩, ?_⟩
          refine ⟨_, rfl, _, _, rfl, rfl, .inr ⟨_, rfl, _, _, rfl, rfl, ?_⟩⟩
          exact ⟨_, _, rfl, rfl⟩
        · exact ⟨_, _, rfl, rfl⟩
      · rintro σ' H' ⟨z, x, rfl, rfl⟩
        refine ⟨_, rfl, D, _, _, _, rfl, rfl, SqL.of hD, atI_nat (j := 1) rfl, ?_⟩
        refine ⟨_, _, rfl, rfl, D, _, _, 1, rfl, rfl, hD, rfl, ?_⟩
        have hD1 : (upd H' D (.lst [.ref S, .int (i + 1), .int r, .int c])) D = some (.lst [.ref S, .int (i + 1), .int r, .int c]) := upd_same
        have d1 : DrawAt S D (upd H' D (.lst [.ref S, .int (i + 1), .int r, .int c])) := d.set (by omega)
        refine ⟨_, rfl, _, _, rfl, rfl, ⟨by decide, by decide, by decide⟩, _, _, rfl, rfl, .inl ⟨by decide, by decide⟩, _, _, rfl, rfl, _, rfl, ?_⟩
        refine ite2 (fun e1 => ?_) (fun e1 => ?_)
        · refine ⟨_, rfl, _, _, rfl, rfl, ⟨by decide, by decide⟩, .inl ⟨_, rfl, _, _, rfl, rfl, ⟨by decide, by decide, by decide⟩, ?_⟩⟩
          refine ⟨_, _, rfl, rfl, ?_, ?_⟩
          · show (0 : Int) < 1 * 2 ^ (6000 : Int).toNat
            exact Int.mul_pos (by decide) (Int.pow_pos (by decide))
          · refine ⟨_, rfl, _, rfl, _, _, rfl, rfl, hm, _, rfl, D, _, _, 2, rfl, rfl, hD1, rfl, ?_⟩
            refine ⟨_, rfl, .inl ⟨_, rfl, _, rfl, _, _, rfl, rfl, hm0, ?_⟩⟩
            exact q _ _ (Int.emod_nonneg _ (by omega)) (Int.emod_lt_of_pos _ hm0) ⟨d1.set (by omega), Keep.refl.set.set⟩
        · refine ⟨_, rfl, D, _, _, _, rfl, rfl, SqL.of hD1, atI_nat (j := 3) rfl, _, _, rfl, rfl, .inr ⟨by decide, by decide⟩, ?_⟩
          refine ⟨_, rfl, .inl ⟨_, rfl, _, _, rfl, rfl, (by show (0 : Int) < 2147483629; decide), _, _, rfl, rfl, .inr ⟨by decide, by decide⟩, _, _, rfl, rfl, ?_⟩⟩
          refine ⟨_, rfl, D, _, _, _, rfl, rfl, SqL.of hD1, atI_nat (j := 1) rfl, _, _, rfl, rfl, .inr ⟨by decide, by decide⟩, _, _, rfl, rfl, _, _, rfl, rfl, .inl ⟨_, rfl, ?_⟩⟩
          refine ⟨_, _, rfl, rfl, (by show (0 : Int) < 2147483647; decide), _, rfl, D, _, _, 3, rfl, rfl, hD1, rfl, ?_⟩
          refine ⟨_, rfl, D, _, _, _, rfl, rfl, SqL.of upd_same, atI_nat (j := 3) rfl, _, _, rfl, rfl, ⟨by decide, by decide⟩, ?_⟩
          refine .inl ⟨_, rfl, _, rfl, _, _, rfl, rfl, hm0, ?_⟩
          exact q _ _ (Int.emod_nonneg _ (by omega)) (Int.emod_lt_of_pos _ hm0) ⟨d1.set (by omega), Keep.refl.set.set⟩
theorem ok__law_begin (T : Txt K mg) {f : Addr} {fd : FuncData} (F : FnP K "_law_begin" s__law_begin f fd) : FnOk P w K mg base CX0 1 f fd ["script"] (spBegin K) := by
  refine F.ok sc__law_begin (fun vs H Q E h => ?_) (fun cdv A outer s H vs Q E hr h => ?_)
  · obtain ⟨a, ns, rfl, _⟩ := h
    rfl
  · obtain ⟨a, ns, rfl, hS, hlen, q⟩ := h
    refine ⟨_, PSs.nox (pss_one (ps_ret (pe_lst (pa_cons (pe_lc (own := [("cell", 1)]) (g := (gName 1)) (tt := tYes) rfl sc__law_begin.nd (pi_list (pv 0)) (blkOk_by (N := N__law_begin) (sc := defScope s__law_begin) (by decide +kernel)) (fun _ _ _ _ _ => (pg_name (i := 1) sc__law_begin.nd rfl (Or.inl rfl))) (fun _ _ _ _ _ => pts_nil) (fun _ _ _ _ _ => (pe_callTy call_int1 (by rfl) T.b_int (by decide +kernel) (pa_cons (pv 1) pa_nil)))) (pa_cons pe_int (pa_cons pe_int (pa_cons pe_int pa_nil))))))), ?_⟩
    refine ⟨_, rfl, a, rfl, ⟨_, hS⟩, fun L hL => lc_list (xs := ns.map V.int) (fun i H' => H' = upd H L (.lst ((ns.take i).map V.int))) rfl (fun i H' _ e => ?_) ?_ ?_⟩
    · subst e
      exact (show Same H _ from fun b o h => by rw [upd_ne (ne_of_none h hL)]; exact h).seq hS
    · rintro i x H1 hi rfl
      obtain ⟨z, rfl, hz⟩ := getV hi
      refine ⟨rfl, _, rfl, .inl ⟨_, rfl, _, upd_same, ?_, ?_⟩⟩
      · rw [List.length_map, List.length_take]
        exact Nat.lt_of_le_of_lt (Nat.min_le_right _ _) (small1000 (by omega))
      · rw [upd_upd, take_map_succ (f := V.int) hz]
    · rintro H' rfl
      refine ⟨by show 4 ≤ sizeLine; decide, fun D hD => ?_⟩
      have nLD : D ≠ L := fun e => by
        rw [e, upd_same] at hD
        cases hD
      have hD0 : H D = none := by
        rw [upd_ne nLD] at hD
        exact hD
      refine q L D _ (fun b o h => ?_) hD0 ⟨fun e => nLD e.symm, ⟨ns, ?_⟩, ⟨0, 0, 7, by decide, upd_same⟩⟩
      · rw [upd_ne (ne_of_none h hD0), upd_ne (ne_of_none h hL)]
        exact h
      · rw [upd_ne (fun e => nLD e.symm), upd_same]
        rw [List.take_of_length_le (by rw [List.length_map]; exact Nat.le_refl _)]
theorem ok__law_pick (T : Txt K mg) (D__law_draw : Kept P w K mg base 1 "_law_draw" ["d", "many"] spDraw) {f : Addr} {fd : FuncData} (F : FnP K "_law_pick" s__law_pick f fd) : FnOk P w K mg base CX0 2 f fd ["d", "row"] (spPick K) := by
  refine F.ok sc__law_pick (fun vs H Q E h => ?_) (fun cdv A outer s H vs Q E hr h => ?_)
  · obtain ⟨S, D, r, xs, rfl, _⟩ := h
    rfl
  · obtain ⟨S, D, r, xs, rfl, d, hR, h0, h1, q⟩ := h
    refine ⟨_, PSs.nox (pss_one (ps_ret (pe_ix ix_seq (pv 1) (pe_d D__law_draw (hr.mono (by decide)) (by rfl) (pa_cons (pv 0) (pa_cons (pe_callB call_len (by rfl) T.b_len (by decide +kernel) (pa_cons (pv 1) pa_nil)) pa_nil))) (fun _ _ => rfl)))), ?_⟩
    refine ⟨r, rfl, _, rfl, _, rfl, r, xs.length, rfl, ?_, ?_⟩
    · rcases hR H (Go.refl d) with ⟨z, rfl, rfl⟩ | ⟨p, rfl, hp⟩ | ⟨p, rfl, hp⟩
      · refine ⟨?_, by simp [Str.length]⟩
        rw [List.length_map] at h1
        have : z.length = z.cps.toList.length := by simp [Str.length]
        rw [this]
        exact Nat.le_trans h1 (by decide)
      · exact .inl ⟨_, hp, rfl⟩
      · exact .inr ⟨_, hp, rfl⟩
    · refine ⟨S, D, _, rfl, divW_of (by omega) (by omega), d, fun H' v hv0 hv1 g => ?_⟩
      have hv : v.toNat < xs.length := by omega
      have e : ((v.toNat : Nat) : Int) = v := by omega
      have ex : xs[v.toNat]? = some xs[v.toNat] := List.getElem?_eq_getElem hv
      have ea : atI xs v = some xs[v.toNat] := by
        have := atI_nat (xs := xs) ex
        rw [e] at this
        exact this
      rcases hR H' g with ⟨z, rfl, rfl⟩ | ⟨p, rfl, hp⟩ | ⟨p, rfl, hp⟩
      · refine .inr (.inr ⟨z, v, z.cps.toList[v.toNat]'(by rw [List.length_map] at hv; exact hv), rfl, rfl, ?_, ?_, ?_⟩)
        · rw [List.length_map] at h1
          have : z.length = z.cps.toList.length := by simp [Str.length]
          rw [this]
          exact Nat.le_trans h1 (by decide)
        · have := atI_nat (xs := z.cps.toList) (List.getElem?_eq_getElem (show v.toNat < z.cps.toList.length by rw [List.length_map] at hv; exact hv))
          rw [e] at this
          exact this
        · refine q H' _ ?_ g
          exact List.mem_map_of_mem (List.getElem_mem _)
      · exact .inl ⟨p, xs, v, _, rfl, rfl, hp, ea, q H' _ (List.getElem_mem _) g⟩
      · exact .inr (.inl ⟨p, xs, v, _, rfl, rfl, hp, ea, q H' _ (List.getElem_mem _) g⟩)
theorem ok__law_pop (T : Txt K mg) (D__law_draw : Kept P w K mg base 1 "_law_draw" ["d", "many"] spDraw) {f : Addr} {fd : FuncData} (F : FnP K "_law_pop" s__law_pop f fd) : FnOk P w K mg base CX0 2 f fd ["d", "row"] spPop := by
  refine F.ok sc__law_pop (fun vs H Q E h => ?_) (fun cdv A outer s H vs Q E hr h => ?_)
  · obtain ⟨S, D, p, xs, rfl, _⟩ := h
    rfl
  · obtain ⟨S, D, p, xs, rfl, d, nD, hp, h0, h1, q⟩ := h
    refine ⟨_, PSs.nox (pss_one (ps_ret (pe_bm PySem.F.plainAttrs_list PySem.F.slot_list_pop PySem.F.type_list_pop mt_popAt (pv 1) (pa_cons (pe_d D__law_draw (hr.mono (by decide)) (by rfl) (pa_cons (pv 0) (pa_cons (pe_callB call_len (by rfl) T.b_len (by decide +kernel) (pa_cons (pv 1) pa_nil)) pa_nil))) pa_nil)))), ?_⟩
    refine ⟨_, rfl, .inl ⟨rfl, _, SqL.of hp⟩, _, rfl, _, rfl, _, _, rfl, .inl ⟨_, SqL.of hp, rfl⟩, S, D, _, rfl, divW_of (by omega) (by omega), d, fun H1 v v0 v1 g => ?_⟩
    have hv : v.toNat < xs.length := by omega
    have ex : xs[v.toNat]? = some xs[v.toNat] := List.getElem?_eq_getElem hv
    refine ⟨p, xs, v, v.toNat, _, rfl, rfl, g.2 _ _ hp nD, by omega, by omega, ?_, ex, q H1 _ _ g ex⟩
    exact seqIndex_of v0 (by omega)
theorem ok__law_rare (T : Txt K mg) (D__law_draw : Kept P w K mg base 1 "_law_draw" ["d", "many"] spDraw) {f : Addr} {fd : FuncData} (F : FnP K "_law_rare" s__law_rare f fd) : FnOk P w K mg base CX0 2 f fd ["d", "many"] spRare := by
  refine F.ok sc__law_rare (fun vs H Q E h => ?_) (fun cdv A outer s H vs Q E hr h => ?_)
  · obtain ⟨S, D, m, rfl, _⟩ := h
    rfl
  · obtain ⟨S, D, m, rfl, m0, m1, d, q⟩ := h
    refine ⟨_, PSs.nox (pss_one (ps_ret (pe_cmpR op_eq (pe_d D__law_draw (hr.mono (by decide)) (by rfl) (pa_cons (pv 0) (pa_cons (pv 1) pa_nil))) (pe_op op_fdivW (pv 1) pe_int) (nomark _)))), ?_⟩
    exact ⟨_, rfl, _, rfl, S, D, m, rfl, divW_of m0 (by omega), d, fun H1 v _ _ g => ⟨_, rfl, _, _, rfl, rfl, ⟨by decide, by decide⟩, rfl, q H1 _ g⟩⟩
theorem ok__law_pool (T : Txt K mg) {f : Addr} {fd : FuncData} (F : FnP K "_law_pool" s__law_pool f fd) : FnOk P w K mg base CX0 1 f fd [] spPool := by
  refine F.ok sc__law_pool (fun vs H Q E h => ?_) (fun cdv A outer s H vs Q E hr h => ?_)
  · obtain ⟨rfl, _⟩ := h
    rfl
  · obtain ⟨rfl, q⟩ := h
    refine ⟨_, PSs.nox (pss_cons (ps_set (i := 0) sc__law_pool.nd rfl (Or.inl rfl) pe_str)
      (pss_cons (ps_set (i := 0) sc__law_pool.nd rfl (Or.inl rfl) (pe_op op_add_str (pv 0) pe_str))
      (pss_one (ps_ret (pe_split (pe_op op_add_str (pv 0) pe_str) pe_str))))), ?_⟩
    exact ⟨_, rfl, _, _, rfl, rfl, by decide +kernel, _, rfl, _, _, rfl, rfl, by decide +kernel, ⟨_, rfl⟩, _, _, rfl, rfl, by decide +kernel, by decide +kernel, fun p hp => q p hp⟩
end
end Mt

namespace Mt
open PySem PySem.Spec PyProof.Rows L2
theorem ixL {X : Cx} {K : PySem.W.Frag} (h : X.K = K) : IxR X (rIxL K) := h ▸ ix_list
theorem tupOfT {X : Cx} {K : PySem.W.Frag} (h : X.K = K) : CallR X (.type "tuple") (fun xs H Q => ∃ p ys, xs = [.ref p] ∧ ((SqL K H p ys ∧ ∀ l, H l = none → Q (.ref l) (upd H l (.tup ys))) ∨ (SqT K H p ys ∧ Q (.ref p) H))) := h ▸ call_tuple_of
theorem catA {X : Cx} {K : PySem.W.Frag} (h : X.K = K) : OpR X (binaryOp .Add) (rCatA K) := h ▸ op_catA
theorem srtK {X : Cx} {K : PySem.W.Frag} (h : X.K = K) (hu : X.A.units + 64 < cLine) : CallR X (.builtin "sorted") (SR.rSrt K) := h ▸ SR.cr_srt hu
theorem goU {S D L : Addr} {H0 H : Hp} {o : HO} (L0 : H0 L = none) (d0 : DrawAt S D H0) (g : Go S D H0 H) : Go S D H0 (upd H L o) := by
  obtain ⟨LD, LS⟩ := d0.free L0
  obtain ⟨cs, hc⟩ := g.1.cells
  obtain ⟨j, r, c, j0, hD⟩ := g.1.at_
  refine ⟨⟨g.1.ne, ⟨cs, ?_⟩, ⟨j, r, c, j0, ?_⟩⟩, fun b o h n => ?_⟩
  · rw [upd_ne LS.symm]
    exact hc
  · rw [upd_ne LD.symm]
    exact hD
  · rw [upd_ne (ne_of_none h L0)]
    exact g.2 b o h n
theorem catA_mono {K : PySem.W.Frag} {x y : V} {H : Hp} {Q Q' : VK} (h : rCatA K x y H Q) (m : ∀ x H, Q x H → Q' x H) : rCatA K x y H Q' := by
  obtain ⟨a, b, xs, ys, e1, e2, h1, h2, h3, q0, q1, q2⟩ := h
  exact ⟨a, b, xs, ys, e1, e2, h1, h2, h3, fun e => m _ _ (q0 e), fun e1 e2 => m _ _ (q1 e1 e2), fun e1 e2 p hp => m _ _ (q2 e1 e2 p hp)⟩
/-! ### words and chains -/
def dI (l : List Int) : PyData := .tuple (l.map .int)
def dSh (ss : List Str) : PyData := .tuple (ss.map .str)
abbrev Br : Type := List Int × List Str × Nat
def dBr (b : Br) : PyData := .tuple [dI b.1, dSh b.2.1, .int b.2.2]
def dRw (r : List Br) : PyData := .tuple (r.map dBr)
abbrev Chn : Type := List (List Br)
def dChn (base : Int) (C : Chn) : PyData := .tuple [.str "chain", .int base, .tuple (C.map dRw)]
theorem dI_noL (l : List Int) : noL (dI l) = true := noLs_map _ _ fun _ _ => rfl
theorem dSh_noL (l : List Str) : noL (dSh l) = true := noLs_map _ _ fun _ _ => rfl
theorem dBr_noL (b : Br) : noL (dBr b) = true := by
  show (noL (dI b.1) && (noL (dSh b.2.1) && (true && true))) = true
  rw [dI_noL, dSh_noL]
  rfl
theorem dRw_noL (r : List Br) : noL (dRw r) = true := noLs_map _ _ fun b _ => dBr_noL b
theorem dChn_noL (base : Int) (C : Chn) : noL (dChn base C) = true := by
  show (true && (true && (noLs (C.map dRw) && true))) = true
  rw [noLs_map _ _ fun r _ => dRw_noL r]
  rfl
theorem noLs_I (ws : List (List Int)) : noLs (ws.map dI) = true := noLs_map _ _ fun w _ => dI_noL w
section
variable {K : PySem.W.Frag} {H H' : Hp} {v : V}
theorem dp_strs : ∀ {ss : List Str} {xs : List V}, DpAll K H xs (ss.map .str) → xs = ss.map V.str
  | [], _, h => dpA_nil h
  | s :: r, _, h => by
    obtain ⟨x, t, rfl, h1, h2⟩ := dpA_cons h
    rw [dp_str h1, dp_strs h2]
    rfl
theorem strs_dp : ∀ ss : List Str, DpAll K H (ss.map V.str) (ss.map .str)
  | [] => .nil
  | s :: r => .cons (.str s) (strs_dp r)
theorem dp_ints : ∀ {ss : List Int} {xs : List V}, DpAll K H xs (ss.map .int) → xs = ss.map V.int
  | [], _, h => dpA_nil h
  | s :: r, _, h => by
    obtain ⟨x, t, rfl, h1, h2⟩ := dpA_cons h
    rw [dp_int h1, dp_ints h2]
    rfl
theorem ints_dp : ∀ ss : List Int, DpAll K H (ss.map V.int) (ss.map .int)
  | [] => .nil
  | s :: r => .cons (.int s) (ints_dp r)
theorem sh_of {p : Addr} {ss : List Str} (h : SqT K H p (ss.map V.str)) : Dp K H (.ref p) (dSh ss) := .tup h (strs_dp ss)
theorem sh_at {ss : List Str} (h : Dp K H v (dSh ss)) : ∃ p, v = .ref p ∧ SqT K H p (ss.map V.str) := by
  obtain ⟨p, xs, rfl, h1, h2⟩ := dp_tup h
  rw [dp_strs h2] at h1
  exact ⟨p, rfl, h1⟩
theorem i_of {p : Addr} {ss : List Int} (h : SqT K H p (ss.map V.int)) : Dp K H (.ref p) (dI ss) := .tup h (ints_dp ss)
theorem i_at {ss : List Int} (h : Dp K H v (dI ss)) : ∃ p, v = .ref p ∧ SqT K H p (ss.map V.int) := by
  obtain ⟨p, xs, rfl, h1, h2⟩ := dp_tup h
  rw [dp_ints h2] at h1
  exact ⟨p, rfl, h1⟩
theorem br_at {b : Br} (h : Dp K H v (dBr b)) : ∃ p x0 x1, v = .ref p ∧ SqT K H p [x0, x1, .int b.2.2] ∧ Dp K H x0 (dI b.1) ∧ Dp K H x1 (dSh b.2.1) := by
  obtain ⟨p, xs, rfl, h1, hA⟩ := dp_tup h
  obtain ⟨x0, r0, rfl, h0, hA⟩ := dpA_cons hA
  obtain ⟨x1, r1, rfl, h2, hA⟩ := dpA_cons hA
  obtain ⟨x2, r2, rfl, h3, hA⟩ := dpA_cons hA
  cases dpA_nil hA
  rw [dp_int h3] at h1
  exact ⟨p, x0, x1, rfl, h1, h0, h2⟩
theorem chn_at {base : Int} {C : Chn} (h : Dp K H v (dChn base C)) : ∃ p q xs, v = .ref p ∧ SqT K H p [.str "chain", .int base, .ref q] ∧ SqT K H q xs ∧ DpAll K H xs (C.map dRw) := by
  obtain ⟨p, xs, rfl, h1, hA⟩ := dp_tup h
  obtain ⟨x0, r0, rfl, h0, hA⟩ := dpA_cons hA
  obtain ⟨x1, r1, rfl, h2, hA⟩ := dpA_cons hA
  obtain ⟨x2, r2, rfl, h3, hA⟩ := dpA_cons hA
  cases dpA_nil hA
  rw [dp_str h0, dp_int h2] at h1
  obtain ⟨q, ys, rfl, h4, h5⟩ := dp_tup h3
  exact ⟨p, q, ys, rfl, h1, h4, h5⟩
theorem dpA_get {α : Type} {f : α → PyData} {l : List α} {xs : List V} {i : Nat} {a : α} (h : DpAll K H xs (l.map f)) (e : l[i]? = some a) : ∃ x, xs[i]? = some x ∧ Dp K H x (f a) := by
  have hl := dpA_len h
  rw [List.length_map] at hl
  have hi : i < l.length := (List.getElem?_eq_some_iff.mp e).1
  obtain ⟨x, hx⟩ : ∃ x, xs[i]? = some x := ⟨xs[i]'(by omega), List.getElem?_eq_getElem _⟩
  obtain ⟨d, h1, h2⟩ := dpA_at h hx
  rw [List.getElem?_map, e] at h1
  obtain rfl : f a = d := Option.some.inj h1
  exact ⟨x, hx, h2⟩
theorem dpA_mem {α : Type} {f : α → PyData} {l : List α} {xs : List V} {i : Nat} {x : V} (h : DpAll K H xs (l.map f)) (e : xs[i]? = some x) : ∃ a, l[i]? = some a ∧ Dp K H x (f a) := by
  obtain ⟨d, h1, h2⟩ := dpA_at h e
  obtain ⟨a, h3, rfl⟩ := map_at h1
  exact ⟨a, h3, h2⟩
theorem dpA_app : ∀ {ds es : List PyData} {xs ys : List V}, DpAll K H xs ds → DpAll K H ys es → DpAll K H (xs ++ ys) (ds ++ es)
  | [], _, _, _, h, h' => by
    rw [dpA_nil h]
    exact h'
  | d :: ds, _, _, _, h, h' => by
    obtain ⟨x, r, rfl, h1, h2⟩ := dpA_cons h
    exact .cons h1 (dpA_app h2 h')
theorem dpA_erase : ∀ {ds : List PyData} {xs : List V} (i : Nat), DpAll K H xs ds → DpAll K H (xs.eraseIdx i) (ds.eraseIdx i)
  | [], _, _, h => by
    rw [dpA_nil h]
    exact .nil
  | d :: ds, _, 0, h => by
    obtain ⟨x, r, rfl, h1, h2⟩ := dpA_cons h
    exact h2
  | d :: ds, _, i + 1, h => by
    obtain ⟨x, r, rfl, h1, h2⟩ := dpA_cons h
    exact .cons h1 (dpA_erase i h2)
end
def NP (a b : List Int) : Prop := ¬ a <+: b ∧ ¬ b <+: a
theorem NP.symm {a b : List Int} (h : NP a b) : NP b a := ⟨h.2, h.1⟩
theorem erase_perm {α : Type} : ∀ {l : List α} {i : Nat} {z : α}, l[i]? = some z → (z :: l.eraseIdx i).Perm l
  | [], i, _, h => by simp at h
  | x :: r, 0, z, h => by
    have : x = z := Option.some.inj h
    subst this
    exact .refl _
  | x :: r, i + 1, z, h => by
    have h' : r[i]? = some z := by simpa using h
    exact (List.Perm.swap x z _).trans ((erase_perm h').cons x)
theorem np_erase {l : List (List Int)} {i : Nat} {w u : List Int} (p : l.Pairwise NP) (h : l[i]? = some w) (hu : u ∈ l.eraseIdx i) : NP w u := by
  have q := ((erase_perm h).pairwise_iff fun {_ _} => NP.symm).mpr p
  exact (List.pairwise_cons.mp q).1 u hu
theorem np_snoc {u w : List Int} {x : Int} (h : NP w u) : NP u (w ++ [x]) := by
  refine ⟨fun k => ?_, fun k => h.1 ((List.prefix_append w [x]).trans k)⟩
  obtain ⟨t, ht⟩ := k
  rcases List.eq_nil_or_concat t with e | ⟨t', y, e⟩
  · subst e
    rw [List.append_nil] at ht
    rw [ht] at h
    exact h.1 (List.prefix_append w [x])
  · subst e
    rw [List.concat_eq_append, ← List.append_assoc] at ht
    have := (List.append_inj' ht rfl).1
    exact h.2 ⟨t', this⟩
/-- every tape that is long enough begins with one of them -/
structure Cmpl (base : Int) (ws : List (List Int)) : Prop where
  all : ∀ t : List Int, (∀ x ∈ t, 0 ≤ x ∧ x < base) → 3 ≤ t.length → ∃ w ∈ ws, w <+: t
  short : ∀ w ∈ ws, w.length ≤ 3
  one : ws = [[]] ∨ ∀ w ∈ ws, w ≠ []
  pf : ws.Pairwise NP
theorem Cmpl.start (base : Int) : Cmpl base [[]] := ⟨fun t _ _ => ⟨[], List.mem_singleton.mpr rfl, List.nil_prefix⟩, fun w h => by rw [List.mem_singleton.mp h]; exact Nat.zero_le _, .inl rfl, List.pairwise_singleton _ _⟩
def digits (base : Int) : List Int := (List.range base.toNat).map fun k : Nat => (0 : Int) + (k : Int)
theorem Cmpl.open {base : Int} {ws : List (List Int)} {i : Nat} {w : List Int} (c : Cmpl base ws) (hi : ws[i]? = some w) (hw : w.length < 3) : Cmpl base (ws.eraseIdx i ++ (digits base).map fun x => w ++ [x]) := by
  refine ⟨fun t ht hl => ?_, fun u hu => ?_, .inr fun u hu => ?_, ?_⟩
  · obtain ⟨u, hu, hp⟩ := c.all t ht hl
    by_cases e : u = w
    · subst e
      obtain ⟨r, rfl⟩ := hp
      cases r with
      | nil =>
        rw [List.append_nil] at hl
        omega
      | cons x r =>
        obtain ⟨h1, h2⟩ := ht x (List.mem_append.mpr (.inr List.mem_cons_self))
        refine ⟨u ++ [x], List.mem_append.mpr (.inr (List.mem_map.mpr ⟨x, List.mem_map.mpr ⟨x.toNat, List.mem_range.mpr (by omega), by omega⟩, rfl⟩)), ⟨r, by simp⟩⟩
    · refine ⟨u, List.mem_append.mpr (.inl ?_), hp⟩
      obtain ⟨j, hj⟩ := List.mem_iff_getElem?.mp hu
      have hji : j ≠ i := fun z => e (by rw [z, hi] at hj; exact (Option.some.inj hj).symm)
      rw [List.mem_eraseIdx_iff_getElem?]
      exact ⟨j, hji, hj⟩
  · rcases List.mem_append.mp hu with h | h
    · exact c.short u (List.mem_of_mem_eraseIdx h)
    · obtain ⟨x, _, rfl⟩ := List.mem_map.mp h
      rw [List.length_append, List.length_singleton]
      omega
  · rcases List.mem_append.mp hu with h | h
    · rcases c.one with e | e
      · rw [e] at h hi
        cases i with
        | zero => cases h
        | succ i => cases hi
      · exact e u (List.mem_of_mem_eraseIdx h)
    · obtain ⟨x, _, rfl⟩ := List.mem_map.mp h
      simp
  · refine List.pairwise_append.mpr ⟨c.pf.sublist (List.eraseIdx_sublist _ _), ?_, fun u hu v hv => ?_⟩
    · unfold digits
      rw [List.map_map, List.pairwise_map]
      refine (List.nodup_range (n := base.toNat)).imp fun {a b} hab => ?_
      have key : ∀ a b : Nat, a ≠ b → ¬ (w ++ [(0 : Int) + (a : Int)]) <+: (w ++ [(0 : Int) + (b : Int)]) := fun a b h k => by
        have e := k.eq_of_length (by rw [List.length_append, List.length_append]; rfl)
        have := (List.append_inj' e rfl).2
        have : (0 : Int) + (a : Int) = 0 + (b : Int) := (List.cons.inj this).1
        omega
      exact ⟨key a b hab, key b a hab.symm⟩
    · obtain ⟨x, _, rfl⟩ := List.mem_map.mp hv
      exact np_snoc (np_erase c.pf hi hu)
end Mt
namespace Mt
open PySem PySem.Spec PyProof.Rows L2
def spWords (K : PySem.W.Frag) : Sp := fun vs H Q _ => ∃ (S D : Addr) (base many : Int), vs = [.ref D, .int base, .int many] ∧ DrawAt S D H ∧ 2 ≤ base ∧ base ≤ 6 ∧ 0 ≤ many ∧ many ≤ 2 ∧
  ∀ (H' : Hp) (L : Addr) (xs : List V) (ws : List (List Int)), Go S D H H' → H L = none → H' L = some (.lst xs) → DpAll K H' xs (ws.map dI) → Cmpl base ws → 0 < ws.length → ws.length ≤ 20 → Q (.ref L) H'
def spShown (K : PySem.W.Frag) : Sp := fun vs H Q _ => ∃ (S D m : Addr) (ms : List Str), vs = [.ref D, .ref m] ∧ DrawAt S D H ∧ m ≠ D ∧ H m = some (.lst (ms.map V.str)) ∧ 0 < ms.length ∧ ms.length ≤ 100 ∧
  ∀ (H' : Hp) (p : Addr) (ss : List Str), Go S D H H' → H p = none → H' p = some (.tup (ss.map V.str)) → (∀ s ∈ ss, s ∈ ms) → ss.length ≤ 6 → Q (.ref p) H'
theorem dig_at {base : Int} {j : Nat} (h : j < base.toNat) : (digits base)[j]? = some (0 + (j : Int)) := by
  unfold digits
  rw [List.getElem?_map, List.getElem?_range h]
  rfl
theorem dig_len (base : Int) : (digits base).length = base.toNat := by
  unfold digits
  rw [List.length_map, List.length_range]
theorem alike_I (a b : List Int) : PySem.W.alike (dI a) (dI b) = true := by
  unfold dI
  simp [PySem.W.alike, PySem.W.alike_ints]
theorem dep_I (a : List Int) : (dI a).depth ≤ 1 := by
  unfold dI
  simp [PyData.depth, PySem.W.depth_ints]
theorem srt_words {base : Int} {ws : List (List Int)} (c : Cmpl base ws) : SR.SrtOk (ws.map dI) := by
  refine ⟨PySem.W.AllAlike.of alike_I, ?_, fun d hd => ?_⟩
  · rcases c.one with e | e
    · right
      rw [e]
      rfl
    · left
      left
      intro d hd
      obtain ⟨w, hw, rfl⟩ := List.mem_map.mp hd
      cases h : w with
      | nil => exact absurd h (e w hw)
      | cons x r => exact ⟨_, _, rfl⟩
  · obtain ⟨w, hw, rfl⟩ := List.mem_map.mp hd
    exact Nat.le_trans (dep_I w) (by decide)
/-- data beside the values -/
theorem zip_dp {K : PySem.W.Frag} {H : Hp} : ∀ {ds : List PyData} {xs : List V}, DpAll K H xs ds → (xs.zip ds).map (·.1) = xs ∧ (xs.zip ds).map (·.2) = ds ∧ ∀ b ∈ xs.zip ds, Dp K H b.1 b.2
  | [], _, h => by
    rw [dpA_nil h]
    exact ⟨rfl, rfl, fun _ h => absurd h List.not_mem_nil⟩
  | d :: ds, _, h => by
    obtain ⟨x, r, rfl, h1, h2⟩ := dpA_cons h
    obtain ⟨a, b, c⟩ := zip_dp h2
    refine ⟨by rw [List.zip_cons_cons, List.map_cons, a], by rw [List.zip_cons_cons, List.map_cons, b], fun y hy => ?_⟩
    rw [List.zip_cons_cons] at hy
    rcases List.mem_cons.mp hy with rfl | hy
    · exact h1
    · exact c y hy
theorem dpA_of {K : PySem.W.Frag} {H : Hp} : ∀ {bs : List (V × PyData)}, (∀ b ∈ bs, Dp K H b.1 b.2) → DpAll K H (bs.map (·.1)) (bs.map (·.2))
  | [], _ => .nil
  | b :: r, h => .cons (h b List.mem_cons_self) (dpA_of fun x hx => h x (List.mem_cons_of_mem _ hx))
theorem perm_back {α β : Type} {f : α → β} {l : List α} {l2 : List β} (h : l2.Perm (l.map f)) : ∃ l' : List α, l'.Perm l ∧ l2 = l'.map f := by
  generalize hm : l.map f = m at h
  induction h generalizing l with
  | nil =>
    cases l with
    | nil => exact ⟨[], .nil, rfl⟩
    | cons x r => cases hm
  | @cons x l1 l2 p ih =>
    cases l with
    | nil => cases hm
    | cons y r =>
      obtain ⟨e1, e2⟩ := List.cons.inj hm
      obtain ⟨l', h1, h2⟩ := ih e2
      exact ⟨y :: l', h1.cons y, by rw [List.map_cons, e1, h2]⟩
  | @swap x y l1 =>
    match l, hm with
    | a :: b :: r, hm =>
      obtain ⟨e1, e2⟩ := List.cons.inj hm
      obtain ⟨e3, e4⟩ := List.cons.inj e2
      exact ⟨b :: a :: r, .swap a b r, by rw [List.map_cons, List.map_cons, e1, e3, e4]⟩
  | @trans l1 l2 l3 p1 p2 ih1 ih2 =>
    obtain ⟨l', h1, h2⟩ := ih2 hm
    obtain ⟨l'', h3, h4⟩ := ih1 h2.symm
    exact ⟨l'', h3.trans h1, h4⟩
theorem Cmpl.perm {base : Int} {ws ws' : List (List Int)} (c : Cmpl base ws) (p : ws'.Perm ws) : Cmpl base ws' := by
  refine ⟨fun t h1 h2 => ?_, fun w hw => c.short w (p.mem_iff.mp hw), ?_, (p.pairwise_iff fun {_ _} => NP.symm).mpr c.pf⟩
  · obtain ⟨w, hw, h⟩ := c.all t h1 h2
    exact ⟨w, p.mem_iff.mpr hw, h⟩
  · rcases c.one with e | e
    · left
      rw [e] at p
      exact List.perm_singleton.mp p
    · exact .inr fun w hw => e w (p.mem_iff.mp hw)
section
variable {P : Program} {w : World} {K : PySem.W.Frag} {mg : Str → Option Value} {base : Heap}
theorem ok__law_words (T : Txt K mg) (D__law_draw : Kept P w K mg base 1 "_law_draw" ["d", "many"] spDraw) {f : Addr} {fd : FuncData} (F : FnP K "_law_words" s__law_words f fd) : FnOk P w K mg base CX0 2 f fd ["d", "base", "many"] (spWords K) := by
  refine F.ok sc__law_words (fun vs H Q E h => ?_) (fun cdv A outer s H vs Q E hr h => ?_)
  · obtain ⟨S, D, b, many, rfl, _⟩ := h
    rfl
  · obtain ⟨S, D, b, many, rfl, d, b2, b6, m0, m2, q⟩ := h
    refine ⟨_, PSs.nox (pss_cons (ps_set (i := 3) sc__law_words.nd rfl (Or.inl rfl) (pe_lst (pa_cons (pe_tup pa_nil) pa_nil)))
      (pss_cons (ps_for PassesOwn.never rfl (pi_range1 (by rfl) T.b_range (pa_cons (pv 2) pa_nil)) (pg_name (i := 4) sc__law_words.nd rfl (Or.inl rfl)) (pss_cons (ps_set (i := 5) sc__law_words.nd rfl (Or.inl rfl) (pe_d D__law_draw (hr.mono (by decide)) (by rfl) (pa_cons (pv 0) (pa_cons (pe_callB call_len (by rfl) T.b_len (by decide +kernel) (pa_cons (pv 3) pa_nil)) pa_nil))))
      (pss_one (ps_if (pt_cmpR op_lt (pe_callB call_len (by rfl) T.b_len (by decide +kernel) (pa_cons (pe_ix ix_list (pv 3) (pv 5) (fun _ _ => rfl)) pa_nil)) pe_int (nomark _)) (pss_cons (ps_set (i := 6) sc__law_words.nd rfl (Or.inr rfl) (pe_bm PySem.F.plainAttrs_list PySem.F.slot_list_pop PySem.F.type_list_pop mt_popAt (pv 3) (pa_cons (pv 5) pa_nil)))
      (pss_one (ps_set (i := 3) sc__law_words.nd rfl (Or.inl rfl) (pe_op op_cat (pv 3) (pe_lc (own := [("digit", 7)]) (g := (gName 7)) (tt := tYes) rfl sc__law_words.nd (pi_range1 (by rfl) T.b_range (pa_cons (pv 1) pa_nil)) (blkOk_by (N := N__law_words) (sc := defScope s__law_words) (by decide +kernel)) (fun _ _ _ _ _ => (pg_name (i := 7) sc__law_words.nd rfl (Or.inl rfl))) (fun _ _ _ _ _ => pts_nil) (fun _ _ _ _ _ => (pe_op (catA (K := K) rfl) (pv 6) (pe_tup (pa_cons (pv 7) pa_nil))))))))) pss_nil))))
      (pss_one (ps_ret (pe_callB (srtK (K := K) rfl hr.units) (by rfl) T.b_sorted (by decide +kernel) (pa_cons (pv 3) pa_nil)))))), ?_⟩
    refine ⟨Nat.zero_le _, fun p0 hp0 => ⟨by show 1 ≤ sizeLine; decide, fun L0 hL0 => ?_⟩⟩
    have g1 := Go.new (o := .tup []) d hp0
    have g2 := g1.trans (Go.new (o := .lst [.ref p0]) g1.1 hL0)
    have L00 := g1.free d hL0
    have hp2 : (upd (upd H p0 (.tup [])) L0 (.lst [.ref p0])) p0 = some (.tup []) := same_new hL0 _ _ upd_same
    refine ⟨_, rfl, _, rfl, by omega, by omega, for_range (lo := 0) (n := many.toNat) (fun i σ H' => ∃ (y4 y5 y6 y7 : Option V) (Lw : Addr) (xs : List V) (ws : List (List Int)), σ = [some (.ref D), some (.int b), some (.int many), some (.ref Lw), y4, y5, y6, y7] ∧ Go S D H H' ∧ H Lw = none ∧ H' Lw = some (.lst xs) ∧ DpAll K H' xs (ws.map dI) ∧ Cmpl b ws ∧ 0 < ws.length ∧ ws.length ≤ 1 + 6 * i) ⟨_, _, _, _, L0, _, [[]], rfl, g2, L00, upd_same, .cons (i_of (ss := []) (SqT.of hp2)) .nil, Cmpl.start b, by decide, by decide⟩ ?_ ?_⟩
    · rintro i σ H1 hi ⟨y4, y5, y6, y7, Lw, xs, ws, rfl, g, hL0, hL, hA, hc, l0, l1⟩
      have LD := (d.free hL0).1
      have xl := dpA_len hA
      rw [List.length_map] at xl
      refine ⟨_, rfl, _, rfl, _, _, rfl, .inl ⟨_, SqL.of hL, rfl⟩, S, D, _, rfl, divW_of (by omega) (by omega), g.1, fun H2 v v0 v1 g2 => ?_⟩
      have hv : v.toNat < xs.length := by omega
      have ex : xs[v.toNat]? = some xs[v.toNat] := List.getElem?_eq_getElem hv
      have hL2 := g2.2 _ _ hL LD
      have hA2 := dpA_keep (Go.keepT g.1 g2) _ _ (noLs_I ws) hA
      obtain ⟨wd, hw, hx⟩ := dpA_mem hA2 ex
      obtain ⟨pw, hpw, hpT⟩ := i_at hx
      have ea : atI xs v = some (.ref pw) := by
        have := atI_nat (xs := xs) ex
        rw [hpw, show ((v.toNat : Nat) : Int) = v by omega] at this
        exact this
      refine ⟨_, rfl, _, rfl, Lw, xs, v, _, rfl, rfl, SqL.of hL2, ea, _, _, rfl, .inr ⟨_, hpT, rfl⟩, ?_⟩
      refine ⟨_, _, rfl, rfl, _, rfl, ?_⟩
      refine ite2 (fun e3 => ?_) (fun _ => ⟨_, _, _, _, Lw, xs, ws, rfl, g.trans g2, hL0, hL2, hA2, hc, l0, by omega⟩)
      have hw3 : wd.length < 3 := by
        have := of_decide_eq_true e3
        rw [List.length_map] at this
        omega
      refine ⟨_, rfl, .inl ⟨rfl, _, SqL.of hL2⟩, _, rfl, Lw, xs, v, v.toNat, _, rfl, rfl, hL2, by omega, by omega, seqIndex_of v0 (by omega), ex, ?_⟩
      rw [hpw]
      have kL := keepT_nt (o := .lst (xs.eraseIdx v.toNat)) (nt_lst _) hL2
      have g3 : Go S D H (upd H2 Lw (.lst (xs.eraseIdx v.toNat))) := goU hL0 d (g.trans g2)
      have hL3 := upd_same (H := H2) (a := Lw) (o := .lst (xs.eraseIdx v.toNat))
      have hA3 := dpA_keep kL _ _ (noLs_I ws) hA2
      have hp3 := sqt_keep kL hpT
      generalize upd H2 Lw (.lst (xs.eraseIdx v.toNat)) = H3 at g3 hL3 hA3 hp3
      refine ⟨_, rfl, _, rfl, _, rfl, by omega, by omega, fun Lc hLc => lc_range (lo := 0) (n := b.toNat) (fun j H' => Same H3 H' ∧ ∃ zs, H' Lc = some (.lst zs) ∧ DpAll K H' zs ((((digits b).take j).map fun x => wd ++ [x]).map dI)) ⟨same_new hLc, [], upd_same, .nil⟩ ?_ ?_⟩
      · rintro j H4 hj ⟨s4, zs, hz, hzA⟩
        refine ⟨rfl, _, rfl, _, rfl, by show 1 ≤ sizeLine; decide, fun p1 hp1 => ?_⟩
        have s5 := s4.trans (same_new (o := .tup [V.int (0 + (j : Int))]) hp1)
        have h15 := upd_same (H := H4) (a := p1) (o := .tup [V.int (0 + (j : Int))])
        have hz5 := same_new (o := .tup [V.int (0 + (j : Int))]) hp1 _ _ hz
        have hzA5 := dpA_keep (keepT_new (o := .tup [V.int (0 + (j : Int))]) hp1) _ _ (noLs_I _) hzA
        generalize upd H4 p1 (.tup [V.int (0 + (j : Int))]) = H5 at s5 h15 hz5 hzA5
        have hdj := dig_at (base := b) hj
        have zl := dpA_len hzA5
        rw [List.length_map, List.length_map, List.length_take] at zl
        have fin : ∀ (H6 : Hp) (p : Addr), Same H5 H6 → SqT K H6 p ((wd ++ [0 + (j : Int)]).map V.int) → ∃ acc, H6 Lc = some (.lst acc) ∧ acc.length < sizeLine ∧ Same H3 (upd H6 Lc (.lst (acc ++ [.ref p]))) ∧ ∃ zs, upd H6 Lc (.lst (acc ++ [.ref p])) Lc = some (.lst zs) ∧ DpAll K (upd H6 Lc (.lst (acc ++ [.ref p]))) zs ((((digits b).take (j + 1)).map fun x => wd ++ [x]).map dI) := fun H6 p s6 hp => by
          have hz6 := s6 _ _ hz5
          have kc := keepT_nt (o := .lst (zs ++ [.ref p])) (nt_lst _) hz6
          refine ⟨zs, hz6, line6 (by omega), same_mut (s5.trans s6) hLc, zs ++ [.ref p], upd_same, ?_⟩
          rw [List.take_add_one, hdj, List.map_append, List.map_append]
          exact dpA_snoc (dpA_keep kc _ _ (noLs_I _) (dpA_keep (KeepT.of_same s6) _ _ (noLs_I _) hzA5)) (dp_keep kc _ _ (dI_noL _) (i_of hp))
        have hpw5 := sqt_keep (KeepT.of_same s5) hp3
        refine ⟨pw, p1, _, _, rfl, rfl, hpw5, SqT.of h15, by rw [List.length_map]; exact line5 (by show _ + 1 ≤ _; omega), fun e => ?_, fun _ e => (by cases e), fun _ _ p hp => ?_⟩
        · have : wd = [] := List.map_eq_nil_iff.mp e
          subst this
          exact fin H5 p1 (Same.refl _) (SqT.of h15)
        · exact fin _ p (same_new hp) (SqT.of (by rw [upd_same, List.map_append]; rfl))
      · rintro H4 ⟨s4, zs, hz, hzA⟩
        rw [List.take_of_length_le (by rw [dig_len]; exact Nat.le_refl _)] at hzA
        have zl := dpA_len hzA
        rw [List.length_map, List.length_map, dig_len] at zl
        have hA4 := dpA_keep (KeepT.of_same s4) _ _ (noLs_I ws) hA3
        have hE := dpA_erase v.toNat hA4
        refine ⟨Lw, Lc, _, zs, rfl, rfl, s4 _ _ hL3, hz, by rw [List.length_eraseIdx_of_lt hv]; exact line5 (by omega), fun Ln hLn => ?_⟩
        have s5 := same_new (o := .lst (xs.eraseIdx v.toNat ++ zs)) hLn
        have k5 := KeepT.of_same s5
        have hLnH : H Ln = none := by
          have g4 := g3.trans (Go.same g3.1 s4)
          exact g4.free d hLn
        have ee : (ws.map dI).eraseIdx v.toNat = (ws.eraseIdx v.toNat).map dI := by
          simp [List.eraseIdx_eq_take_drop_succ]
        rw [ee] at hE
        have wl : (ws.eraseIdx v.toNat).length + 1 = ws.length := by
          rw [List.length_eraseIdx_of_lt (by omega)]
          omega
        refine ⟨_, _, _, _, Ln, _, ws.eraseIdx v.toNat ++ (digits b).map fun x => wd ++ [x], rfl, g3.trans (Go.same g3.1 (s4.trans s5)), hLnH, upd_same, ?_, hc.open hw hw3, ?_, ?_⟩
        · rw [List.map_append]
          exact dpA_app (dpA_keep k5 _ _ (noLs_I _) hE) (dpA_keep k5 _ _ (noLs_I _) hzA)
        · rw [List.length_append, List.length_map, dig_len]
          omega
        · rw [List.length_append, List.length_map, dig_len]
          omega
    · rintro σ H1 ⟨y4, y5, y6, y7, Lw, xs, ws, rfl, g, hL0, hL, hA, hc, l0, l1⟩
      obtain ⟨z1, z2, z3⟩ := zip_dp hA
      refine ⟨_, rfl, Lw, xs.zip (ws.map dI), rfl, SqL.of (by rw [z1]; exact hL), z3, by rw [z2]; exact srt_words hc, fun ys p hy hp => ?_⟩
      have hperm : (ys.map (·.2)).Perm (ws.map dI) := by
        have := hy.map (fun b : V × PyData => b.2)
        rw [z2] at this
        exact this
      obtain ⟨ws', w1, w2⟩ := perm_back hperm
      have gp := Go.new (o := .lst (ys.map (·.1))) g.1 hp
      have hA' := dpA_of (bs := ys) fun b hb => z3 b (hy.mem_iff.mp hb)
      rw [w2] at hA'
      exact q _ p _ ws' (g.trans gp) (g.free d hp) upd_same (dpA_keep (Go.keepT g.1 gp) _ _ (noLs_I ws') hA') (hc.perm w1) (by rw [w1.length_eq]; exact l0) (by rw [w1.length_eq]; omega)
end
end Mt
namespace Mt
open PySem PySem.Spec PyProof.Rows L2
structure RwOk (base : Int) (n : Nat) (r : List Br) : Prop where
  ne : 0 < r.length
  few : r.length ≤ 20
  to : ∀ b ∈ r, b.2.2 < n ∧ b.2.1.length ≤ 6
  cm : Cmpl base (r.map (·.1))
structure ChnOk (base : Int) (C : Chn) : Prop where
  b2 : 2 ≤ base
  b6 : base ≤ 6
  pos : 0 < C.length
  few : C.length ≤ 50
  row : ∀ r ∈ C, RwOk base C.length r
def spWChain (K : PySem.W.Frag) : Sp := fun vs H Q _ => ∃ (S D m : Addr) (base n : Int) (ms : List Str), vs = [.ref D, .int base, .int n, .ref m] ∧ DrawAt S D H ∧ m ≠ D ∧ H m = some (.lst (ms.map V.str)) ∧ 0 < ms.length ∧ ms.length ≤ 100 ∧ 2 ≤ base ∧ base ≤ 6 ∧ 1 ≤ n ∧ n ≤ 50 ∧
  ∀ (H' : Hp) (v : V) (C : Chn), Go S D H H' → Dp K H' v (dChn base C) → ChnOk base C → C.length = n.toNat → Q v H'
def spRChain (K : PySem.W.Frag) : Sp := fun vs H Q _ => ∃ (S D m : Addr) (n : Int) (ms : List Str), vs = [.ref D, .ref m, .int n] ∧ DrawAt S D H ∧ m ≠ D ∧ H m = some (.lst (ms.map V.str)) ∧ 0 < ms.length ∧ ms.length ≤ 100 ∧ 1 ≤ n ∧ n ≤ 50 ∧
  ∀ (H' : Hp) (v : V) (base : Int) (C : Chn), Go S D H H' → Dp K H' v (dChn base C) → ChnOk base C → Q v H'
theorem noLs_br (r : List Br) : noLs (r.map dBr) = true := noLs_map _ _ fun b _ => dBr_noL b
theorem noLs_rw (C : Chn) : noLs (C.map dRw) = true := noLs_map _ _ fun r _ => dRw_noL r
section
variable {P : Program} {w : World} {K : PySem.W.Frag} {mg : Str → Option Value} {base : Heap}
theorem ok__law_wide_shown (T : Txt K mg) (D__law_pick : Kept P w K mg base 2 "_law_pick" ["d", "row"] (spPick K)) {f : Addr} {fd : FuncData} (F : FnP K "_law_wide_shown" s__law_wide_shown f fd) : FnOk P w K mg base CX0 3 f fd ["d", "marks"] (spShown K) := by
  refine F.ok sc__law_wide_shown (fun vs H Q E h => ?_) (fun cdv A outer s H vs Q E hr h => ?_)
  · obtain ⟨S, D, m, ms, rfl, _⟩ := h
    rfl
  · obtain ⟨S, D, m, ms, rfl, d, nD, hm, h0, h1, q⟩ := h
    refine ⟨_, PSs.nox (pss_one (ps_ret (pe_callTy (tupOfT (K := K) rfl) (by rfl) T.b_tuple (by decide +kernel) (pa_cons (pe_lc (own := [("k", 2)]) (g := (gName 2)) (tt := tYes) rfl sc__law_wide_shown.nd (pi_range1 (by rfl) T.b_range (pa_cons (pe_d D__law_pick (hr.mono (by decide)) (by rfl) (pa_cons (pv 0) (pa_cons (pe_lst (pa_cons pe_int (pa_cons pe_int (pa_cons pe_int (pa_cons pe_int (pa_cons pe_int (pa_cons pe_int (pa_cons pe_int (pa_cons pe_int (pa_cons pe_int pa_nil)))))))))) pa_nil))) pa_nil)) (blkOk_by (N := N__law_wide_shown) (sc := defScope s__law_wide_shown) (by decide +kernel)) (fun _ _ _ _ _ => (pg_name (i := 2) sc__law_wide_shown.nd rfl (Or.inl rfl))) (fun _ _ _ _ _ => pts_nil) (fun _ _ _ _ _ => (pe_d D__law_pick (hr.mono (by decide)) (by rfl) (pa_cons (pv 0) (pa_cons (pv 1) pa_nil))))) pa_nil)))), ?_⟩
    refine ⟨_, rfl, by show 9 ≤ sizeLine; decide, fun L hL => ?_⟩
    have d1 := d.new (o := .lst [V.int 0, .int 0, .int 1, .int 1, .int 1, .int 2, .int 2, .int 3, .int 6]) hL
    have LD := (d.free hL).1
    have g1 : Go S D H (upd H L (.lst [V.int 0, .int 0, .int 1, .int 1, .int 1, .int 2, .int 2, .int 3, .int 6])) := Go.new d hL
    refine ⟨S, D, .ref L, [V.int 0, .int 0, .int 1, .int 1, .int 1, .int 2, .int 2, .int 3, .int 6], rfl, d1, fun H' g => .inr (.inl ⟨L, rfl, SqL.of (g.2 _ _ upd_same LD)⟩), by decide, by decide, fun H2 x hx g2 => ?_⟩
    obtain ⟨n, rfl, hn⟩ : ∃ n : Nat, x = .int (n : Int) ∧ n ≤ 6 := by
      simp only [List.mem_cons, List.not_mem_nil, or_false] at hx
      rcases hx with e | e | e | e | e | e | e | e | e
      · exact ⟨0, e, by decide⟩
      · exact ⟨0, e, by decide⟩
      · exact ⟨1, e, by decide⟩
      · exact ⟨1, e, by decide⟩
      · exact ⟨1, e, by decide⟩
      · exact ⟨2, e, by decide⟩
      · exact ⟨2, e, by decide⟩
      · exact ⟨3, e, by decide⟩
      · exact ⟨6, e, by decide⟩
    have g3 := g1.trans g2
    refine ⟨_, rfl, by omega, by omega, fun Lc hLc => lc_range (lo := 0) (n := n) (fun j H' => ∃ ss : List Str, Go S D H2 H' ∧ H' Lc = some (.lst (ss.map V.str)) ∧ ss.length = j ∧ ∀ s ∈ ss, s ∈ ms) ⟨[], Go.new g3.1 hLc, upd_same, rfl, fun _ h => absurd h List.not_mem_nil⟩ ?_ ?_⟩
    · rintro j H4 hj ⟨ss, g4, hL4, hl, hs⟩
      have LcD := (g3.1.free hLc).1
      refine ⟨rfl, _, rfl, _, rfl, S, D, .ref m, ms.map V.str, rfl, g4.1, fun H' g' => .inr (.inl ⟨m, rfl, SqL.of (((g3.trans g4).trans g').2 _ _ hm nD)⟩), by rw [List.length_map]; exact h0, by rw [List.length_map]; omega, fun H5 x hx g5 => ?_⟩
      obtain ⟨z, hz, rfl⟩ := List.mem_map.mp hx
      refine ⟨_, g5.2 _ _ hL4 LcD, by rw [List.length_map]; exact line6 (by omega), ss ++ [z], goU hLc g3.1 (g4.trans g5), by rw [upd_same, List.map_append]; rfl, by rw [List.length_append, List.length_singleton, hl], fun s h => ?_⟩
      rcases List.mem_append.mp h with h | h
      · exact hs s h
      · rw [List.mem_singleton.mp h]
        exact hz
    · rintro H4 ⟨ss, g4, hL4, hl, hs⟩
      refine ⟨Lc, _, rfl, .inl ⟨SqL.of hL4, fun p hp => ?_⟩⟩
      have g5 := g3.trans g4
      exact q _ p ss (g5.trans (Go.new g5.1 hp)) (g5.free d hp) upd_same hs (by omega)
theorem ok__law_wide_chain (T : Txt K mg) (D__law_draw : Kept P w K mg base 1 "_law_draw" ["d", "many"] spDraw) (D__law_words : Kept P w K mg base 2 "_law_words" ["d", "base", "many"] (spWords K)) (D__law_wide_shown : Kept P w K mg base 3 "_law_wide_shown" ["d", "marks"] (spShown K)) {f : Addr} {fd : FuncData} (F : FnP K "_law_wide_chain" s__law_wide_chain f fd) : FnOk P w K mg base CX0 4 f fd ["d", "base", "states", "marks"] (spWChain K) := by
  refine F.ok sc__law_wide_chain (fun vs H Q E h => ?_) (fun cdv A outer s H vs Q E hr h => ?_)
  · obtain ⟨S, D, m, b, n, ms, rfl, _⟩ := h
    rfl
  · obtain ⟨S, D, m, b, n, ms, rfl, d, nD, hm, h0, h1, b2, b6, n1, n2, q⟩ := h
    refine ⟨_, PSs.nox (pss_cons (ps_set (i := 4) sc__law_wide_chain.nd rfl (Or.inl rfl) (pe_lst pa_nil))
      (pss_cons (ps_for PassesOwn.never rfl (pi_range1 (by rfl) T.b_range (pa_cons (pv 2) pa_nil)) (pg_name (i := 5) sc__law_wide_chain.nd rfl (Or.inl rfl)) (pss_cons (ps_set (i := 6) sc__law_wide_chain.nd rfl (Or.inl rfl) (pe_lst pa_nil))
      (pss_cons (ps_for PassesOwn.never rfl (pi_list (pe_d D__law_words (hr.mono (by decide)) (by rfl) (pa_cons (pv 0) (pa_cons (pv 1) (pa_cons (pe_d D__law_draw (hr.mono (by decide)) (by rfl) (pa_cons (pv 0) (pa_cons pe_int pa_nil))) pa_nil))))) (pg_name (i := 7) sc__law_wide_chain.nd rfl (Or.inl rfl)) (pss_one (ps_expr (pe_bm PySem.F.plainAttrs_list PySem.F.slot_list_append PySem.F.type_list_append mt_append (pv 6) (pa_cons (pe_tup (pa_cons (pv 7) (pa_cons (pe_d D__law_wide_shown (hr.mono (by decide)) (by rfl) (pa_cons (pv 0) (pa_cons (pv 3) pa_nil))) (pa_cons (pe_d D__law_draw (hr.mono (by decide)) (by rfl) (pa_cons (pv 0) (pa_cons (pv 2) pa_nil))) pa_nil)))) pa_nil)))))
      (pss_one (ps_expr (pe_bm PySem.F.plainAttrs_list PySem.F.slot_list_append PySem.F.type_list_append mt_append (pv 4) (pa_cons (pe_callTy (tupOfT (K := K) rfl) (by rfl) T.b_tuple (by decide +kernel) (pa_cons (pv 6) pa_nil)) pa_nil)))))))
      (pss_one (ps_ret (pe_tup (pa_cons pe_str (pa_cons (pv 1) (pa_cons (pe_callTy (tupOfT (K := K) rfl) (by rfl) T.b_tuple (by decide +kernel) (pa_cons (pv 4) pa_nil)) pa_nil)))))))), ?_⟩
    refine ⟨Nat.zero_le _, fun L hL => ?_⟩
    have g1 := Go.new (o := .lst []) d hL
    have LD := (d.free hL).1
    refine ⟨_, rfl, _, rfl, by omega, by omega, for_range (lo := 0) (n := n.toNat) (fun i σ H' => ∃ (y5 y6 y7 : Option V) (zs : List V) (C : Chn), σ = [some (.ref D), some (.int b), some (.int n), some (.ref m), some (.ref L), y5, y6, y7] ∧ Go S D H H' ∧ H' L = some (.lst zs) ∧ DpAll K H' zs (C.map dRw) ∧ C.length = i ∧ ∀ r ∈ C, RwOk b n.toNat r) ⟨_, _, _, [], [], rfl, g1, upd_same, .nil, rfl, fun _ h => absurd h List.not_mem_nil⟩ ?_ ?_⟩
    · rintro i σ H1 hi ⟨y5, y6, y7, zs, C, rfl, g, hL1, hzs, hC, hCr⟩
      have zl := dpA_len hzs
      rw [List.length_map] at zl
      refine ⟨Nat.zero_le _, fun f hf => ?_⟩
      have gf := Go.new (o := .lst []) g.1 hf
      have fD := (g.1.free hf).1
      have fL : f ≠ L := (ne_of_none hL1 hf).symm
      have hf2 := upd_same (H := H1) (a := f) (o := .lst [])
      generalize upd H1 f (.lst []) = H2 at gf hf2
      refine ⟨_, rfl, _, rfl, _, rfl, S, D, 3, rfl, divW_of (by decide) (by decide), gf.1, fun H3 mm m0 m1 g3 => ⟨S, D, b, mm, rfl, g3.1, b2, b6, m0, by omega, fun H4 Lw xs ws g4 hLw0 hLw hA hc w0 w1 => ?_⟩⟩
      have g34 := gf.trans (g3.trans g4)
      have LwD := (g3.1.free hLw0).1
      have hf4 := (g3.trans g4).2 _ _ hf2 fD
      have LwF : Lw ≠ f := fun e => by
        rw [e, g3.2 _ _ hf2 fD] at hLw0
        cases hLw0
      have xl := dpA_len hA
      rw [List.length_map] at xl
      refine ⟨Lw, rfl, ⟨_, SqL.of hLw⟩, for_list (K := K) (a := Lw) (xs := xs) (fun j σ H' => ∃ (y7 : Option V) (qs : List V) (r : List Br), σ = [some (.ref D), some (.int b), some (.int n), some (.ref m), some (.ref L), some (.int (0 + (i : Int))), some (.ref f), y7] ∧ Go S D H1 H' ∧ H' Lw = some (.lst xs) ∧ DpAll K H' xs (ws.map dI) ∧ H' f = some (.lst qs) ∧ DpAll K H' qs (r.map dBr) ∧ r.map (·.1) = ws.take j ∧ ∀ b ∈ r, b.2.2 < n.toNat ∧ b.2.1.length ≤ 6) ⟨_, [], [], rfl, g34, hLw, hA, hf4, .nil, rfl, fun _ h => absurd h List.not_mem_nil⟩ (fun i σ H' _ ⟨_, _, _, _, _, h, _⟩ => SqL.of h) ?_ ?_⟩
      · rintro j x σ H5 hj ⟨y7, qs, r, rfl, g5, hLw5, hA5, hf5, hr5, er, hrr⟩
        obtain ⟨wd, hw, hx⟩ := dpA_mem hA5 hj
        have jl := (List.getElem?_eq_some_iff.mp hj).1
        refine ⟨_, rfl, .inl ⟨rfl, _, SqL.of hf5⟩, _, rfl, _, rfl, _, rfl, S, D, m, ms, rfl, g5.1, nD, (g.trans g5).2 _ _ hm nD, h0, h1, fun H6 p ss g6 hp0 hp hss hsl => ?_⟩
        have pD := (g5.1.free hp0).1
        refine ⟨_, rfl, _, rfl, S, D, n, rfl, divW_of (by omega) (by omega), g6.1, fun H7 t t0 t1 g7 => ⟨by show 3 ≤ sizeLine; decide, fun pb hpb => ?_⟩⟩
        have g67 := g6.trans g7
        have gb := g67.trans (Go.new (o := .tup [x, .ref p, .int t]) g7.1 hpb)
        have hpb8 := upd_same (H := H7) (a := pb) (o := .tup [x, .ref p, .int t])
        have hp8 := same_new (o := .tup [x, .ref p, .int t]) hpb _ _ (g7.2 _ _ hp pD)
        generalize upd H7 pb (.tup [x, .ref p, .int t]) = H8 at gb hpb8 hp8
        have k8 := Go.keepT g5.1 gb
        have hf8 := gb.2 _ _ hf5 fD
        have kf := keepT_nt (o := .lst (qs ++ [.ref pb])) (nt_lst _) hf8
        have ql := dpA_len hr5
        rw [List.length_map] at ql
        have rl : r.length = j := by
          have := congrArg List.length er
          rw [List.length_map, List.length_take] at this
          omega
        have dB : Dp K H8 (.ref pb) (dBr (wd, ss, t.toNat)) := by
          have e1 : PyData.int ((t.toNat : Nat) : Int) = .int t := by rw [Int.toNat_of_nonneg t0]
          show Dp K H8 (.ref pb) (.tuple [dI wd, dSh ss, .int ((t.toNat : Nat) : Int)])
          rw [e1]
          exact .tup (SqT.of hpb8) (.cons (dp_keep k8 _ _ (dI_noL wd) hx) (.cons (sh_of (SqT.of hp8)) (.cons (.int _) .nil)))
        refine ⟨f, qs, _, rfl, rfl, hf8, line6 (by omega), _, qs ++ [.ref pb], r ++ [(wd, ss, t.toNat)], rfl, goU hf g.1 (g5.trans gb), ?_, dpA_keep kf _ _ (noLs_I ws) (dpA_keep k8 _ _ (noLs_I ws) hA5), upd_same, ?_, ?_, fun y hy => ?_⟩
        · rw [upd_ne LwF]
          exact gb.2 _ _ hLw5 LwD
        · rw [List.map_append]
          exact dpA_snoc (dpA_keep kf _ _ (noLs_br r) (dpA_keep k8 _ _ (noLs_br r) hr5)) (dp_keep kf _ _ (dBr_noL _) dB)
        · rw [List.map_append, er, List.take_add_one, hw]
          rfl
        · rcases List.mem_append.mp hy with h | h
          · exact hrr y h
          · rw [List.mem_singleton.mp h]
            exact ⟨by show t.toNat < n.toNat; omega, hsl⟩
      · rintro σ H5 ⟨y7, qs, r, rfl, g5, hLw5, hA5, hf5, hr5, er, hrr⟩
        rw [xl, List.take_length] at er
        have rl : r.length = ws.length := by
          rw [← er, List.length_map]
        have gg := g.trans g5
        have hL5 := g5.2 _ _ hL1 LD
        refine ⟨_, rfl, .inl ⟨rfl, _, SqL.of hL5⟩, _, rfl, f, qs, rfl, .inl ⟨SqL.of hf5, fun pr hpr => ?_⟩⟩
        have gp := Go.new (o := .tup qs) g5.1 hpr
        have kp := Go.keepT g5.1 gp
        have hpr6 := upd_same (H := H5) (a := pr) (o := .tup qs)
        have hL6 := gp.2 _ _ hL5 LD
        generalize upd H5 pr (.tup qs) = H6 at gp kp hpr6 hL6
        have kL := keepT_nt (o := .lst (zs ++ [.ref pr])) (nt_lst _) hL6
        refine ⟨L, zs, _, rfl, rfl, hL6, line6 (by omega), _, _, _, zs ++ [.ref pr], C ++ [r], rfl, goU hL d (gg.trans gp), upd_same, ?_, by rw [List.length_append, hC]; rfl, fun x hx => ?_⟩
        · rw [List.map_append]
          exact dpA_snoc (dpA_keep kL _ _ (noLs_rw C) (dpA_keep (Go.keepT g.1 (g5.trans gp)) _ _ (noLs_rw C) hzs)) (dp_keep kL _ _ (dRw_noL _) (.tup (SqT.of hpr6) (dpA_keep kp _ _ (noLs_br r) hr5)))
        · rcases List.mem_append.mp hx with h | h
          · exact hCr x h
          · rw [List.mem_singleton.mp h]
            exact ⟨by omega, by omega, hrr, by rw [er]; exact hc⟩
    · rintro σ H1 ⟨y5, y6, y7, zs, C, rfl, g, hL1, hzs, hC, hCr⟩
      refine ⟨_, rfl, _, rfl, L, zs, rfl, .inl ⟨SqL.of hL1, fun pq hpq => ⟨by show 3 ≤ sizeLine; decide, fun pw hpw => ?_⟩⟩⟩
      have gq := Go.new (o := .tup zs) g.1 hpq
      have gw := gq.trans (Go.new (o := .tup [.str "chain", .int b, .ref pq]) gq.1 hpw)
      have hpq2 := same_new (o := .tup [.str "chain", .int b, .ref pq]) hpw _ _ (upd_same (H := H1) (a := pq) (o := .tup zs))
      refine q _ _ C (g.trans gw) (.tup (SqT.of upd_same) (.cons (.str _) (.cons (.int _) (.cons (.tup (SqT.of hpq2) (dpA_keep (Go.keepT g.1 gw) _ _ (noLs_rw C) hzs)) .nil)))) ⟨b2, b6, by omega, by omega, fun r hr => ?_⟩ hC
      rw [hC]
      exact hCr r hr
end
end Mt
namespace Mt
open PySem PySem.Spec PyProof.Rows L2
theorem getElem?_lt {α : Type} {l : List α} {i : Nat} (h : i < l.length) : l[i]? = some (l[i]'h) := List.getElem?_eq_getElem h
mutual
theorem dp_same {K : PySem.W.Frag} {H H' : Hp} (s : Same H H') : ∀ (d : PyData) (v : V), Dp K H v d → Dp K H' v d
  | .none, _, h => by
    cases h
    exact .non
  | .bool b, _, h => by
    cases h
    exact .bl b
  | .int i, _, h => by
    cases h
    exact .int i
  | .str x, _, h => by
    cases h
    exact .str x
  | .list ds, _, h => by
    cases h with
    | lst h1 h2 => exact .lst (same_l s h1) (dpA_same s ds _ h2)
  | .dict ds, n, h => by
    cases h
  | .tuple ds, _, h => by
    cases h with
    | tup h1 h2 => exact .tup (same_t s h1) (dpA_same s ds _ h2)
theorem dpA_same {K : PySem.W.Frag} {H H' : Hp} (s : Same H H') : ∀ (ds : List PyData) (xs : List V), DpAll K H xs ds → DpAll K H' xs ds
  | [], _, h => by
    cases h
    exact .nil
  | d :: ds, _, h => by
    cases h with
    | cons h1 h2 => exact .cons (dp_same s d _ h1) (dpA_same s ds _ h2)
end
theorem dp_lst {K : PySem.W.Frag} {H : Hp} {v : V} {ds : List PyData} (h : Dp K H v (.list ds)) : ∃ a xs, v = .ref a ∧ SqL K H a xs ∧ DpAll K H xs ds := by
  cases h with
  | lst h1 h2 => exact ⟨_, _, rfl, h1, h2⟩
theorem piTK {X : Cx} {K : PySem.W.Frag} {e tg : Expr} {te : TE} (h : X.K = K) (he : PE X e te) : PI X tg e (iTup K te) := h ▸ pi_tup he
theorem same_upd {H H' : Hp} {L : Addr} {o : HO} (s : Same H H') : Same (upd H L o) (upd H' L o) := fun b u e => by
  by_cases k : b = L
  · subst k
    rw [upd_same] at e ⊢
    exact e
  · rw [upd_ne k] at e ⊢
    exact s b u e
theorem upd_self {H : Hp} {p : Addr} {o : HO} (h : H p = some o) : upd H p o = H := by
  funext x
  by_cases k : x = p
  · subst k
    rw [upd_same, h]
  · rw [upd_ne k]
/-- a list of lists that is being filled: what it holds stands whatever stands at its own place -/
structure FL (K : PySem.W.Frag) (L : Addr) (H : Hp) (ds : List PyData) : Prop where
  d : ∃ zs, H L = some (.lst zs) ∧ zs.length = ds.length ∧ ∀ o, DpAll K (upd H L o) zs ds
theorem FL.nil {K : PySem.W.Frag} {L : Addr} {H : Hp} (h : H L = none) : FL K L (upd H L (.lst [])) [] := ⟨[], upd_same, rfl, fun _ => .nil⟩
theorem FL.dp {K : PySem.W.Frag} {L : Addr} {H : Hp} {ds : List PyData} (f : FL K L H ds) : Dp K H (.ref L) (.list ds) := by
  obtain ⟨zs, h1, _, h2⟩ := f.d
  have := h2 (.lst zs)
  rw [upd_self h1] at this
  exact .lst (SqL.of h1) this
theorem FL.same {K : PySem.W.Frag} {L : Addr} {H H' : Hp} {ds : List PyData} (f : FL K L H ds) (s : Same H H') : FL K L H' ds := by
  obtain ⟨zs, h1, h3, h2⟩ := f.d
  exact ⟨zs, s _ _ h1, h3, fun o => dpA_same (same_upd s) _ _ (h2 o)⟩
theorem FL.add {K : PySem.W.Frag} {L : Addr} {H : Hp} {ds : List PyData} {zs : List V} {v : V} {d : PyData} (f : FL K L H ds) (h : H L = some (.lst zs)) (hd : ∀ o, Dp K (upd H L o) v d) : FL K L (upd H L (.lst (zs ++ [v]))) (ds ++ [d]) := by
  obtain ⟨zs', h1, h3, h2⟩ := f.d
  rw [h] at h1
  cases h1
  refine ⟨_, upd_same, by rw [List.length_append, List.length_append, h3]; rfl, fun o => ?_⟩
  rw [upd_upd]
  exact dpA_snoc (h2 o) (hd o)
theorem piLK {X : Cx} {K : PySem.W.Frag} {e tg : Expr} {te : TE} (h : X.K = K) (he : PE X e te) : PI X tg e (iList K te) := h ▸ pi_list he
theorem dI_canAll : ∀ l : List Int, PyData.canLayAll0 (l.map PyData.int) = true
  | [] => rfl
  | x :: r => by
    show (PyData.canLay0 (.int x) && PyData.canLayAll0 (r.map PyData.int)) = true
    rw [dI_canAll r]
    rfl
theorem dI_dep : ∀ l : List Int, PyData.depthAll (l.map PyData.int) = 0
  | [] => rfl
  | x :: r => by
    show max (PyData.depth (.int x)) (PyData.depthAll (r.map PyData.int)) = 0
    rw [dI_dep r]
    rfl
theorem dI_lay (l : List Int) : PyData.canLay0 (dI l) = true := dI_canAll l
theorem dI_sh (l : List Int) : SeqAt.shaped (dI l) = true := by
  unfold SeqAt.shaped
  rw [Bool.and_eq_true]
  refine ⟨dI_lay l, decide_eq_true ?_⟩
  show PyData.depthAll (l.map PyData.int) + 1 ≤ 64
  rw [dI_dep]
  decide
theorem eqv_ints : ∀ a b : List Int, PyData.eqvAll (a.map PyData.int) (b.map PyData.int) = decide (a = b)
  | [], [] => rfl
  | [], _ :: _ => rfl
  | _ :: _, [] => rfl
  | x :: a, y :: b => by
    show (PyData.eqv (.int x) (.int y) && PyData.eqvAll (a.map PyData.int) (b.map PyData.int)) = decide (x :: a = y :: b)
    rw [eqv_ints a b]
    show (decide (x = y) && decide (a = b)) = _
    by_cases h1 : x = y <;> by_cases h2 : a = b <;> simp [h1, h2]
theorem eqv_I (a b : List Int) : PyData.eqv (dI a) (dI b) = decide (a = b) := eqv_ints a b
theorem take_snoc {α : Type} {l : List α} {i : Nat} {x : α} (h : l[i]? = some x) : l.take (i + 1) = l.take i ++ [x] := by
  rw [List.take_add_one, h]
  rfl
theorem cut_any {l : List Int} {k m : Nat} (h : k ≤ l.length) : cutV (l.map V.int) (some (k : Int)) (some ((k : Int) + (m : Int))) = ((l.drop k).take m).map V.int := by
  unfold cutV
  rw [HT.sIx_nat, ← Int.natCast_add, HT.sIx_nat, List.length_map, Nat.min_eq_left h, ← List.map_drop, ← List.map_take]
  congr 1
  by_cases e : k + m ≤ l.length
  · rw [Nat.min_eq_left e, Nat.add_sub_cancel_left]
  · rw [Nat.min_eq_right (by omega), List.take_of_length_le (by rw [List.length_drop]; exact Nat.le_refl _), List.take_of_length_le (by rw [List.length_drop]; omega)]
def rowOf (C : Chn) (s : Nat) : List Br := (C[s]?).getD []
theorem rowOf_at {C : Chn} {s : Nat} (h : s < C.length) : C[s]? = some (rowOf C s) := by
  unfold rowOf
  rw [List.getElem?_eq_getElem h]
  rfl
theorem eqDK {X : Cx} {K : PySem.W.Frag} (h : X.K = K) (hu : X.A.units + 64 < cLine) : OpR X (compareOp .Eq) (rEqD K) := h ▸ op_eqD hu
theorem ninK {X : Cx} {K : PySem.W.Frag} (h : X.K = K) : OpR X (compareOp .NotIn) (rIn K true) := h ▸ op_notIn_seq
theorem inK {X : Cx} {K : PySem.W.Frag} (h : X.K = K) : OpR X (compareOp .In) (rIn K false) := h ▸ op_in_seq
end Mt
namespace Mt
open PySem PySem.Spec PyProof.Rows L2
def spShufP (K : PySem.W.Frag) : Sp := fun vs H Q _ => ∃ (S D p : Addr) (xs : List V), vs = [.ref D, .ref p] ∧ DrawAt S D H ∧ SqL K H p xs ∧ xs.length ≤ 1000 ∧
  ∀ (H' : Hp) (q : Addr) (ys : List V), Go S D H H' → H q = none → H' q = some (.lst ys) → ys.Perm xs → Q (.ref q) H'
section
variable {P : Program} {w : World} {K : PySem.W.Frag} {mg : Str → Option Value} {base : Heap}
theorem ok__law_shuffled (T : Txt K mg) (D__law_draw : Kept P w K mg base 1 "_law_draw" ["d", "many"] spDraw) {f : Addr} {fd : FuncData} (F : FnP K "_law_shuffled" s__law_shuffled f fd) : FnOk P w K mg base CX0 2 f fd ["d", "row"] (spShufP K) := by
  refine F.ok sc__law_shuffled (fun vs H Q E h => ?_) (fun cdv A outer s H vs Q E hr h => ?_)
  · obtain ⟨S, D, p, xs, rfl, _⟩ := h
    rfl
  · obtain ⟨S, D, p, xs, rfl, d, hp, hl, q⟩ := h
    refine ⟨_, PSs.nox (pss_cons (ps_set (i := 2) sc__law_shuffled.nd rfl (Or.inl rfl) (pe_callTy call_list_of (by rfl) T.b_list (by decide +kernel) (pa_cons (pv 1) pa_nil)))
      (pss_cons (ps_set (i := 3) sc__law_shuffled.nd rfl (Or.inl rfl) (pe_lst pa_nil))
      (pss_cons (ps_for PassesOwn.never rfl (pi_range1 (by rfl) T.b_range (pa_cons (pe_callB call_len (by rfl) T.b_len (by decide +kernel) (pa_cons (pv 2) pa_nil)) pa_nil)) (pg_name (i := 4) sc__law_shuffled.nd rfl (Or.inl rfl)) (pss_one (ps_expr (pe_bm PySem.F.plainAttrs_list PySem.F.slot_list_append PySem.F.type_list_append mt_append (pv 3) (pa_cons (pe_bm PySem.F.plainAttrs_list PySem.F.slot_list_pop PySem.F.type_list_pop mt_popAt (pv 2) (pa_cons (pe_d D__law_draw (hr.mono (by decide)) (by rfl) (pa_cons (pv 0) (pa_cons (pe_callB call_len (by rfl) T.b_len (by decide +kernel) (pa_cons (pv 2) pa_nil)) pa_nil))) pa_nil)) pa_nil)))))
      (pss_one (ps_ret (pv 3)))))), ?_⟩
    refine ⟨_, rfl, p, xs, rfl, .inl hp, fun l hl0 => ⟨Nat.zero_le _, fun f hf => ?_⟩⟩
    have g1 := Go.new (o := .lst xs) d hl0
    have g2 := g1.trans (Go.new (o := .lst []) g1.1 hf)
    have nlf : l ≠ f := fun e => by
      rw [← e, upd_same] at hf
      cases hf
    have hf0 : H f = none := by
      rw [upd_ne nlf.symm] at hf
      exact hf
    have hll : (upd (upd H l (.lst xs)) f (.lst [])) l = some (.lst xs) := by
      rw [upd_ne nlf, upd_same]
    have nlD := (d.free hl0).1
    have nfD := (d.free hf0).1
    refine ⟨_, rfl, _, _, rfl, .inl ⟨_, SqL.of hll, rfl⟩, xs.length, rfl, by omega, by omega, for_range (lo := 0) (n := xs.length) (fun i σ H' => ∃ (y : Option V) (ls fs : List V), σ = [some (.ref D), some (.ref p), some (.ref l), some (.ref f), y] ∧ Go S D H H' ∧ H' l = some (.lst ls) ∧ H' f = some (.lst fs) ∧ ls.length + i = xs.length ∧ fs.length = i ∧ (ls ++ fs).Perm xs) ⟨_, xs, [], rfl, g2, hll, upd_same, rfl, rfl, by rw [List.append_nil]⟩ ?_ ?_⟩
    · rintro i σ H1 hi ⟨y, ls, fs, rfl, g, h1, h2, e1, e2, m1⟩
      refine ⟨_, rfl, .inl ⟨rfl, _, SqL.of h2⟩, _, rfl, .inl ⟨rfl, _, SqL.of h1⟩, _, rfl, _, rfl, _, _, rfl, .inl ⟨_, SqL.of h1, rfl⟩, S, D, _, rfl, divW_of (by omega) (by omega), g.1, fun H2 v v0 v1 g3 => ?_⟩
      have hv : v.toNat < ls.length := by omega
      have ex : ls[v.toNat]? = some ls[v.toNat] := List.getElem?_eq_getElem hv
      have h1' := g3.2 _ _ h1 nlD
      have h2' := g3.2 _ _ h2 nfD
      refine ⟨l, ls, v, v.toNat, _, rfl, rfl, h1', by omega, by omega, seqIndex_of v0 (by omega), ex, ?_⟩
      have h2'' : (upd H2 l (.lst (ls.eraseIdx v.toNat))) f = some (.lst fs) := by
        rw [upd_ne nlf.symm]
        exact h2'
      refine ⟨f, fs, _, rfl, rfl, h2'', line6 (by omega), ?_⟩
      have g4 := g.trans g3
      refine ⟨_, ls.eraseIdx v.toNat, fs ++ [ls[v.toNat]], rfl, ⟨(g4.1.upd nlD (d.free hl0).2).upd nfD (d.free hf0).2, fun b o hb n => ?_⟩, ?_, upd_same, ?_, ?_, ?_⟩
      · rw [upd_ne (ne_of_none hb hf0), upd_ne (ne_of_none hb hl0)]
        exact g4.2 b o hb n
      · rw [upd_ne nlf, upd_same]
      · rw [List.length_eraseIdx_of_lt hv]
        omega
      · rw [List.length_append, List.length_singleton, e2]
      · rw [← List.append_assoc]
        exact ((List.perm_append_singleton _ _).trans ((erase_perm ex).append_right fs)).trans m1
    · rintro σ H1 ⟨y, ls, fs, rfl, g, h1, h2, e1, e2, m1⟩
      have : ls = [] := List.length_eq_zero_iff.mp (by omega)
      rw [this, List.nil_append] at m1
      exact ⟨_, rfl, q _ f fs g hf0 h2 m1⟩
end
end Mt
namespace Mt
open PySem PySem.Spec PyProof.Rows L2
theorem inV_str (z : Str) (ss : List Str) : inV (.str z) (ss.map V.str) = decide (z ∈ ss) := by
  unfold inV
  rw [List.any_map, Bool.eq_iff_iff, List.any_eq_true, decide_eq_true_iff]
  constructor
  · rintro ⟨s, hs, h⟩
    have h : (s == z) = true := h
    rw [← eq_of_beq h]
    exact hs
  · intro h
    exact ⟨z, h, (beq_self_eq_true z : (z == z) = true)⟩
theorem flat_strs (ss : List Str) : (ss.map V.str).all flatV = true := by
  rw [List.all_map]
  exact List.all_eq_true.mpr fun _ _ => rfl
def vN (k : Nat) : V := .int (k : Int)
theorem inV_nat (z : Nat) (ss : List Nat) : inV (.int (z : Int)) (ss.map vN) = decide (z ∈ ss) := by
  unfold inV
  rw [List.any_map, Bool.eq_iff_iff, List.any_eq_true, decide_eq_true_iff]
  constructor
  · rintro ⟨s, hs, h⟩
    have h : (((s : Nat) : Int) == ((z : Nat) : Int)) = true := h
    have := eq_of_beq h
    have e : s = z := by omega
    rw [← e]
    exact hs
  · intro h
    exact ⟨z, h, (beq_self_eq_true (z : Int) : ((z : Int) == (z : Int)) = true)⟩
theorem flat_nats (ss : List Nat) : (ss.map vN).all flatV = true := by
  rw [List.all_map]
  exact List.all_eq_true.mpr fun _ _ => rfl
/-! ### watches -/
structure Wt where
  rows : List (List (Str × Nat) × Nat)
  bad : List Nat
def dPr (p : Str × Nat) : PyData := .tuple [.str p.1, .int (p.2 : Int)]
def dFb (t : Nat) : PyData := .tuple [.none, .int (t : Int)]
def dWr (r : List (Str × Nat) × Nat) : PyData := .tuple (r.1.map dPr ++ [dFb r.2])
def dNs (l : List Nat) : PyData := .tuple (l.map fun k : Nat => .int (k : Int))
def dWt (W : Wt) : PyData := .tuple [.str "watch", .tuple (W.rows.map dWr), dNs W.bad]
structure WtOk (W : Wt) : Prop where
  pos : 0 < W.rows.length
  few : W.rows.length ≤ 20
  fewB : W.bad.length ≤ 20
  row : ∀ r ∈ W.rows, r.1.length ≤ 20 ∧ r.2 < W.rows.length ∧ ∀ p ∈ r.1, p.2 < W.rows.length
def wRow (W : Wt) (p : Nat) : List (Str × Nat) × Nat := (W.rows[p]?).getD ([], 0)
theorem wRow_at {W : Wt} {p : Nat} (h : p < W.rows.length) : W.rows[p]? = some (wRow W p) := by
  unfold wRow
  rw [List.getElem?_eq_getElem h]
  rfl
def hit (sh : List Str) (q : Str × Nat) : Bool := decide (q.1 ∈ sh)
def wTo (r : List (Str × Nat) × Nat) (sh : List Str) : Nat := match r.1.find? (hit sh) with
  | some q => q.2
  | none => r.2
def wStep (W : Wt) (p : Nat) (sh : List Str) : Nat := wTo (wRow W p) sh
theorem wStep_lt {W : Wt} (ok : WtOk W) {p : Nat} (h : p < W.rows.length) (sh : List Str) : wStep W p sh < W.rows.length := by
  obtain ⟨_, h2, h3⟩ := ok.row _ (List.mem_of_getElem? (wRow_at h))
  unfold wStep wTo
  cases e : (wRow W p).1.find? (hit sh) with
  | none => exact h2
  | some q => exact h3 q (List.mem_of_find?_eq_some e)
theorem wTo_hit {r : List (Str × Nat) × Nat} {sh : List Str} {i : Nat} {q : Str × Nat} (h : r.1[i]? = some q) (hq : hit sh q = true) (no : ∀ x ∈ r.1.take i, ¬ hit sh x = true) : wTo r sh = q.2 := by
  have il := (List.getElem?_eq_some_iff.mp h).1
  have e : r.1.find? (hit sh) = some q := by
    rw [← List.take_append_drop i r.1, List.find?_append, List.find?_eq_none.mpr no, List.drop_eq_getElem_cons il, List.find?_cons_of_pos (by rw [List.getElem?_eq_getElem il] at h; rw [Option.some.inj h]; exact hq)]
    rw [List.getElem?_eq_getElem il] at h
    rw [Option.some.inj h]
    rfl
  unfold wTo
  rw [e]
theorem wTo_none {r : List (Str × Nat) × Nat} {sh : List Str} (no : ∀ x ∈ r.1, ¬ hit sh x = true) : wTo r sh = r.2 := by
  unfold wTo
  rw [List.find?_eq_none.mpr no]
theorem dPr_noL (p : Str × Nat) : noL (dPr p) = true := rfl
theorem dWr_noL (r : List (Str × Nat) × Nat) : noL (dWr r) = true := by
  show noLs (r.1.map dPr ++ [dFb r.2]) = true
  have : ∀ l : List (Str × Nat), noLs (l.map dPr ++ [dFb r.2]) = true := fun l => by
    induction l with
    | nil => rfl
    | cons a t ih =>
      show (noL (dPr a) && noLs (t.map dPr ++ [dFb r.2])) = true
      rw [ih]
      rfl
  exact this r.1
theorem dNs_noL (l : List Nat) : noL (dNs l) = true := noLs_map _ _ fun _ _ => rfl
theorem dWt_noL (W : Wt) : noL (dWt W) = true := by
  show (true && (noLs (W.rows.map dWr) && (noL (dNs W.bad) && true))) = true
  rw [noLs_map _ _ fun r _ => dWr_noL r, dNs_noL]
  rfl
theorem dp_nats {K : PySem.W.Frag} {H : Hp} : ∀ {l : List Nat} {xs : List V}, DpAll K H xs (l.map fun t : Nat => .int (t : Int)) → xs = l.map vN
  | [], _, h => dpA_nil h
  | s :: r, _, h => by
    obtain ⟨x, t, rfl, h1, h2⟩ := dpA_cons h
    rw [dp_int h1, dp_nats h2]
    rfl
theorem nats_dp {K : PySem.W.Frag} {H : Hp} : ∀ l : List Nat, DpAll K H (l.map vN) (l.map fun k : Nat => .int (k : Int))
  | [] => .nil
  | s :: r => .cons (.int _) (nats_dp r)
theorem wt_at {K : PySem.W.Frag} {H : Hp} {v : V} {W : Wt} (h : Dp K H v (dWt W)) : ∃ p q b xs, v = .ref p ∧ SqT K H p [.str "watch", .ref q, .ref b] ∧ SqT K H q xs ∧ DpAll K H xs (W.rows.map dWr) ∧ SqT K H b (W.bad.map vN) := by
  obtain ⟨p, us, rfl, h1, hA⟩ := dp_tup h
  obtain ⟨x0, r0, rfl, h0, hA⟩ := dpA_cons hA
  obtain ⟨x1, r1, rfl, h2, hA⟩ := dpA_cons hA
  obtain ⟨x2, r2, rfl, h3, hA⟩ := dpA_cons hA
  cases dpA_nil hA
  obtain rfl := dp_str h0
  obtain ⟨q, xs, rfl, h4, h5⟩ := dp_tup h2
  obtain ⟨b, ys, rfl, h6, h7⟩ := dp_tup h3
  obtain rfl := dp_nats h7
  exact ⟨p, q, b, xs, rfl, h1, h4, h5, h6⟩
theorem pr_at {K : PySem.W.Frag} {H : Hp} {v : V} {q : Str × Nat} (h : Dp K H v (dPr q)) : ∃ p, v = .ref p ∧ SqT K H p [.str q.1, vN q.2] := by
  obtain ⟨p, us, rfl, h1, hA⟩ := dp_tup h
  obtain ⟨x0, r0, rfl, h0, hA⟩ := dpA_cons hA
  obtain ⟨x1, r1, rfl, h2, hA⟩ := dpA_cons hA
  cases dpA_nil hA
  obtain rfl := dp_str h0
  obtain rfl := dp_int h2
  exact ⟨p, rfl, h1⟩
theorem fb_at {K : PySem.W.Frag} {H : Hp} {v : V} {t : Nat} (h : Dp K H v (dFb t)) : ∃ p, v = .ref p ∧ SqT K H p [.non, vN t] := by
  obtain ⟨p, us, rfl, h1, hA⟩ := dp_tup h
  obtain ⟨x0, r0, rfl, h0, hA⟩ := dpA_cons hA
  obtain ⟨x1, r1, rfl, h2, hA⟩ := dpA_cons hA
  cases dpA_nil hA
  obtain rfl := dp_non h0
  obtain rfl := dp_int h2
  exact ⟨p, rfl, h1⟩
/-- a row: its pairs, and the last one -/
theorem wr_at {K : PySem.W.Frag} {H : Hp} {v : V} {r : List (Str × Nat) × Nat} (h : Dp K H v (dWr r)) : ∃ p xs y, v = .ref p ∧ SqT K H p (xs ++ [y]) ∧ DpAll K H xs (r.1.map dPr) ∧ Dp K H y (dFb r.2) := by
  obtain ⟨p, us, rfl, h1, hA⟩ := dp_tup h
  have split : ∀ (l : List (Str × Nat)) (us : List V), DpAll K H us (l.map dPr ++ [dFb r.2]) → ∃ xs y, us = xs ++ [y] ∧ DpAll K H xs (l.map dPr) ∧ Dp K H y (dFb r.2) := fun l => by
    induction l with
    | nil =>
      intro us h
      obtain ⟨y, t, rfl, hy, ht⟩ := dpA_cons h
      cases dpA_nil ht
      exact ⟨[], y, rfl, .nil, hy⟩
    | cons a t ih =>
      intro us h
      obtain ⟨x, u, rfl, hx, hu⟩ := dpA_cons h
      obtain ⟨xs, y, rfl, h1, h2⟩ := ih u hu
      exact ⟨x :: xs, y, rfl, .cons hx h1, h2⟩
  obtain ⟨xs, y, rfl, h2, h3⟩ := split r.1 us hA
  exact ⟨p, xs, y, rfl, h1, h2, h3⟩
theorem cut_last {xs : List V} {y : V} : cutV (xs ++ [y]) none (some (-1)) = xs := by
  unfold cutV
  rw [HT.sIx_none]
  have : HT.sIx (xs ++ [y]).length (xs ++ [y]).length (some (-1)) = xs.length := by
    show (if (-1 : Int) < 0 then ((-1 : Int) + ((xs ++ [y]).length : Int)).toNat else min (-1 : Int).toNat (xs ++ [y]).length) = xs.length
    rw [if_pos (by decide), List.length_append, List.length_singleton]
    omega
  rw [this, List.drop_zero, Nat.sub_zero, List.take_left]
theorem atI_m1 {xs : List V} {x : V} (h : xs.getLast? = some x) : atI xs (-1) = some x := by
  cases xs with
  | nil => cases h
  | cons a r =>
    unfold atI ixN
    rw [if_neg (by decide), if_pos (by rw [List.length_cons]; omega)]
    show (a :: r)[(-1 + ((a :: r).length : Int)).toNat]? = some x
    rw [show (-1 + ((a :: r).length : Int)).toNat = (a :: r).length - 1 by rw [List.length_cons]; omega, ← List.getLast?_eq_getElem?]
    exact h
def spPlace (K : PySem.W.Frag) : Sp := fun vs H Q _ => ∃ (vw v : V) (p : Nat) (W : Wt) (sh : List Str), vs = [vw, .int (p : Int), v] ∧ Dp K H vw (dWt W) ∧ WtOk W ∧ p < W.rows.length ∧ Dp K H v (dSh sh) ∧ ∀ H', Same H H' → Q (.int (wStep W p sh : Nat)) H'
section
variable {P : Program} {w : World} {K : PySem.W.Frag} {mg : Str → Option Value} {base : Heap}
theorem ok_place_behind (T : Txt K mg) {f : Addr} {fd : FuncData} (F : FnP K "place_behind" s_place_behind f fd) : FnOk P w K mg base CX0 1 f fd ["watch", "place", "shown"] (spPlace K) := by
  refine F.ok sc_place_behind (fun vs H Q E h => ?_) (fun cdv A outer s H vs Q E hr h => ?_)
  · obtain ⟨vw, v, p, W, sh, rfl, _⟩ := h
    rfl
  · obtain ⟨vw, v, p, W, sh, rfl, hW, ok, hp, hv, q⟩ := h
    refine ⟨_, PSs.nox (pss_cons (ps_set (i := 3) sc_place_behind.nd rfl (Or.inl rfl) (pe_ix ix_tup (pe_ix ix_tup (pv 0) pe_int (fun _ _ => rfl)) (pv 1) (fun _ _ => rfl)))
      (pss_cons (ps_for PassesOwn.never rfl (pi_tup (pe_slice sl_tupA (pv 3) po_none (po_some (pe_un un_neg pe_int)))) (pg_tup rfl (pgs_cons (pg_name (i := 4) sc_place_behind.nd rfl (Or.inl rfl)) (pgs_cons (pg_name (i := 5) sc_place_behind.nd rfl (Or.inl rfl)) pgs_nil))) (pss_one (ps_if (pt_cmpR op_in_seq (pv 4) (pv 2) (by rfl)) (pss_one (ps_ret (pv 5))) pss_nil)))
      (pss_one (ps_ret (pe_ix ix_tup (pe_ix ix_tup (pv 3) (pe_un un_neg pe_int) (fun _ _ => rfl)) pe_int (fun _ _ => rfl)))))), ?_⟩
    obtain ⟨pw, pq, pb, us, rfl, hpw, hpq, hA, hpb⟩ := wt_at hW
    obtain ⟨x, hx, hd⟩ := dpA_get hA (wRow_at hp)
    obtain ⟨fewr, _, _⟩ := ok.row _ (List.mem_of_getElem? (wRow_at hp))
    obtain ⟨pr, xs, y, rfl, hpr, hxs, hy⟩ := wr_at hd
    obtain ⟨py, rfl, hpy⟩ := fb_at hy
    obtain ⟨ps, rfl, hps⟩ := sh_at hv
    have xl := dpA_len hxs
    rw [List.length_map] at xl
    refine ⟨_, rfl, pw, _, _, _, rfl, rfl, hpw, atI_nat (j := 1) rfl, _, rfl, pq, _, _, _, rfl, rfl, hpq, atI_nat hx, ?_⟩
    have dec : ∀ (q : Str × Nat), (decide (q.1 ∈ sh) = true) = (hit sh q = true) := fun q => rfl
    refine ⟨_, rfl, _, rfl, _, rfl, pr, _, rfl, hpr, fun e => ?_, fun _ pn hpn => ?_⟩
    · exfalso
      have : HT.sIx (xs ++ [V.ref py]).length (xs ++ [V.ref py]).length (some (-1)) = xs.length := by
        show (if (-1 : Int) < 0 then ((-1 : Int) + ((xs ++ [V.ref py]).length : Int)).toNat else min (-1 : Int).toNat (xs ++ [V.ref py]).length) = xs.length
        rw [if_pos (by decide), List.length_append, List.length_singleton]
        omega
      have e2 := e.2
      rw [this, List.length_append, List.length_singleton] at e2
      omega
    · rw [cut_last]
      have s1 := same_new (o := .tup xs) hpn
      have hpn1 := upd_same (H := H) (a := pn) (o := .tup xs)
      generalize upd H pn (.tup xs) = H1 at s1 hpn1
      refine ⟨pn, rfl, ⟨_, SqT.of hpn1⟩, for_tup (K := K) (a := pn) (xs := xs) (fun i σ H' => ∃ (y4 y5 : Option V), σ = [some (.ref pw), some (.int (p : Int)), some (.ref ps), some (.ref pr), y4, y5] ∧ H' = H1 ∧ ∀ x ∈ (wRow W p).1.take i, ¬ hit sh x = true) ⟨_, _, rfl, rfl, fun x h => absurd h List.not_mem_nil⟩ (fun i σ H' _ ⟨_, _, _, e, _⟩ => by rw [e]; exact SqT.of hpn1) ?_ ?_⟩
      · rintro i z σ H2 hi ⟨y4, y5, rfl, rfl, no⟩
        obtain ⟨q0, hq0, hz⟩ := dpA_mem (dpA_same s1 _ _ hxs) hi
        obtain ⟨pz, rfl, hpz⟩ := pr_at hz
        refine ⟨pz, _, rfl, hpz, rfl, _, _, rfl, _, _, rfl, rfl, ?_⟩
        refine ⟨_, rfl, _, rfl, ps, _, rfl, .inr (same_t s1 hps), rfl, flat_strs _, ?_⟩
        rw [inV_str]
        refine ⟨_, rfl, ite2 (fun h => ?_) (fun h => ?_)⟩
        · have e := wTo_hit hq0 h no
          refine ⟨_, rfl, ?_⟩
          have := q _ s1
          unfold wStep at this
          rw [e] at this
          exact this
        · refine ⟨_, _, rfl, rfl, fun x hx => ?_⟩
          rw [take_snoc hq0] at hx
          rcases List.mem_append.mp hx with hx | hx
          · exact no x hx
          · rw [List.mem_singleton.mp hx]
            exact h
      · rintro σ H2 ⟨y4, y5, rfl, rfl, no⟩
        rw [xl, List.take_length] at no
        have e := wTo_none no
        refine ⟨_, rfl, _, rfl, pr, _, _, _, rfl, rfl, same_t s1 hpr, atI_m1 (x := V.ref py) (by rw [List.getLast?_append]; rfl), py, _, _, _, rfl, rfl, same_t s1 hpy, atI_nat (j := 1) rfl, ?_⟩
        have := q _ s1
        unfold wStep at this
        rw [e] at this
        exact this
theorem ok__law_watch_step (T : Txt K mg) {f : Addr} {fd : FuncData} (F : FnP K "_law_watch_step" s__law_watch_step f fd) : FnOk P w K mg base CX0 1 f fd ["watch", "state", "shown"] (spPlace K) := by
  refine F.ok sc__law_watch_step (fun vs H Q E h => ?_) (fun cdv A outer s H vs Q E hr h => ?_)
  · obtain ⟨vw, v, p, W, sh, rfl, _⟩ := h
    rfl
  · obtain ⟨vw, v, p, W, sh, rfl, hW, ok, hp, hv, q⟩ := h
    refine ⟨_, PSs.nox (pss_cons (ps_for PassesOwn.never rfl (pi_tup (pe_ix ix_tup (pe_ix ix_tup (pv 0) pe_int (fun _ _ => rfl)) (pv 1) (fun _ _ => rfl))) (pg_tup rfl (pgs_cons (pg_name (i := 3) sc__law_watch_step.nd rfl (Or.inl rfl)) (pgs_cons (pg_name (i := 4) sc__law_watch_step.nd rfl (Or.inl rfl)) pgs_nil))) (pss_one (ps_if (PW.pt (pw_or (pt_cmpR op_isN (pv 3) pe_non (nomark _)) (pw_or1 (pt_cmpR op_in_seq (pv 3) (pv 2) (by rfl))))) (pss_one (ps_ret (pv 4))) pss_nil)))
      (pss_one (ps_ret (pv 1)))), ?_⟩
    obtain ⟨pw, pq, pb, us, rfl, hpw, hpq, hA, hpb⟩ := wt_at hW
    obtain ⟨x, hx, hd⟩ := dpA_get hA (wRow_at hp)
    obtain ⟨pr, xs, y, rfl, hpr, hxs, hy⟩ := wr_at hd
    obtain ⟨py, rfl, hpy⟩ := fb_at hy
    obtain ⟨ps, rfl, hps⟩ := sh_at hv
    have xl := dpA_len hxs
    rw [List.length_map] at xl
    refine ⟨_, rfl, pw, _, _, _, rfl, rfl, hpw, atI_nat (j := 1) rfl, _, rfl, pq, _, _, _, rfl, rfl, hpq, atI_nat hx, pr, rfl, ⟨_, hpr⟩, for_tup (K := K) (a := pr) (xs := xs ++ [.ref py]) (fun i σ H' => ∃ (y3 y4 : Option V), σ = [some (.ref pw), some (.int (p : Int)), some (.ref ps), y3, y4] ∧ H' = H ∧ i ≤ xs.length ∧ ∀ x ∈ (wRow W p).1.take i, ¬ hit sh x = true) ⟨_, _, rfl, rfl, Nat.zero_le _, fun x h => absurd h List.not_mem_nil⟩ (fun i σ H' _ ⟨_, _, _, e, _⟩ => by rw [e]; exact hpr) ?_ ?_⟩
    · rintro i z σ H2 hi ⟨y3, y4, rfl, rfl, hle, no⟩
      by_cases il : i < xs.length
      · rw [List.getElem?_append_left il] at hi
        obtain ⟨q0, hq0, hz⟩ := dpA_mem hxs hi
        obtain ⟨pz, rfl, hpz⟩ := pr_at hz
        refine ⟨pz, _, rfl, hpz, rfl, _, _, rfl, _, _, rfl, rfl, ?_⟩
        refine ⟨_, rfl, rfl, _, rfl, ite2 (fun h => (nomatch (show false = true from h))) (fun _ => ?_)⟩
        refine ⟨_, rfl, _, rfl, ps, _, rfl, .inr hps, rfl, flat_strs _, ?_⟩
        rw [inV_str]
        refine ⟨_, rfl, ite2 (fun h => ?_) (fun h => ?_)⟩
        · have e := wTo_hit hq0 h no
          refine ⟨_, rfl, ?_⟩
          have := q _ (Same.refl _)
          unfold wStep at this
          rw [e] at this
          exact this
        · refine ⟨_, _, rfl, rfl, il, fun x hx => ?_⟩
          rw [take_snoc hq0] at hx
          rcases List.mem_append.mp hx with hx | hx
          · exact no x hx
          · rw [List.mem_singleton.mp hx]
            exact h
      · have ei : i = xs.length := by omega
        subst ei
        rw [List.getElem?_append_right (Nat.le_refl _), Nat.sub_self] at hi
        obtain rfl := Option.some.inj hi
        rw [xl, List.take_length] at no
        have e := wTo_none no
        refine ⟨py, _, rfl, hpy, rfl, _, _, rfl, _, _, rfl, rfl, ?_⟩
        refine ⟨_, rfl, rfl, _, rfl, ite2 (fun _ => ?_) (fun h => absurd rfl h)⟩
        refine ⟨_, rfl, ?_⟩
        have := q _ (Same.refl _)
        unfold wStep at this
        rw [e] at this
        exact this
    · rintro σ H2 ⟨y3, y4, rfl, rfl, hle, no⟩
      rw [List.length_append, List.length_singleton] at hle
      omega
end
end Mt
namespace Mt
open PySem PySem.Spec PyProof.Rows L2
def fnd1 (r : List Br) (w : List Int) : Option Br := r.find? fun x => decide (x.1 = w)
def stp (C : Chn) (st : Option (List Br × Nat)) (w : List Int) : Option (List Br × Nat) := st.bind fun x => (fnd1 (rowOf C x.2) w).map fun b => (x.1 ++ [b], b.2.2)
/-- the branches of a walk along blocks, and where it ends -/
def alg (C : Chn) (s : Nat) (bl : List (List Int)) : Option (List Br × Nat) := bl.foldl (stp C) (some ([], s))
theorem alg_snoc {C : Chn} {s : Nat} {bl : List (List Int)} {i : Nat} {w : List Int} (h : bl[i]? = some w) : alg C s (bl.take (i + 1)) = stp C (alg C s (bl.take i)) w := by
  unfold alg
  rw [take_snoc h, List.foldl_append]
  rfl
theorem stp_none (C : Chn) : ∀ bl : List (List Int), bl.foldl (stp C) none = none
  | [] => rfl
  | _ :: r => stp_none C r
theorem alg_none {C : Chn} {s : Nat} {bl : List (List Int)} {i : Nat} (h : alg C s (bl.take i) = none) : alg C s bl = none := by
  have : alg C s bl = (bl.drop i).foldl (stp C) (alg C s (bl.take i)) := by
    unfold alg
    rw [← List.foldl_append, List.take_append_drop]
  rw [this, h, stp_none]
theorem fnd1_mem {r : List Br} {w : List Int} {b : Br} (h : fnd1 r w = some b) : b ∈ r := List.mem_of_find?_eq_some h
theorem fnd1_head {r : List Br} {w : List Int} : (r.filter fun x => decide (x.1 = w)).head? = fnd1 r w := List.head?_filter
def spAlongG (K : PySem.W.Frag) : Sp := fun vs H Q _ => ∃ (vr vb : V) (s : Nat) (base : Int) (C : Chn) (bl : List (List Int)), vs = [vr, .int s, vb] ∧ Dp K H vr (.tuple (C.map dRw)) ∧ ChnOk base C ∧ s < C.length ∧ bl.length ≤ 1000 ∧ Dp K H vb (.tuple (bl.map dI)) ∧
  (alg C s bl = none → ∀ H', Same H H' → Q .non H') ∧ ∀ l t, alg C s bl = some (l, t) → ∀ H' v, Same H H' → Dp K H' v (.list (l.map dBr)) → Q v H'
section
variable {P : Program} {w : World} {K : PySem.W.Frag} {mg : Str → Option Value} {base : Heap}
theorem ok_branches_along (T : Txt K mg) {f : Addr} {fd : FuncData} (F : FnP K "branches_along" s_branches_along f fd) : FnOk P w K mg base CX0 1 f fd ["rows", "state", "blocks"] (spAlongG K) := by
  refine F.ok sc_branches_along (fun vs H Q E h => ?_) (fun cdv A outer s H vs Q E hr h => ?_)
  · obtain ⟨vr, vb, s, b, C, bl, rfl, _⟩ := h
    rfl
  · obtain ⟨vr, vb, s0, b, C, bl, rfl, hR, ok, hs, hl, hb, qN, qS⟩ := h
    refine ⟨_, PSs.nox (pss_cons (ps_set (i := 3) sc_branches_along.nd rfl (Or.inl rfl) (pe_lst pa_nil))
      (pss_cons (ps_for PassesOwn.never rfl (pi_tup (pv 2)) (pg_name (i := 4) sc_branches_along.nd rfl (Or.inr rfl)) (pss_cons (ps_setLc (i := 5) (own := [("branch", 6)]) (g := (gName 6)) rfl sc_branches_along.nd rfl rfl (sw_true rfl rfl rfl (by decide +kernel)) (pi_tup (pe_ix ix_tup (pv 0) (pv 1) (fun _ _ => rfl))) (blkOk_by (N := N_branches_along) (sc := defScope s_branches_along) (by decide +kernel)) (fun _ _ _ _ _ => (pg_name (i := 6) sc_branches_along.nd rfl (Or.inl rfl))) (fun _ _ _ _ _ => (pts_one (pt_cmpR (eqDK (K := K) rfl (hr.units)) (pe_ix (ixT (K := K) rfl) (pv 6) pe_int (fun _ _ => rfl)) (pv 4) (nomark _)))) (fun _ _ _ _ _ => (pv 6)))
      (pss_cons (ps_if (pt_not (pt_truth (pv 5) (by intro _; rfl))) (pss_one (ps_ret pe_non)) pss_nil)
      (pss_cons (ps_expr (pe_bm PySem.F.plainAttrs_list PySem.F.slot_list_append PySem.F.type_list_append mt_append (pv 3) (pa_cons (pe_ix ix_list (pv 5) pe_int (fun _ _ => rfl)) pa_nil)))
      (pss_one (ps_set (i := 1) sc_branches_along.nd rfl (Or.inl rfl) (pe_ix ix_tup (pe_ix ix_list (pv 5) pe_int (fun _ _ => rfl)) pe_int (fun _ _ => rfl))))))))
      (pss_one (ps_ret (pv 3))))), ?_⟩
    obtain ⟨pq, xs, rfl, hpq, hA⟩ := dp_tup hR
    obtain ⟨pB, ys, rfl, hpB, hB⟩ := dp_tup hb
    have yl := dpA_len hB
    rw [List.length_map] at yl
    refine ⟨Nat.zero_le _, fun L hL => ?_⟩
    have s1 := same_new (o := .lst []) hL
    have hL1 := upd_same (H := H) (a := L) (o := .lst [])
    generalize upd H L (.lst []) = H1 at s1 hL1
    refine ⟨_, rfl, pB, rfl, ⟨_, same_t s1 hpB⟩, for_tup (K := K) (a := pB) (xs := ys) (fun i σ H' => ∃ (y4 y5 : Option V) (zs : List V) (l : List Br) (t : Nat), σ = [some (.ref pq), some (.int (t : Nat)), some (.ref pB), some (.ref L), y4, y5, none] ∧ Same H H' ∧ H' L = some (.lst zs) ∧ DpAll K H' zs (l.map dBr) ∧ t < C.length ∧ alg C s0 (bl.take i) = some (l, t) ∧ l.length = i) ⟨_, _, [], [], s0, rfl, s1, hL1, .nil, hs, rfl, rfl⟩ (fun i σ H' _ ⟨_, _, _, _, _, _, s, _⟩ => same_t s hpB) ?_ ?_⟩
    · rintro i y σ H2 hi ⟨y4, y5, zs, l, t, rfl, s2, hL2, hzs, hst, ha, ll⟩
      obtain ⟨wd, hwd, hy⟩ := dpA_mem hB hi
      have il := (List.getElem?_eq_some_iff.mp hwd).1
      have ha2 := alg_snoc (C := C) (s := s0) hwd
      rw [ha] at ha2
      obtain ⟨xr, hxr, hdr⟩ := dpA_get hA (rowOf_at hst)
      have okr := ok.row _ (List.mem_of_getElem? (rowOf_at hst))
      obtain ⟨pr, rs, rfl, hpr, hrs⟩ := dp_tup hdr
      have rl := dpA_len hrs
      rw [List.length_map] at rl
      have few := okr.few
      have zl := dpA_len hzs
      rw [List.length_map] at zl
      refine ⟨_, rfl, _, rfl, pq, _, _, _, rfl, rfl, same_t s2 hpq, atI_nat hxr, pr, rfl, ⟨_, same_t s2 hpr⟩, fun M hM => lc_tup (K := K) (a := pr) (xs := rs) (fun k H' => Same H2 H' ∧ ∃ us : List V, H' M = some (.lst us) ∧ DpAll K H' us ((((rowOf C t).take k).filter fun x => decide (x.1 = wd)).map dBr)) ⟨same_new hM, [], upd_same, .nil⟩ (fun k H' _ e => same_t (s2.trans e.1) hpr) ?_ ?_⟩
      · rintro k x H3 hk ⟨s3, us, hM3, hus⟩
        obtain ⟨bx, hbx, hx⟩ := dpA_mem (dpA_same (s2.trans s3) _ _ hrs) hk
        have hx' := hx
        obtain ⟨px, x0, x1, rfl, hpx, hd0, hd1⟩ := br_at hx
        have ul := dpA_len hus
        rw [List.length_map] at ul
        have fl := List.length_filter_le (fun x : Br => decide (x.1 = wd)) ((rowOf C t).take k)
        rw [List.length_take] at fl
        refine ⟨rfl, _, rfl, px, _, _, _, rfl, rfl, hpx, atI_nat (j := 0) rfl, _, rfl, dI bx.1, dI wd, hd0, dp_same (s2.trans s3) _ _ hy, dI_sh _, dI_sh _, _, rfl, ?_⟩
        rw [eqv_I]
        have ft : ((rowOf C t).take (k + 1)).filter (fun x => decide (x.1 = wd)) = ((rowOf C t).take k).filter (fun x => decide (x.1 = wd)) ++ [bx].filter (fun x => decide (x.1 = wd)) := by
          rw [take_snoc hbx, List.filter_append]
        cases hdec : decide (bx.1 = wd) with
        | true =>
          refine ⟨_, rfl, us, hM3, line6 (by omega), same_mut s3 hM, us ++ [.ref px], upd_same, ?_⟩
          have kM := keepT_nt (o := .lst (us ++ [.ref px])) (nt_lst _) hM3
          rw [ft, List.filter_cons_of_pos (p := fun x : Br => decide (x.1 = wd)) hdec, List.filter_nil, List.map_append]
          exact dpA_snoc (dpA_keep kM _ _ (noLs_br _) hus) (dp_keep kM _ _ (dBr_noL _) hx')
        | false =>
          refine ⟨s3, us, hM3, ?_⟩
          rw [ft, List.filter_cons_of_neg (p := fun x : Br => decide (x.1 = wd)) (by simp [hdec]), List.filter_nil, List.append_nil]
          exact hus
      · rintro H3 ⟨s3, us, hM3, hus⟩
        rw [rl, List.take_length] at hus
        have hf := fnd1_head (r := rowOf C t) (w := wd)
        cases hfl : (rowOf C t).filter (fun x => decide (x.1 = wd)) with
        | nil =>
          rw [hfl] at hf hus
          have hn : alg C s0 (bl.take (i + 1)) = none := by
            rw [ha2]
            show (fnd1 (rowOf C t) wd).map _ = none
            rw [← hf]
            rfl
          have hu0 : us = [] := dpA_nil hus
          subst hu0
          refine ⟨_, rfl, false, .inl ⟨_, SqL.of hM3, rfl⟩, ?_⟩
          exact qN (alg_none hn) _ (s2.trans s3)
        | cons b0 r0 =>
          rw [hfl] at hf hus
          have hn : alg C s0 (bl.take (i + 1)) = some (l ++ [b0], b0.2.2) := by
            rw [ha2]
            show (fnd1 (rowOf C t) wd).map _ = _
            rw [← hf]
            rfl
          have hin : b0 ∈ rowOf C t := fnd1_mem hf.symm
          obtain ⟨x0, r1, rfl, hx0, hr0⟩ := dpA_cons hus
          have hx' := hx0
          obtain ⟨px, z0, z1, rfl, hpx, hd0, hd1⟩ := br_at hx0
          have hL3 := s3 _ _ hL2
          have kL := keepT_nt (o := .lst (zs ++ [.ref px])) (nt_lst _) hL3
          have LM : M ≠ L := (ne_of_none hL2 hM).symm
          refine ⟨_, rfl, true, .inl ⟨_, SqL.of hM3, rfl⟩, iteNT ?_⟩
          refine ⟨_, rfl, .inl ⟨rfl, _, SqL.of hL3⟩, _, rfl, M, _, _, _, rfl, rfl, SqL.of hM3, atI_nat (j := 0) rfl, L, zs, _, rfl, rfl, hL3, line6 (by omega), ?_⟩
          have hM4 : (upd H3 L (.lst (zs ++ [.ref px]))) M = some (.lst (.ref px :: r1)) := by
            rw [upd_ne LM]
            exact hM3
          refine ⟨_, rfl, M, _, _, _, rfl, rfl, SqL.of hM4, atI_nat (j := 0) rfl, px, _, _, _, rfl, rfl, sqt_keep kL hpx, atI_nat (j := 2) rfl, ?_⟩
          refine ⟨_, _, zs ++ [.ref px], l ++ [b0], b0.2.2, rfl, same_mut (s2.trans s3) hL, upd_same, ?_, (okr.to b0 hin).1, hn, by rw [List.length_append, ll]; rfl⟩
          rw [List.map_append]
          exact dpA_snoc (dpA_keep kL _ _ (noLs_br _) (dpA_same s3 _ _ hzs)) (dp_keep kL _ _ (dBr_noL _) hx')
    · rintro σ H2 ⟨y4, y5, zs, l, t, rfl, s2, hL2, hzs, hst, ha, ll⟩
      rw [yl, List.take_length] at ha
      exact ⟨_, rfl, qS l t ha _ _ s2 (.lst (SqL.of hL2) hzs)⟩
end
end Mt
namespace Mt
open PySem PySem.Spec PyProof.Rows L2
abbrev s_wi : Stmt := inClass (topS 4) 0
abbrev s_wc : Stmt := inClass (topS 4) 1
abbrev s_wb : Stmt := inClass (topS 4) 3
theorem sc_wi : FnScope ["self", "watch"] ["self", "watch"] (defScope s_wi) := ⟨rfl, rfl, rfl, by decide +kernel, rfl, by decide +kernel, by decide +kernel⟩
theorem sc_wc : FnScope ["self", "shown"] ["self", "shown"] (defScope s_wc) := ⟨rfl, rfl, rfl, by decide +kernel, rfl, by decide +kernel, by decide +kernel⟩
theorem sc_wb : FnScope ["self"] ["self"] (defScope s_wb) := ⟨rfl, rfl, rfl, by decide +kernel, rfl, by decide +kernel, by decide +kernel⟩
abbrev FnM (K : PySem.W.Frag) (x q : Str) (st : Stmt) (f : Addr) (fd : FuncData) : Prop := FunD K x q (defArgs st) (defBody st) (defScope st) [] [] f fd
/-! ### a watcher: what its object holds -/
theorem n_wh : ¬ ("watch" : Str) = "here" := by decide +kernel
theorem n_wb : ¬ ("watch" : Str) = "has_broken" := by decide +kernel
theorem n_hb : ¬ ("here" : Str) = "has_broken" := by decide +kernel
theorem b_hw : (("here" : Str) == "watch") = false := by decide +kernel
theorem b_bw : (("has_broken" : Str) == "watch") = false := by decide +kernel
theorem b_bh : (("has_broken" : Str) == "here") = false := by decide +kernel
def wf (vw : V) (h : Nat) (b : Bool) : List (Str × V) := [("watch", vw), ("here", .int (h : Int)), ("has_broken", .bl b)]
theorem wf_w (vw : V) (h : Nat) (b : Bool) : (wf vw h b).lookup ("watch" : Str) = some vw := by
  unfold wf
  simp [List.lookup]
theorem wf_h (vw : V) (h : Nat) (b : Bool) : (wf vw h b).lookup ("here" : Str) = some (.int (h : Int)) := by
  unfold wf
  simp [List.lookup, b_hw]
theorem wf_b (vw : V) (h : Nat) (b : Bool) : (wf vw h b).lookup ("has_broken" : Str) = some (.bl b) := by
  unfold wf
  simp [List.lookup, b_bw, b_bh]
theorem wf_seth (vw : V) (h h' : Nat) (b : Bool) : putF "here" (.int (h' : Int)) (wf vw h b) = wf vw h' b := by
  unfold wf
  simp [putF, n_wh]
theorem wf_setb (vw : V) (h : Nat) (b b' : Bool) : putF "has_broken" (.bl b') (wf vw h b) = wf vw h b' := by
  unfold wf
  simp [putF, n_wb, n_hb]
theorem wf_init (vw : V) (b : Bool) : putF "has_broken" (.bl b) (putF "here" (.int 0) (putF "watch" vw [])) = wf vw 0 b := by
  simp [putF, n_wh, n_wb, n_hb]
  rfl
def spWI (K : PySem.W.Frag) (C : Addr) : Sp := fun vs H Q _ => ∃ (p dx : Addr) (vw : V) (W : Wt), vs = [.ref p, vw] ∧ H p = some (.ins C dx []) ∧ Dp K H vw (dWt W) ∧ ∀ H', Keep p H H' → H' p = some (.ins C dx (wf vw 0 (decide (0 ∈ W.bad)))) → Q .non H'
def spWC (K : PySem.W.Frag) (C : Addr) : Sp := fun vs H Q _ => ∃ (p dx : Addr) (vw v : V) (W : Wt) (h : Nat) (b : Bool) (sh : List Str), vs = [.ref p, v] ∧ H p = some (.ins C dx (wf vw h b)) ∧ Dp K H vw (dWt W) ∧ WtOk W ∧ h < W.rows.length ∧ Dp K H v (dSh sh) ∧
  ∀ H', Keep p H H' → H' p = some (.ins C dx (wf vw (wStep W h sh) (b || decide (wStep W h sh ∈ W.bad)))) → Q (.int (wStep W h sh : Nat)) H'
structure WTx (K : PySem.W.Frag) (C : Addr) : Prop where
  cl : Cls K C
  nW : NoAttr K C "watch"
  nH : NoAttr K C "here"
  nB : NoAttr K C "has_broken"
theorem nt_ins (C dx : Addr) (fs : List (Str × V)) : NT (.ins C dx fs) := ⟨fun _ e => (nomatch e), fun _ _ e => (nomatch e)⟩
theorem Keep.of_same {D : Addr} {H H' : Hp} (s : Same H H') : Keep D H H' := fun b o h _ => s b o h
section
variable {P : Program} {w : World} {K : PySem.W.Frag} {mg : Str → Option Value} {base : Heap} {C : Addr}
theorem ok_wi (X : WTx K C) {f : Addr} {fd : FuncData} (F : FnM K "__init__" "Watcher.__init__" s_wi f fd) : FnOk P w K mg base CX0 1 f fd ["self", "watch"] (spWI K C) := by
  refine F.ok sc_wi (fun vs H Q E h => ?_) (fun cdv A outer s H vs Q E hr h => ?_)
  · obtain ⟨p, dx, vw, W, rfl, _⟩ := h
    rfl
  · obtain ⟨p, dx, vw, W, rfl, hp, hW, q⟩ := h
    refine ⟨_, pss_cons (ps_fld (pv 0) (pv 1) rfl) (pss_cons (ps_fld (pv 0) pe_int rfl) (pss_one (ps_fld (pv 0) (pe_cmpR op_in_seq pe_int (pe_ix ix_tup (pv 1) pe_int (fun _ _ => rfl)) (by rfl)) rfl))), ?_⟩
    have k1 := keepT_nt (o := .ins C dx (putF "watch" vw [])) (nt_ins _ _ _) hp
    refine ⟨_, rfl, _, rfl, p, C, dx, [], rfl, hp, X.cl, X.nW, by show 0 < 1000; decide, ?_⟩
    refine ⟨_, rfl, p, C, dx, _, rfl, upd_same, X.cl, X.nH, by show 1 < 1000; decide, ?_⟩
    have hp2 := upd_same (H := upd H p (.ins C dx (putF "watch" vw []))) (a := p) (o := .ins C dx (putF "here" (.int 0) (putF "watch" vw [])))
    have k2 : KeepT H (upd (upd H p (.ins C dx (putF "watch" vw []))) p (.ins C dx (putF "here" (.int 0) (putF "watch" vw [])))) := k1.trans (keepT_nt (nt_ins _ _ _) upd_same)
    obtain ⟨pw, pq, pb, us, rfl, hpw, hpq, hA, hpb⟩ := wt_at (dp_keep k2 _ _ (dWt_noL W) hW)
    refine ⟨_, rfl, pw, _, _, _, rfl, rfl, hpw, atI_nat (j := 2) rfl, pb, _, rfl, .inr hpb, rfl, flat_nats _, ?_⟩
    rw [show inV (.int 0) (W.bad.map vN) = decide (0 ∈ W.bad) from inV_nat 0 W.bad]
    refine ⟨_, rfl, p, C, dx, _, rfl, hp2, X.cl, X.nB, by show 2 < 1000; decide, ?_⟩
    refine q _ (fun x o e n => ?_) ?_
    · rw [upd_ne n, upd_ne n, upd_ne n]
      exact e
    · rw [upd_same, wf_init]
      rfl
theorem ok_wc (X : WTx K C) (D_place_behind : Kept P w K mg base 1 "place_behind" ["watch", "place", "shown"] (spPlace K)) {f : Addr} {fd : FuncData} (F : FnM K "__call__" "Watcher.__call__" s_wc f fd) : FnOk P w K mg base CX0 2 f fd ["self", "shown"] (spWC K C) := by
  refine F.ok sc_wc (fun vs H Q E h => ?_) (fun cdv A outer s H vs Q E hr h => ?_)
  · obtain ⟨p, dx, vw, v, W, h, b, sh, rfl, _⟩ := h
    rfl
  · obtain ⟨p, dx, vw, v, W, h, b, sh, rfl, hp, hW, ok, hh, hv, q⟩ := h
    refine ⟨_, PSs.nox (pss_cons (ps_fld (pv 0) (pe_d D_place_behind hr (by rfl) (pa_cons (pe_fld (pv 0) rfl) (pa_cons (pe_fld (pv 0) rfl) (pa_cons (pv 1) pa_nil)))) rfl)
      (pss_cons (ps_if (pt_cmpR op_in_seq (pe_fld (pv 0) rfl) (pe_ix ix_tup (pe_fld (pv 0) rfl) pe_int (fun _ _ => rfl)) (by rfl)) (pss_one (ps_fld (pv 0) pe_bl rfl)) pss_nil)
      (pss_one (ps_ret (pe_fld (pv 0) rfl))))), ?_⟩
    have len3 : ∀ (vw : V) (h : Nat) (b : Bool), (wf vw h b).length < 1000 := fun _ _ _ => by show 3 < 1000; decide
    refine ⟨_, rfl, p, C, dx, _, _, rfl, hp, X.cl, X.nW, wf_w _ _ _, _, rfl, p, C, dx, _, _, rfl, hp, X.cl, X.nH, wf_h _ _ _, _, rfl, vw, v, h, W, sh, rfl, hW, ok, hh, hv, fun H1 s1 => ?_⟩
    refine ⟨_, rfl, p, C, dx, _, rfl, s1 _ _ hp, X.cl, X.nH, len3 _ _ _, ?_⟩
    rw [wf_seth]
    have k1 : Keep p H (upd H1 p (.ins C dx (wf vw (wStep W h sh) b))) := (Keep.of_same s1).set
    have t1 : KeepT H (upd H1 p (.ins C dx (wf vw (wStep W h sh) b))) := (KeepT.of_same s1).trans (keepT_nt (nt_ins _ _ _) (s1 _ _ hp))
    have hp1 := upd_same (H := H1) (a := p) (o := .ins C dx (wf vw (wStep W h sh) b))
    generalize upd H1 p (.ins C dx (wf vw (wStep W h sh) b)) = H2 at k1 t1 hp1
    obtain ⟨pw, pq, pb, us, rfl, hpw, hpq, hA, hpb⟩ := wt_at (dp_keep t1 _ _ (dWt_noL W) hW)
    refine ⟨_, rfl, p, C, dx, _, _, rfl, hp1, X.cl, X.nH, wf_h _ _ _, _, rfl, p, C, dx, _, _, rfl, hp1, X.cl, X.nW, wf_w _ _ _, pw, _, _, _, rfl, rfl, hpw, atI_nat (j := 2) rfl, pb, _, rfl, .inr hpb, rfl, flat_nats _, ?_⟩
    rw [inV_nat]
    refine ⟨_, rfl, ite2 (fun e => ?_) (fun e => ?_)⟩
    · refine ⟨_, rfl, p, C, dx, _, rfl, hp1, X.cl, X.nB, len3 _ _ _, ?_⟩
      rw [wf_setb]
      refine ⟨_, rfl, p, C, dx, _, _, rfl, upd_same, X.cl, X.nH, wf_h _ _ _, ?_⟩
      refine q _ k1.set ?_
      have e : decide (wStep W h sh ∈ W.bad) = true := e
      rw [upd_same, e, Bool.or_true]
    · have e : ¬ decide (wStep W h sh ∈ W.bad) = true := e
      refine ⟨_, rfl, p, C, dx, _, _, rfl, hp1, X.cl, X.nH, wf_h _ _ _, ?_⟩
      refine q _ k1 ?_
      rw [hp1, Bool.eq_false_iff.mpr e, Bool.or_false]
theorem ok_wb (X : WTx K C) {f : Addr} {fd : FuncData} (F : FnM K "broken" "Watcher.broken" s_wb f fd) : FnOk P w K mg base CX0 1 f fd ["self"] (getSp C "has_broken") := by
  refine F.ok sc_wb (fun vs H Q E h => ?_) (fun cdv A outer s H vs Q E hr h => ?_)
  · obtain ⟨a, dx, fs, v, rfl, _⟩ := h
    rfl
  · obtain ⟨a, dx, fs, v, rfl, ha, hl, q⟩ := h
    refine ⟨_, pss_one (ps_ret (pe_fld (pv 0) rfl)), ?_⟩
    exact ⟨_, rfl, a, C, dx, fs, v, rfl, ha, X.cl, X.nB, hl, q⟩
end
/-- what the top tells of the class -/
structure Wch (P : Program) (w : World) (K : PySem.W.Frag) (mg : Str → Option Value) (base : Heap) (C fI fC pB gB : Addr) (fdI fdB : FuncData) : Prop where
  mgC : mg "Watcher" = some (.ref C)
  cl : Cls K C
  mk_ : Mk K C fI
  fI_ : FnOk P w K mg base CX0 1 fI fdI ["self", "watch"] (spWI K C)
  bI : Binds K fdI ["self", "watch"] []
  call : StX.CallO K C fC
  fC_ : FnR P w K mg base CX0 2 fC (spWC K C)
  pr : PropOf K C "broken" pB gB
  fB_ : FnOk P w K mg base CX0 1 gB fdB ["self"] (getSp C "has_broken")
  bB : Binds K fdB ["self"] []
def wgo (W : Wt) (st : Nat × Bool) (b : Br) : Nat × Bool := (wStep W st.1 b.2.1, st.2 || decide (wStep W st.1 b.2.1 ∈ W.bad))
def wF (W : Wt) (l : List Br) : Nat × Bool := l.foldl (wgo W) (0, decide (0 ∈ W.bad))
theorem wF_snoc {W : Wt} {l : List Br} {i : Nat} {b : Br} (h : l[i]? = some b) : wF W (l.take (i + 1)) = wgo W (wF W (l.take i)) b := by
  unfold wF
  rw [take_snoc h, List.foldl_append]
  rfl
theorem wF_app (W : Wt) (l : List Br) (b : Br) : wF W (l ++ [b]) = wgo W (wF W l) b := by
  unfold wF
  rw [List.foldl_append]
  rfl
def brk (C : Chn) (W : Wt) (bl : List (List Int)) : Bool := match alg C 0 bl with
  | none => false
  | some x => (wF W x.1).2
def spJBreaks (K : PySem.W.Frag) : Sp := fun vs H Q _ => ∃ (vc vw vb : V) (base : Int) (C : Chn) (W : Wt) (bl : List (List Int)), vs = [vc, vw, vb] ∧ Dp K H vc (dChn base C) ∧ ChnOk base C ∧ Dp K H vw (dWt W) ∧ WtOk W ∧ Dp K H vb (.tuple (bl.map dI)) ∧ bl.length ≤ 1000 ∧ ∀ H', Same H H' → Q (.bl (brk C W bl)) H'
section
variable {P : Program} {w : World} {K : PySem.W.Frag} {mg : Str → Option Value} {base : Heap}
theorem ok_judge_breaks (T : Txt K mg) (D_branches_along : Kept P w K mg base 1 "branches_along" ["rows", "state", "blocks"] (spAlongG K)) {Cw fI fC pB gB : Addr} {fdI fdB : FuncData} (Wc : Wch P w K mg base Cw fI fC pB gB fdI fdB) {f : Addr} {fd : FuncData} (F : FnP K "judge_breaks" s_judge_breaks f fd) : FnOk P w K mg base CX0 3 f fd ["chain", "watch", "blocks"] (spJBreaks K) := by
  refine F.ok sc_judge_breaks (fun vs H Q E h => ?_) (fun cdv A outer s H vs Q E hr h => ?_)
  · obtain ⟨vc, vw, vb, b, C, W, bl, rfl, _⟩ := h
    rfl
  · obtain ⟨vc, vw, vb, b, C, W, bl, rfl, hC, ok, hW, okw, hb, hl, q⟩ := h
    refine ⟨_, PSs.nox (pss_cons (ps_set (i := 3) sc_judge_breaks.nd rfl (Or.inl rfl) (pe_d D_branches_along (hr.mono (by decide)) (by rfl) (pa_cons (pe_ix ix_tup (pv 0) pe_int (fun _ _ => rfl)) (pa_cons pe_int (pa_cons (pv 2) pa_nil)))))
      (pss_cons (ps_if (pt_cmpR op_isN (pv 3) pe_non (nomark _)) (pss_one (ps_ret pe_bl)) pss_nil)
      (pss_cons (ps_set (i := 4) sc_judge_breaks.nd rfl (Or.inl rfl) (pe_make Wc.mk_ Wc.fI_ hr (by rfl) Wc.mgC Wc.bI .nil pass0 (pa_cons (pv 1) pa_nil)))
      (pss_cons (ps_for PassesOwn.never rfl (pi_list (pv 3)) (pg_name (i := 5) sc_judge_breaks.nd rfl (Or.inl rfl)) (pss_one (ps_expr (StX.pe_callO (pv 4) Wc.call Wc.fC_ hr pass0 (pa_cons (pe_ix ix_tup (pv 5) pe_int (fun _ _ => rfl)) pa_nil)))))
      (pss_one (ps_ret (pe_prop (pv 4) Wc.cl Wc.pr Wc.fB_ hr Wc.bB .nil pass0 rfl))))))), ?_⟩
    obtain ⟨pc, pq, xs, rfl, hpc, hpq, hA⟩ := chn_at (id hC)
    refine ⟨_, rfl, pc, _, _, _, rfl, rfl, hpc, atI_nat (j := 2) rfl, _, rfl, .ref pq, vb, 0, b, C, bl, rfl, .tup hpq hA, ok, ok.pos, hl, hb, fun hn H1 s1 => ?_, fun l t ha H1 v s1 hv => ?_⟩
    · have e : brk C W bl = false := by
        unfold brk
        rw [hn]
      rw [e] at q
      refine ⟨_, rfl, rfl, _, rfl, ite2 (fun _ => ?_) (fun h => absurd rfl h)⟩
      exact q _ s1
    · have e : brk C W bl = (wF W l).2 := by
        unfold brk
        rw [ha]
      rw [e] at q
      obtain ⟨L, zs, rfl, hL, hzs⟩ := dp_lst hv
      have zl := dpA_len hzs
      rw [List.length_map] at zl
      refine ⟨_, rfl, rfl, _, rfl, ite2 (fun h => (nomatch (show false = true from h))) (fun _ => ?_)⟩
      refine ⟨_, rfl, fun p dx hp hdx ne => ?_⟩
      have s2 : Same H1 (upd (upd H1 dx (.own p)) p (.ins Cw dx [])) := same_mut (same_new hdx) hp
      refine ⟨p, dx, vw, W, rfl, upd_same, dp_same (s1.trans s2) _ _ hW, fun H2 k2 hp2 => ⟨rfl, ?_⟩⟩
      have s12 : Same H1 H2 := fun x o e => k2 x o (s2 x o e) (ne_of_none e hp)
      refine ⟨_, rfl, L, rfl, ⟨_, same_l s12 hL⟩, for_list (K := K) (a := L) (xs := zs) (fun i σ H' => ∃ (y5 : Option V), σ = [some (.ref pc), some vw, some vb, some (.ref L), some (.ref p), y5] ∧ Same H1 H' ∧ (wF W (l.take i)).1 < W.rows.length ∧ H' p = some (.ins Cw dx (wf vw (wF W (l.take i)).1 (wF W (l.take i)).2))) ⟨_, rfl, s12, okw.pos, hp2⟩ (fun i σ H' _ ⟨_, _, s, _⟩ => same_l s hL) ?_ ?_⟩
      · rintro i x σ H3 hi ⟨y5, rfl, s3, hlt, hp3⟩
        obtain ⟨br, hbr, hx⟩ := dpA_mem (dpA_same s3 _ _ hzs) hi
        obtain ⟨pb, x0, x1, rfl, hpb, hd0, hd1⟩ := br_at hx
        refine ⟨_, rfl, p, rfl, _, rfl, pb, _, _, _, rfl, rfl, hpb, atI_nat (j := 1) rfl, .inr ⟨_, _, hp3⟩, ?_⟩
        refine ⟨p, dx, vw, x1, W, _, _, br.2.1, rfl, hp3, dp_same (s1.trans s3) _ _ hW, okw, hlt, hd1, fun H4 k4 hp4 => ?_⟩
        refine ⟨_, rfl, fun x o e => k4 x o (s3 x o e) (ne_of_none e hp), ?_, ?_⟩
        · rw [wF_snoc hbr]
          exact wStep_lt okw hlt _
        · rw [wF_snoc hbr]
          exact hp4
      · rintro σ H3 ⟨y5, rfl, s3, hlt, hp3⟩
        rw [zl, List.take_length] at hp3
        exact ⟨_, rfl, p, dx, _, rfl, hp3, p, dx, _, _, rfl, hp3, wf_b _ _ _, q _ (s1.trans s3)⟩
theorem ok__law_broken_by (T : Txt K mg) (D__law_watch_step : Kept P w K mg base 1 "_law_watch_step" ["watch", "state", "shown"] (spPlace K)) {f : Addr} {fd : FuncData} (F : FnP K "_law_broken_by" s__law_broken_by f fd) : FnOk P w K mg base CX0 2 f fd ["chain", "watch", "blocks"] (spJBreaks K) := by
  refine F.ok sc__law_broken_by (fun vs H Q E h => ?_) (fun cdv A outer s H vs Q E hr h => ?_)
  · obtain ⟨vc, vw, vb, b, C, W, bl, rfl, _⟩ := h
    rfl
  · obtain ⟨vc, vw, vb, b, C, W, bl, rfl, hC, ok, hW, okw, hb, hl, q⟩ := h
    refine ⟨_, PSs.nox (pss_cons (ps_set (i := 3) sc__law_broken_by.nd rfl (Or.inl rfl) pe_int)
      (pss_cons (ps_set (i := 4) sc__law_broken_by.nd rfl (Or.inl rfl) pe_int)
      (pss_cons (ps_set (i := 5) sc__law_broken_by.nd rfl (Or.inl rfl) (pe_cmpR op_in_seq pe_int (pe_ix ix_tup (pv 1) pe_int (fun _ _ => rfl)) (by rfl)))
      (pss_cons (ps_for PassesOwn.never rfl (pi_tup (pv 2)) (pg_name (i := 6) sc__law_broken_by.nd rfl (Or.inr rfl)) (pss_cons (ps_setLc (i := 7) (own := [("branch", 8)]) (g := (gName 8)) rfl sc__law_broken_by.nd rfl rfl (sw_true rfl rfl rfl (by decide +kernel)) (pi_tup (pe_ix ix_tup (pe_ix ix_tup (pv 0) pe_int (fun _ _ => rfl)) (pv 3) (fun _ _ => rfl))) (blkOk_by (N := N__law_broken_by) (sc := defScope s__law_broken_by) (by decide +kernel)) (fun _ _ _ _ _ => (pg_name (i := 8) sc__law_broken_by.nd rfl (Or.inl rfl))) (fun _ _ _ _ _ => (pts_one (pt_cmpR (eqDK (K := K) rfl (hr.units)) (pe_ix (ixT (K := K) rfl) (pv 8) pe_int (fun _ _ => rfl)) (pv 6) (nomark _)))) (fun _ _ _ _ _ => (pv 8)))
      (pss_cons (ps_if (pt_cmpR op_eq (pe_callB call_len (by rfl) T.b_len (by decide +kernel) (pa_cons (pv 7) pa_nil)) pe_int (nomark _)) (pss_one (ps_ret pe_bl)) pss_nil)
      (pss_cons (ps_set (i := 4) sc__law_broken_by.nd rfl (Or.inl rfl) (pe_d D__law_watch_step (hr.mono (by decide)) (by rfl) (pa_cons (pv 1) (pa_cons (pv 4) (pa_cons (pe_ix ix_tup (pe_ix ix_list (pv 7) pe_int (fun _ _ => rfl)) pe_int (fun _ _ => rfl)) pa_nil)))))
      (pss_cons (ps_set (i := 3) sc__law_broken_by.nd rfl (Or.inl rfl) (pe_ix ix_tup (pe_ix ix_list (pv 7) pe_int (fun _ _ => rfl)) pe_int (fun _ _ => rfl)))
      (pss_one (ps_set (i := 5) sc__law_broken_by.nd rfl (Or.inl rfl) (pe_or (pv 5) (pe_one (pe_cmpR op_in_seq (pv 4) (pe_ix ix_tup (pv 1) pe_int (fun _ _ => rfl)) (by rfl)))))))))))
      (pss_one (ps_ret (pv 5))))))), ?_⟩
    obtain ⟨pc, pq, xs, rfl, hpc, hpq, hA⟩ := chn_at (id hC)
    obtain ⟨pw, pwq, pwb, us, rfl, hpw, hpwq, hAw, hpwb⟩ := wt_at (id hW)
    obtain ⟨pB, ys, rfl, hpB, hB⟩ := dp_tup hb
    have yl := dpA_len hB
    rw [List.length_map] at yl
    refine ⟨_, rfl, pw, _, _, _, rfl, rfl, hpw, atI_nat (j := 2) rfl, pwb, _, rfl, .inr hpwb, rfl, flat_nats _, ?_⟩
    rw [show inV (.int 0) (W.bad.map vN) = decide (0 ∈ W.bad) from inV_nat 0 W.bad]
    refine ⟨_, rfl, pB, rfl, ⟨_, hpB⟩, for_tup (K := K) (a := pB) (xs := ys) (fun i σ H' => ∃ (y6 y7 : Option V) (l : List Br) (t : Nat), σ = [some (.ref pc), some (.ref pw), some (.ref pB), some (.int (t : Nat)), some (.int ((wF W l).1 : Nat)), some (.bl (wF W l).2), y6, y7, none] ∧ Same H H' ∧ t < C.length ∧ alg C 0 (bl.take i) = some (l, t) ∧ (wF W l).1 < W.rows.length) ⟨_, _, [], 0, rfl, Same.refl _, ok.pos, rfl, okw.pos⟩ (fun i σ H' _ ⟨_, _, _, _, _, s, _⟩ => same_t s hpB) ?_ ?_⟩
    · rintro i y σ H2 hi ⟨y6, y7, l, t, rfl, s2, hst, ha, hlt⟩
      obtain ⟨wd, hwd, hy⟩ := dpA_mem hB hi
      have ha2 := alg_snoc (C := C) (s := 0) hwd
      rw [ha] at ha2
      obtain ⟨xr, hxr, hdr⟩ := dpA_get hA (rowOf_at hst)
      have okr := ok.row _ (List.mem_of_getElem? (rowOf_at hst))
      obtain ⟨pr, rs, rfl, hpr, hrs⟩ := dp_tup hdr
      have rl := dpA_len hrs
      rw [List.length_map] at rl
      have few := okr.few
      refine ⟨_, rfl, pc, _, _, _, rfl, rfl, same_t s2 hpc, atI_nat (j := 2) rfl, _, rfl, pq, _, _, _, rfl, rfl, same_t s2 hpq, atI_nat hxr, pr, rfl, ⟨_, same_t s2 hpr⟩, fun M hM => lc_tup (K := K) (a := pr) (xs := rs) (fun k H' => Same H2 H' ∧ ∃ us : List V, H' M = some (.lst us) ∧ DpAll K H' us ((((rowOf C t).take k).filter fun x => decide (x.1 = wd)).map dBr)) ⟨same_new hM, [], upd_same, .nil⟩ (fun k H' _ e => same_t (s2.trans e.1) hpr) ?_ ?_⟩
      · rintro k x H3 hk ⟨s3, us, hM3, hus⟩
        obtain ⟨bx, hbx, hx⟩ := dpA_mem (dpA_same (s2.trans s3) _ _ hrs) hk
        have hx' := hx
        obtain ⟨px, x0, x1, rfl, hpx, hd0, hd1⟩ := br_at hx
        have ul := dpA_len hus
        rw [List.length_map] at ul
        have fl := List.length_filter_le (fun x : Br => decide (x.1 = wd)) ((rowOf C t).take k)
        rw [List.length_take] at fl
        refine ⟨rfl, _, rfl, px, _, _, _, rfl, rfl, hpx, atI_nat (j := 0) rfl, _, rfl, dI bx.1, dI wd, hd0, dp_same (s2.trans s3) _ _ hy, dI_sh _, dI_sh _, _, rfl, ?_⟩
        rw [eqv_I]
        have ft : ((rowOf C t).take (k + 1)).filter (fun x => decide (x.1 = wd)) = ((rowOf C t).take k).filter (fun x => decide (x.1 = wd)) ++ [bx].filter (fun x => decide (x.1 = wd)) := by
          rw [take_snoc hbx, List.filter_append]
        cases hdec : decide (bx.1 = wd) with
        | true =>
          refine ⟨_, rfl, us, hM3, line6 (by omega), same_mut s3 hM, us ++ [.ref px], upd_same, ?_⟩
          have kM := keepT_nt (o := .lst (us ++ [.ref px])) (nt_lst _) hM3
          rw [ft, List.filter_cons_of_pos (p := fun x : Br => decide (x.1 = wd)) hdec, List.filter_nil, List.map_append]
          exact dpA_snoc (dpA_keep kM _ _ (noLs_br _) hus) (dp_keep kM _ _ (dBr_noL _) hx')
        | false =>
          refine ⟨s3, us, hM3, ?_⟩
          rw [ft, List.filter_cons_of_neg (p := fun x : Br => decide (x.1 = wd)) (by simp [hdec]), List.filter_nil, List.append_nil]
          exact hus
      · rintro H3 ⟨s3, us, hM3, hus⟩
        have s23 := s2.trans s3
        rw [rl, List.take_length] at hus
        have hf := fnd1_head (r := rowOf C t) (w := wd)
        cases hfl : (rowOf C t).filter (fun x => decide (x.1 = wd)) with
        | nil =>
          rw [hfl] at hf hus
          have hn : alg C 0 (bl.take (i + 1)) = none := by
            rw [ha2]
            show (fnd1 (rowOf C t) wd).map _ = none
            rw [← hf]
            rfl
          have hu0 : us = [] := dpA_nil hus
          subst hu0
          refine ⟨_, rfl, _, _, rfl, .inl ⟨_, SqL.of hM3, rfl⟩, rfl, _, rfl, ite2 (fun _ => ?_) (fun h => absurd (by show decide (V.int ((0 : Nat) : Int) = V.int 0) = true; decide) h)⟩
          have e : brk C W bl = false := by
            unfold brk
            rw [alg_none hn]
          rw [e] at q
          exact q _ s23
        | cons b0 r0 =>
          rw [hfl] at hf hus
          have hn : alg C 0 (bl.take (i + 1)) = some (l ++ [b0], b0.2.2) := by
            rw [ha2]
            show (fnd1 (rowOf C t) wd).map _ = _
            rw [← hf]
            rfl
          have hin : b0 ∈ rowOf C t := fnd1_mem hf.symm
          obtain ⟨x0, r1, rfl, hx0, hr0⟩ := dpA_cons hus
          obtain ⟨px, z0, z1, rfl, hpx, hd0, hd1⟩ := br_at hx0
          refine ⟨_, rfl, _, _, rfl, .inl ⟨_, SqL.of hM3, rfl⟩, rfl, _, rfl, ite2 (fun h => absurd h ?_) (fun _ => ?_)⟩
          · simp
            omega
          refine ⟨_, rfl, _, rfl, _, rfl, M, _, _, _, rfl, rfl, SqL.of hM3, atI_nat (j := 0) rfl, px, _, _, _, rfl, rfl, hpx, atI_nat (j := 1) rfl, ?_⟩
          refine ⟨_, z1, (wF W l).1, W, b0.2.1, rfl, dp_same s23 _ _ hW, okw, hlt, hd1, fun H4 s4 => ?_⟩
          have s24 := s23.trans s4
          refine ⟨_, rfl, M, _, _, _, rfl, rfl, SqL.of (s4 _ _ hM3), atI_nat (j := 0) rfl, px, _, _, _, rfl, rfl, same_t s4 hpx, atI_nat (j := 2) rfl, ?_⟩
          have go : ∀ c : Bool, c = ((wF W l).2 || decide (wStep W (wF W l).1 b0.2.1 ∈ W.bad)) → ∃ (y6 y7 : Option V) (l' : List Br) (t' : Nat), [some (V.ref pc), some (.ref pw), some (.ref pB), some (.int (b0.2.2 : Nat)), some (.int (wStep W (wF W l).1 b0.2.1 : Nat)), some (.bl c), some y, some (.ref M), none] = [some (.ref pc), some (.ref pw), some (.ref pB), some (.int (t' : Nat)), some (.int ((wF W l').1 : Nat)), some (.bl (wF W l').2), y6, y7, none] ∧ Same H H4 ∧ t' < C.length ∧ alg C 0 (bl.take (i + 1)) = some (l', t') ∧ (wF W l').1 < W.rows.length := fun c hc => by
            refine ⟨some y, some (.ref M), l ++ [b0], b0.2.2, ?_, s24, (okr.to b0 hin).1, hn, ?_⟩
            · rw [wF_app, hc]
              rfl
            · rw [wF_app]
              exact wStep_lt okw hlt _
          refine ⟨_, rfl, _, rfl, ?_⟩
          cases hc : (wF W l).2 with
          | true =>
            rw [hc] at go
            exact go true rfl
          | false =>
            rw [hc] at go
            refine ⟨_, rfl, _, rfl, pw, _, _, _, rfl, rfl, same_t s24 hpw, atI_nat (j := 2) rfl, pwb, _, rfl, .inr (same_t s24 hpwb), rfl, flat_nats _, ?_⟩
            rw [inV_nat]
            exact go _ (by rw [Bool.false_or]; rfl)
    · rintro σ H2 ⟨y6, y7, l, t, rfl, s2, hst, ha, hlt⟩
      rw [yl, List.take_length] at ha
      have e : brk C W bl = (wF W l).2 := by
        unfold brk
        rw [ha]
      rw [e] at q
      exact ⟨_, rfl, q _ s2⟩
end
end Mt
namespace Mt
open PySem PySem.Spec PyProof.Rows L2
/-! ### pairs of states, and the dict of those that are known -/
abbrev Pr : Type := Int × Int
def kP (p : Pr) : List L2.Key := [.inl p.1, .inl p.2]
theorem kP_inj {p q : Pr} (h : kP p = kP q) : p = q := by
  have h1 := (List.cons.inj h).1
  have h2 := (List.cons.inj (List.cons.inj h).2).1
  exact Prod.ext (Sum.inl.inj h1) (Sum.inl.inj h2)
def PrA (H : Hp) (x : V) (p : Pr) : Prop := ∃ q, x = .ref q ∧ H q = some (.tup ((kP p).map kV))
def PrAs (H : Hp) (xs : List V) (ps : List Pr) : Prop := Paired (PrA H) xs ps
theorem PrAs.len {H : Hp} {xs : List V} {ps : List Pr} (h : PrAs H xs ps) : xs.length = ps.length := Paired.length h
theorem PrA.same {H H' : Hp} {x : V} {p : Pr} (s : Same H H') (h : PrA H x p) : PrA H' x p := by
  obtain ⟨q, e, h⟩ := h
  exact ⟨q, e, s _ _ h⟩
theorem PrAs.imp {H H' : Hp} {xs : List V} {ps : List Pr} (f : ∀ x p, PrA H x p → PrA H' x p) (h : PrAs H xs ps) : PrAs H' xs ps := by
  induction h with
  | nil => exact .nil
  | cons a _ ih => exact .cons (f _ _ a) ih
theorem PrAs.same {H H' : Hp} {xs : List V} {ps : List Pr} (s : Same H H') (h : PrAs H xs ps) : PrAs H' xs ps := h.imp fun _ _ => PrA.same s
theorem PrAs.at {H : Hp} {xs : List V} {ps : List Pr} {i : Nat} {x : V} (h : PrAs H xs ps) (e : xs[i]? = some x) : ∃ p, ps[i]? = some p ∧ PrA H x p := Paired.at h e
structure KnD (kvs : List (List L2.Key × V)) (ps : List Pr) : Prop where
  val : ∀ p, valV kvs (kP p) = if p ∈ ps then some (.bl true) else none
  key : ∀ kv ∈ kvs, ∃ p ∈ ps, kv.1 = kP p
  len : kvs.length ≤ ps.length
theorem KnD.nil : KnD [] [] := ⟨fun p => by rw [if_neg List.not_mem_nil]; rfl, fun _ h => absurd h List.not_mem_nil, Nat.le_refl _⟩
theorem putK_key {kvs : List (List L2.Key × V)} {k : List L2.Key} {v : V} {kv : List L2.Key × V} (h : kv ∈ putK kvs k v) : kv.1 = k ∨ ∃ x ∈ kvs, x.1 = kv.1 := by
  unfold putK at h
  split at h
  · obtain ⟨x, hx, rfl⟩ := List.mem_map.mp h
    right
    refine ⟨x, hx, ?_⟩
    split <;> rfl
  · rcases List.mem_append.mp h with h | h
    · exact .inr ⟨kv, h, rfl⟩
    · left
      rw [List.mem_singleton.mp h]
theorem KnD.put {kvs : List (List L2.Key × V)} {ps : List Pr} (h : KnD kvs ps) (p : Pr) : KnD (putK kvs (kP p) (.bl true)) (ps ++ [p]) := by
  refine ⟨fun q => ?_, fun kv hkv => ?_, ?_⟩
  · rw [valV_put]
    by_cases e : kP q = kP p
    · rw [if_pos e, if_pos (by rw [kP_inj e]; exact List.mem_append_right _ (List.mem_singleton.mpr rfl))]
    · rw [if_neg e, h.val q]
      by_cases m : q ∈ ps
      · rw [if_pos m, if_pos (List.mem_append_left _ m)]
      · rw [if_neg m, if_neg fun k => by
          rcases List.mem_append.mp k with k | k
          · exact m k
          · exact e (by rw [List.mem_singleton.mp k])]
  · rcases putK_key hkv with e | ⟨x, hx, e⟩
    · exact ⟨p, List.mem_append_right _ (List.mem_singleton.mpr rfl), e⟩
    · obtain ⟨q, hq, e2⟩ := h.key x hx
      exact ⟨q, List.mem_append_left _ hq, by rw [← e, e2]⟩
  · have := length_putK kvs (kP p) (.bl true)
    have := h.len
    rw [List.length_append, List.length_singleton]
    omega
theorem KnD.has {kvs : List (List L2.Key × V)} {ps : List Pr} (h : KnD kvs ps) {p : Pr} (hp : p ∈ ps) : ∃ kv ∈ kvs, kv.1 = kP p := by
  have e := valV_any (kP p) kvs
  rw [h.val p, if_pos hp] at e
  obtain ⟨kv, hkv, k⟩ := List.any_eq_true.mp (show (kvs.any fun kv => decide (kv.1 = kP p)) = true from e)
  exact ⟨kv, hkv, of_decide_eq_true k⟩
/-! ### closed under the steps, and good -/
def okPr (C : Chn) (W : Wt) (ps : List Pr) (p : Pr) : Prop := 0 ≤ p.1 ∧ p.1 < C.length ∧ 0 ≤ p.2 ∧ p.2 < W.rows.length ∧ p.2.toNat ∉ W.bad ∧ ∀ br ∈ rowOf C p.1.toNat, ((br.2.2 : Int), (wStep W p.2.toNat br.2.1 : Int)) ∈ ps
def Clo (C : Chn) (W : Wt) (ps : List Pr) : Prop := (0, 0) ∈ ps ∧ ∀ p ∈ ps, okPr C W ps p
noncomputable def cloB (C : Chn) (W : Wt) (ps : List Pr) : Bool := @decide (Clo C W ps) (Classical.propDecidable _)
theorem cloB_t {C : Chn} {W : Wt} {ps : List Pr} (h : Clo C W ps) : cloB C W ps = true := @decide_eq_true _ (Classical.propDecidable _) h
theorem cloB_f {C : Chn} {W : Wt} {ps : List Pr} (h : ¬ Clo C W ps) : cloB C W ps = false := @decide_eq_false _ (Classical.propDecidable _) h
def spIsBool : Sp := fun vs H Q _ => ∃ a b : Bool, vs = [.bl a, .bl b] ∧ Q (.bl (a == b)) H
def spHolds (K : PySem.W.Frag) : Sp := fun vs H Q _ => ∃ (vc vw : V) (pp : Addr) (base : Int) (C : Chn) (W : Wt) (xs : List V) (ps : List Pr), vs = [vc, vw, .ref pp] ∧ Dp K H vc (dChn base C) ∧ ChnOk base C ∧ Dp K H vw (dWt W) ∧ WtOk W ∧ SqT K H pp xs ∧ PrAs H xs ps ∧ ps.length ≤ 5000 ∧ ∀ H', Same H H' → Q (.bl (cloB C W ps)) H'
theorem nt_dt (l : List (List L2.Key × V)) : NT (.dT l) := ⟨fun _ e => (nomatch e), fun _ _ e => (nomatch e)⟩
theorem same_unlock {H H' : Hp} {d : Addr} {o u : HO} (h : H d = some u) (s : Same (upd H d o) H') : Same H (upd H' d u) := fun b x e => by
  by_cases k : b = d
  · subst k
    rw [h] at e
    rw [upd_same, ← e]
  · rw [upd_ne k]
    exact s b x (by rw [upd_ne k]; exact e)
section
variable {P : Program} {w : World} {K : PySem.W.Frag} {mg : Str → Option Value} {base : Heap}
theorem ok__law_is_bool (T : Txt K mg) {f : Addr} {fd : FuncData} (F : FnP K "_law_is_bool" s__law_is_bool f fd) : FnOk P w K mg base CX0 1 f fd ["told", "due"] spIsBool := by
  refine F.ok sc__law_is_bool (fun vs H Q E h => ?_) (fun cdv A outer s H vs Q E hr h => ?_)
  · obtain ⟨a, b, rfl, _⟩ := h
    rfl
  · obtain ⟨a, b, rfl, q⟩ := h
    refine ⟨_, PSs.nox (pss_one (ps_ret (pe_and (pe_callB call_isi (by rfl) T.b_isinstance (by decide +kernel) (pa_cons (pv 0) (pa_cons (pe_bltn (v := .ty "bool") (u := .type "bool") (by rfl) T.b_bool (by decide +kernel) rfl) pa_nil))) (pe_one (pe_cmpR op_eq (pv 0) (pv 1) (nomark _)))))), ?_⟩
    refine ⟨_, rfl, _, .ty "bool", .type "bool", .type "bool", true, rfl, .ty _, .base (.bl _), kit_ty (by decide +kernel), true, rfl, ite2 (fun _ => ?_) (fun h => absurd rfl h)⟩
    refine ⟨_, rfl, _, rfl, rfl, ?_⟩
    have dec_bl : decide (V.bl a = V.bl b) = (a == b) := by cases a <;> cases b <;> rfl
    rw [dec_bl]
    exact q
theorem ok__law_closed (T : Txt K mg) (D__law_watch_step : Kept P w K mg base 1 "_law_watch_step" ["watch", "state", "shown"] (spPlace K)) {f : Addr} {fd : FuncData} (F : FnP K "_law_closed" s__law_closed f fd) : FnOk P w K mg base CX0 2 f fd ["chain", "watch", "pairs"] (spHolds K) := by
  refine F.ok sc__law_closed (fun vs H Q E h => ?_) (fun cdv A outer s H vs Q E hr h => ?_)
  · obtain ⟨vc, vw, pp, b, C, W, xs, ps, rfl, _⟩ := h
    rfl
  · obtain ⟨vc, vw, pp, b, C, W, xs, ps, rfl, hC, ok, hW, okw, hpp, hps, few, q⟩ := h
    refine ⟨_, PSs.nox (pss_cons (ps_set (i := 3) sc__law_closed.nd rfl (Or.inl rfl) pe_dnewT)
      (pss_cons (ps_for PassesOwn.never rfl (pi_tup (pv 2)) (pg_name (i := 4) sc__law_closed.nd rfl (Or.inl rfl)) (pss_one (ps_asg pe_bl (pg_sub (pv 3) (pv 4) (set_dict (hu_of hr))))))
      (pss_cons (ps_if (pt_cmp (pc_dnotin (hu_of hr) (pe_tup (pa_cons pe_int (pa_cons pe_int pa_nil))) (pv 3))) (pss_one (ps_ret pe_bl)) pss_nil)
      (pss_cons (ps_for PassesOwn.never rfl (pi_tup (pv 2)) (pg_tup rfl (pgs_cons (pg_name (i := 5) sc__law_closed.nd rfl (Or.inl rfl)) (pgs_cons (pg_name (i := 6) sc__law_closed.nd rfl (Or.inl rfl)) pgs_nil))) (pss_cons (ps_if (PW.pt (pw_or (pt_not (pt_chain op_le op_lt pe_int (pv 5) (pe_callB call_len (by rfl) T.b_len (by decide +kernel) (pa_cons (pe_ix ix_tup (pv 0) pe_int (fun _ _ => rfl)) pa_nil)))) (pw_or (pt_not (pt_chain op_le op_lt pe_int (pv 6) (pe_callB call_len (by rfl) T.b_len (by decide +kernel) (pa_cons (pe_ix ix_tup (pv 1) pe_int (fun _ _ => rfl)) pa_nil)))) (pw_or1 (pt_cmpR op_in_seq (pv 6) (pe_ix ix_tup (pv 1) pe_int (fun _ _ => rfl)) (by rfl)))))) (pss_one (ps_ret pe_bl)) pss_nil)
      (pss_one (ps_for PassesOwn.never rfl (pi_tup (pe_ix ix_tup (pe_ix ix_tup (pv 0) pe_int (fun _ _ => rfl)) (pv 5) (fun _ _ => rfl))) (pg_tup rfl (pgs_cons (pg_name (i := 7) sc__law_closed.nd rfl (Or.inl rfl)) (pgs_cons (pg_name (i := 8) sc__law_closed.nd rfl (Or.inl rfl)) (pgs_cons (pg_name (i := 9) sc__law_closed.nd rfl (Or.inl rfl)) pgs_nil)))) (pss_one (ps_if (pt_cmp (pc_dnotin (hu_of hr) (pe_tup (pa_cons (pv 9) (pa_cons (pe_d D__law_watch_step (hr.mono (by decide)) (by rfl) (pa_cons (pv 1) (pa_cons (pv 6) (pa_cons (pv 8) pa_nil)))) pa_nil))) (pv 3))) (pss_one (ps_ret pe_bl)) pss_nil))))))
      (pss_one (ps_ret pe_bl)))))), ?_⟩
    obtain ⟨pc, pq, ys, rfl, hpc, hpq, hA⟩ := chn_at (id hC)
    obtain ⟨pw, pwq, pwb, us, rfl, hpw, hpwq, hAw, hpwb⟩ := wt_at (id hW)
    have yl := dpA_len hA
    rw [List.length_map] at yl
    have ul := dpA_len hAw
    rw [List.length_map] at ul
    have xl := hps.len
    refine fun d hd => ?_
    have s1 := same_new (o := .dT []) hd
    have hd1 := upd_same (H := H) (a := d) (o := .dT [])
    generalize upd H d (.dT []) = H1 at s1 hd1
    refine ⟨_, rfl, pp, rfl, ⟨_, same_t s1 hpp⟩, for_tup (K := K) (a := pp) (xs := xs) (fun i σ H' => ∃ (y4 : Option V) (kvs : List (List L2.Key × V)), σ = [some (.ref pc), some (.ref pw), some (.ref pp), some (.ref d), y4, none, none, none, none, none] ∧ Same H H' ∧ H' d = some (.dT kvs) ∧ KnD kvs (ps.take i)) ⟨_, [], rfl, s1, hd1, .nil⟩ (fun i σ H' _ ⟨_, _, _, s, _⟩ => same_t s hpp) ?_ ?_⟩
    · rintro i x σ H2 hi ⟨y4, kvs, rfl, s2, hd2, kn⟩
      obtain ⟨p, hp, qx, rfl, hqx⟩ := hps.at hi
      have il := (List.getElem?_eq_some_iff.mp hp).1
      have kl := kn.len
      rw [List.length_take] at kl
      refine ⟨_, rfl, _, rfl, d, _, rfl, DPut.t (k := kP p) hd2 (s2 _ _ hqx) (line6 (by omega)), ?_⟩
      refine ⟨_, _, rfl, same_mut s2 hd, upd_same, ?_⟩
      rw [take_snoc hp]
      exact kn.put p
    · rintro σ H2 ⟨y4, kvs, rfl, s2, hd2, kn⟩
      rw [xl, List.take_length] at kn
      refine ⟨by show 2 ≤ sizeLine; decide, fun p0 hp0 => ?_⟩
      have s3 := s2.trans (same_new (o := .tup [.int 0, .int 0]) hp0)
      have hd3 := same_new (o := .tup [.int 0, .int 0]) hp0 _ _ hd2
      have hp03 := upd_same (H := H2) (a := p0) (o := .tup [.int 0, .int 0])
      generalize upd H2 p0 (.tup [.int 0, .int 0]) = H3 at s3 hd3 hp03
      refine ⟨_, rfl, d, _, rfl, DGet.t (k := kP (0, 0)) hd3 hp03, _, rfl, ?_⟩
      rw [kn.val]
      by_cases m0 : ((0, 0) : Pr) ∈ ps
      · rw [if_pos m0]
        refine ite2 (fun h => (nomatch (show false = true from h))) (fun _ => ?_)
        have no : (¬ Clo C W ps) → ∀ H', Same H H' → Q (.bl false) H' := fun h H' s => by
          have := q H' s
          rw [cloB_f h] at this
          exact this
        refine ⟨_, rfl, pp, rfl, ⟨_, same_t s3 hpp⟩, for_tup (K := K) (a := pp) (xs := xs) (fun i σ H' => ∃ (y4 y5 y6 y7 y8 y9 : Option V), σ = [some (.ref pc), some (.ref pw), some (.ref pp), some (.ref d), y4, y5, y6, y7, y8, y9] ∧ Same H H' ∧ H' d = some (.dT kvs) ∧ ∀ p ∈ ps.take i, okPr C W ps p) ⟨_, _, _, _, _, _, rfl, s3, hd3, fun p h => absurd h List.not_mem_nil⟩ (fun i σ H' _ ⟨_, _, _, _, _, _, _, s, _⟩ => same_t s hpp) ?_ ?_⟩
        · rintro i x σ H4 hi ⟨y4, y5, y6, y7, y8, y9, rfl, s4, hd4, good⟩
          obtain ⟨⟨a, c⟩, hp, qx, rfl, hqx⟩ := hps.at hi
          have pin : ((a, c) : Pr) ∈ ps := List.mem_of_getElem? hp
          have bad : (¬ okPr C W ps (a, c)) → ∀ H', Same H H' → Q (.bl false) H' := fun h => no fun k => h (k.2 _ pin)
          refine ⟨qx, _, rfl, SqT.of (s4 _ _ hqx), rfl, _, _, rfl, _, _, rfl, rfl, ?_⟩
          refine ⟨_, rfl, _, _, rfl, rfl, ?_⟩
          refine ⟨_, rfl, ite2 (fun h1 => ?_) (fun h1 => ?_)⟩
          · refine ⟨_, rfl, pc, _, _, _, rfl, rfl, same_t s4 hpc, atI_nat (j := 2) rfl, _, _, rfl, .inr ⟨_, same_t s4 hpq, rfl⟩, _, _, rfl, rfl, _, rfl, ?_⟩
            refine ite2 (fun h2 => ?_) (fun h2 => ?_)
            · exact bad (fun k => by
                have h2 : (!decide (a < (ys.length : Int))) = true := h2
                have := k.2.1
                rw [yl] at h2
                simp at h2
                have : a < (C.length : Int) := this
                omega) _ s4
            · have a1 : a < (C.length : Int) := by
                have h2 : ¬ (!decide (a < (ys.length : Int))) = true := h2
                rw [yl] at h2
                simpa using h2
              have a0 : 0 ≤ a := of_decide_eq_true h1
              refine ⟨_, rfl, _, _, rfl, rfl, _, rfl, ite2 (fun h3 => ?_) (fun h3 => ?_)⟩
              · refine ⟨_, rfl, pw, _, _, _, rfl, rfl, same_t s4 hpw, atI_nat (j := 1) rfl, _, _, rfl, .inr ⟨_, same_t s4 hpwq, rfl⟩, _, _, rfl, rfl, _, rfl, ?_⟩
                refine ite2 (fun h4 => ?_) (fun h4 => ?_)
                · exact bad (fun k => by
                    have h4 : (!decide (c < (us.length : Int))) = true := h4
                    rw [ul] at h4
                    simp at h4
                    have : c < (W.rows.length : Int) := k.2.2.2.1
                    omega) _ s4
                · have c1 : c < (W.rows.length : Int) := by
                    have h4 : ¬ (!decide (c < (us.length : Int))) = true := h4
                    rw [ul] at h4
                    simpa using h4
                  have c0 : 0 ≤ c := of_decide_eq_true h3
                  obtain ⟨an, rfl⟩ : ∃ n : Nat, a = n := ⟨a.toNat, by omega⟩
                  obtain ⟨cn, rfl⟩ : ∃ n : Nat, c = n := ⟨c.toNat, by omega⟩
                  refine ⟨_, rfl, _, rfl, pw, _, _, _, rfl, rfl, same_t s4 hpw, atI_nat (j := 2) rfl, pwb, _, rfl, .inr (same_t s4 hpwb), rfl, flat_nats _, ?_⟩
                  rw [show inV (kV (Sum.inl ((an : Int), (cn : Int)).snd)) (W.bad.map vN) = decide (cn ∈ W.bad) from inV_nat cn W.bad]
                  refine ⟨_, rfl, ite2 (fun h5 => ?_) (fun h5 => ?_)⟩
                  · exact bad (fun k => by
                      have h5 : decide (cn ∈ W.bad) = true := h5
                      have := k.2.2.2.2.1
                      rw [Int.toNat_natCast] at this
                      exact this (of_decide_eq_true h5)) _ s4
                  · have nb : cn ∉ W.bad := fun k => h5 (decide_eq_true k)
                    have alt : an < C.length := by omega
                    have clt : cn < W.rows.length := by omega
                    obtain ⟨xr, hxr, hdr⟩ := dpA_get hA (rowOf_at alt)
                    obtain ⟨pr, rs, rfl, hpr, hrs⟩ := dp_tup hdr
                    have rl := dpA_len hrs
                    rw [List.length_map] at rl
                    refine ⟨_, rfl, pc, _, _, _, rfl, rfl, same_t s4 hpc, atI_nat (j := 2) rfl, _, rfl, pq, _, _, _, rfl, rfl, same_t s4 hpq, atI_nat hxr, pr, rfl, ⟨_, same_t s4 hpr⟩, for_tup (K := K) (a := pr) (xs := rs) (fun j σ H' => ∃ (y7 y8 y9 : Option V), σ = [some (.ref pc), some (.ref pw), some (.ref pp), some (.ref d), y4, some (.int (an : Int)), some (.int (cn : Int)), y7, y8, y9] ∧ Same H H' ∧ H' d = some (.dT kvs) ∧ ∀ br ∈ (rowOf C an).take j, ((br.2.2 : Int), (wStep W cn br.2.1 : Int)) ∈ ps) ⟨_, _, _, rfl, s4, hd4, fun p h => absurd h List.not_mem_nil⟩ (fun j σ H' _ ⟨_, _, _, _, s, _⟩ => same_t s hpr) ?_ ?_⟩
                    · rintro j y σ H5 hj ⟨y7, y8, y9, rfl, s5, hd5, gr⟩
                      obtain ⟨br, hbr, hy⟩ := dpA_mem (dpA_same s5 _ _ hrs) hj
                      obtain ⟨pb, x0, x1, rfl, hpb, hd0, hx1⟩ := br_at hy
                      refine ⟨pb, _, rfl, hpb, rfl, _, _, rfl, _, _, rfl, _, _, rfl, rfl, ?_⟩
                      refine ⟨_, rfl, _, rfl, _, rfl, _, rfl, .ref pw, x1, cn, W, br.2.1, rfl, dp_same s5 _ _ hW, okw, clt, hx1, fun H6 s6 => ⟨by show 2 ≤ sizeLine; decide, fun pt hpt => ?_⟩⟩
                      have s7 := (s5.trans s6).trans (same_new (o := .tup [.int (br.2.2 : Int), .int (wStep W cn br.2.1 : Int)]) hpt)
                      have hd7 := same_new (o := .tup [.int (br.2.2 : Int), .int (wStep W cn br.2.1 : Int)]) hpt _ _ (s6 _ _ hd5)
                      have hpt7 := upd_same (H := H6) (a := pt) (o := .tup [.int (br.2.2 : Int), .int (wStep W cn br.2.1 : Int)])
                      generalize upd H6 pt (.tup [.int (br.2.2 : Int), .int (wStep W cn br.2.1 : Int)]) = H7 at s7 hd7 hpt7
                      refine ⟨_, rfl, d, _, rfl, DGet.t (k := kP ((br.2.2 : Int), (wStep W cn br.2.1 : Int))) hd7 hpt7, _, rfl, ?_⟩
                      rw [kn.val]
                      by_cases mm : (((br.2.2 : Int), (wStep W cn br.2.1 : Int)) : Pr) ∈ ps
                      · rw [if_pos mm]
                        refine ite2 (fun h => (nomatch (show false = true from h))) (fun _ => ?_)
                        refine ⟨_, _, _, rfl, s7, hd7, fun x hx => ?_⟩
                        rw [take_snoc hbr] at hx
                        rcases List.mem_append.mp hx with hx | hx
                        · exact gr x hx
                        · rw [List.mem_singleton.mp hx]
                          exact mm
                      · rw [if_neg mm]
                        refine ite2 (fun _ => ?_) (fun h => absurd rfl h)
                        exact bad (fun k => mm (k.2.2.2.2.2 br (List.mem_of_getElem? hbr))) _ s7
                    · rintro σ H5 ⟨y7, y8, y9, rfl, s5, hd5, gr⟩
                      rw [rl, List.take_length] at gr
                      refine ⟨_, _, _, _, _, _, rfl, s5, hd5, fun p hpm => ?_⟩
                      rw [take_snoc hp] at hpm
                      rcases List.mem_append.mp hpm with hpm | hpm
                      · exact good p hpm
                      · rw [List.mem_singleton.mp hpm]
                        exact ⟨a0, a1, c0, c1, nb, gr⟩
              · refine ⟨_, rfl, ite2 (fun _ => ?_) (fun h => ?_)⟩
                · exact bad (fun k => h3 (decide_eq_true k.2.2.1)) _ s4
                · exact absurd rfl h
          · refine ⟨_, rfl, ite2 (fun _ => ?_) (fun h => ?_)⟩
            · exact bad (fun k => h1 (decide_eq_true k.1)) _ s4
            · exact absurd rfl h
        · rintro σ H4 ⟨y4, y5, y6, y7, y8, y9, rfl, s4, hd4, good⟩
          rw [xl, List.take_length] at good
          have := q H4 s4
          rw [cloB_t ⟨m0, good⟩] at this
          exact this
      · rw [if_neg m0]
        refine ite2 (fun _ => ?_) (fun h => absurd rfl h)
        have := q H3 s3
        rw [cloB_f fun h => m0 h.1] at this
        exact this
end
end Mt
namespace Mt
open PySem PySem.Spec PyProof.Rows L2
theorem dcT_it {J : It} {n : Nat} {G : Hp → Prop} {Y : Nat → Hp → V → Hp → Prop} (w : Walk J n G Y) {g : TG} {tk tv : TE} {vs : List Nat} {σ : L2.St} {H1 : Hp} {D : Addr} {Qd : Hp → Prop} (Pv : Nat → Hp → Prop) (h0 : Pv 0 (upd H1 D (.dT []))) (hG : ∀ i H, i ≤ n → Pv i H → G H)
    (hs : ∀ i x H H', i < n → Pv i H → Y i H x H' → g x (wipe σ vs) H' fun σ3 H3 => wipe σ3 vs = wipe σ vs ∧ tk σ3 H3 fun y H4 => tv σ3 H4 fun z H5 => ∃ H6, DPut H5 D y z H6 ∧ Pv (i + 1) H6) (hd : ∀ H, Pv n H → Qd H) :
    ∃ W : Nat → Nat → Hp → Prop, (∃ m, W 0 m (upd H1 D (.dT []))) ∧ ∀ i m H, W i m H →
      (J.stop i H ∧ Qd H) ∨ (J.go i H ∧ ∃ Nx : Hp → Prop, (∀ H2, Nx H2 → ∃ m2, m2 < m ∧ W (i + 1) m2 H2) ∧
        ∀ x H2, J.yld i H x H2 → g x (wipe σ vs) H2 fun σ3 H3 => wipe σ3 vs = wipe σ vs ∧ tk σ3 H3 fun y H4 => tv σ3 H4 fun z H5 => ∃ H6, DPut H5 D y z H6 ∧ Nx H6) := by
  refine ⟨fun i m H => m = n - i ∧ i ≤ n ∧ Pv i H, ⟨n, by simp, Nat.zero_le _, h0⟩, ?_⟩
  rintro i m H ⟨rfl, hi, p⟩
  have q := hG i H hi p
  by_cases hlt : i < n
  · refine .inr ⟨w.goes i H hlt q, Pv (i + 1), fun H' p' => ⟨n - (i + 1), by omega, rfl, hlt, p'⟩, fun x H' y => hs i x H H' hlt p (w.yields i H x H' hlt q y)⟩
  · have e : i = n := by omega
    subst e
    exact .inl ⟨w.stops H q, hd H p⟩
section
variable {P : Program} {w : World} {K : PySem.W.Frag} {mg : Str → Option Value} {base : Heap}
theorem ok_judge_holds (T : Txt K mg) (D_place_behind : Kept P w K mg base 1 "place_behind" ["watch", "place", "shown"] (spPlace K)) {f : Addr} {fd : FuncData} (F : FnP K "judge_holds" s_judge_holds f fd) : FnOk P w K mg base CX0 2 f fd ["chain", "watch", "pairs"] (spHolds K) := by
  refine F.ok sc_judge_holds (fun vs H Q E h => ?_) (fun cdv A outer s H vs Q E hr h => ?_)
  · obtain ⟨vc, vw, pp, b, C, W, xs, ps, rfl, _⟩ := h
    rfl
  · obtain ⟨vc, vw, pp, b, C, W, xs, ps, rfl, hC, ok, hW, okw, hpp, hps, few, q⟩ := h
    refine ⟨_, PSs.nox (pss_cons (DCT.ps_setDcT (i := 3) (own := [("pair", 4)]) (g := (gName 4)) rfl sc_judge_holds.nd rfl rfl (DCT.swaps rfl rfl rfl (by decide +kernel)) (pi_tup (pv 2)) (blkOk_by (N := N_judge_holds) (sc := defScope s_judge_holds) (by decide +kernel)) (Nat.lt_of_le_of_lt (Nat.le_add_right _ _) hr.units) (fun _ => (pg_name (i := 4) sc_judge_holds.nd rfl (Or.inl rfl))) (fun _ => (pv 4)) (fun _ => pe_bl))
      (pss_cons (ps_if (pt_cmp (pc_dnotin (hu_of hr) (pe_tup (pa_cons pe_int (pa_cons pe_int pa_nil))) (pv 3))) (pss_one (ps_ret pe_bl)) pss_nil)
      (pss_cons (ps_lock (ps_for PassesOwn.never rfl (pi_keys (pv 3)) (pg_tup rfl (pgs_cons (pg_name (i := 5) sc_judge_holds.nd rfl (Or.inl rfl)) (pgs_cons (pg_name (i := 6) sc_judge_holds.nd rfl (Or.inl rfl)) pgs_nil))) (pss_cons (ps_if (PW.pt (pw_or (pt_not (pt_chain op_le op_lt pe_int (pv 5) (pe_callB call_len (by rfl) T.b_len (by decide +kernel) (pa_cons (pe_ix ix_tup (pv 0) pe_int (fun _ _ => rfl)) pa_nil)))) (pw_or (pt_not (pt_chain op_le op_lt pe_int (pv 6) (pe_callB call_len (by rfl) T.b_len (by decide +kernel) (pa_cons (pe_ix ix_tup (pv 1) pe_int (fun _ _ => rfl)) pa_nil)))) (pw_or1 (pt_cmpR op_in_seq (pv 6) (pe_ix ix_tup (pv 1) pe_int (fun _ _ => rfl)) (by rfl)))))) (pss_one (ps_ret pe_bl)) pss_nil)
      (pss_one (ps_for PassesOwn.never rfl (pi_tup (pe_ix ix_tup (pe_ix ix_tup (pv 0) pe_int (fun _ _ => rfl)) (pv 5) (fun _ _ => rfl))) (pg_tup rfl (pgs_cons (pg_name (i := 7) sc_judge_holds.nd rfl (Or.inl rfl)) (pgs_cons (pg_name (i := 8) sc_judge_holds.nd rfl (Or.inl rfl)) (pgs_cons (pg_name (i := 9) sc_judge_holds.nd rfl (Or.inl rfl)) pgs_nil)))) (pss_one (ps_if (pt_cmp (pc_dnotin (hu_of hr) (pe_tup (pa_cons (pv 9) (pa_cons (pe_d D_place_behind (hr.mono (by decide)) (by rfl) (pa_cons (pv 1) (pa_cons (pv 6) (pa_cons (pv 8) pa_nil)))) pa_nil))) (pv 3))) (pss_one (ps_ret pe_bl)) pss_nil)))))))
      (pss_one (ps_ret pe_bl))))), ?_⟩
    obtain ⟨pc, pq, ys, rfl, hpc, hpq, hA⟩ := chn_at (id hC)
    obtain ⟨pw, pwq, pwb, us, rfl, hpw, hpwq, hAw, hpwb⟩ := wt_at (id hW)
    have yl := dpA_len hA
    rw [List.length_map] at yl
    have ul := dpA_len hAw
    rw [List.length_map] at ul
    have xl := hps.len
    refine ⟨_, rfl, pp, rfl, ⟨_, hpp⟩, fun d hd => dcT_it (walk_tup (K := K) (a := pp) (xs := xs)) (fun i H' => ∃ kvs : List (List L2.Key × V), Same H H' ∧ H' d = some (.dT kvs) ∧ KnD kvs (ps.take i)) ⟨[], same_new hd, upd_same, .nil⟩ (fun i H' _ ⟨_, s, _⟩ => same_t s hpp) ?_ ?_⟩
    · rintro i x H2 H2' hi' ⟨kvs, s2, hd2, kn⟩ ⟨e2, hi⟩
      subst e2
      obtain ⟨p, hp, qx, rfl, hqx⟩ := hps.at hi
      have il := (List.getElem?_eq_some_iff.mp hp).1
      have kl := kn.len
      rw [List.length_take] at kl
      refine ⟨rfl, _, rfl, _, DPut.t (k := kP p) hd2 (s2 _ _ hqx) (line6 (by omega)), _, same_mut s2 hd, upd_same, ?_⟩
      rw [take_snoc hp]
      exact kn.put p
    · rintro H2 ⟨kvs, s2, hd2, kn⟩
      rw [xl, List.take_length] at kn
      refine ⟨by show 2 ≤ sizeLine; decide, fun p0 hp0 => ?_⟩
      have s3 := s2.trans (same_new (o := .tup [.int 0, .int 0]) hp0)
      have hd3 := same_new (o := .tup [.int 0, .int 0]) hp0 _ _ hd2
      have hp03 := upd_same (H := H2) (a := p0) (o := .tup [.int 0, .int 0])
      generalize upd H2 p0 (.tup [.int 0, .int 0]) = H3 at s3 hd3 hp03
      refine ⟨_, rfl, d, _, rfl, DGet.t (k := kP (0, 0)) hd3 hp03, _, rfl, ?_⟩
      rw [kn.val]
      by_cases m0 : ((0, 0) : Pr) ∈ ps
      · rw [if_pos m0]
        refine ite2 (fun h => (nomatch (show false = true from h))) (fun _ => ?_)
        have no : (¬ Clo C W ps) → ∀ H', Same H H' → Q (.bl false) H' := fun h H' s => by
          have := q H' s
          rw [cloB_f h] at this
          exact this
        refine ⟨d, .dT kvs, hd3, True.intro, fun od => ⟨_, rfl, d, od, rfl, .inr ⟨kvs, upd_same, for_it walk_keysT (fun i σ H' => ∃ (y5 y6 y7 y8 y9 : Option V), σ = [some (.ref pc), some (.ref pw), some (.ref pp), some (.ref d), none, y5, y6, y7, y8, y9] ∧ Same (upd H3 d (.frz od (.dT kvs))) H' ∧ ∀ kv ∈ kvs.take i, ∀ p, kv.1 = kP p → okPr C W ps p) ⟨_, _, _, _, _, rfl, Same.refl _, fun p h => absurd h List.not_mem_nil⟩ (fun i σ H' _ ⟨_, _, _, _, _, _, s, _⟩ => s _ _ upd_same) ?_ ?_⟩⟩⟩
        · rintro i x σ H4x H4 hi ⟨y5, y6, y7, y8, y9, rfl, s4, good⟩ ⟨rfl, key, v, qx, hkv, rfl, hqx⟩
          obtain ⟨⟨a, c⟩, pin, ek⟩ := kn.key _ (List.mem_of_getElem? hkv)
          have ek : key = kP (a, c) := ek
          subst ek
          have k4 : KeepT H H4 := ((KeepT.of_same s3).trans (keepT_nt (nt_dt kvs) hd3)).trans (KeepT.of_same s4)
          have free : ∀ H', Same (upd H3 d (.frz od (.dT kvs))) H' → H' d = some (.frz od (.dT kvs)) ∧ Same H (upd H' d (.dT kvs)) := fun H' s => ⟨s _ _ upd_same, s3.trans (same_unlock hd3 s)⟩
          have bad : (¬ okPr C W ps (a, c)) → ∀ H', Same (upd H3 d (.frz od (.dT kvs))) H' → H' d = some (.frz od (.dT kvs)) ∧ Q (.bl false) (upd H' d (.dT kvs)) := fun h H' s => ⟨(free H' s).1, no (fun k => h (k.2 _ pin)) _ (free H' s).2⟩
          refine ⟨qx, _, rfl, SqT.of hqx, rfl, _, _, rfl, _, _, rfl, rfl, ?_⟩
          refine ⟨_, rfl, _, _, rfl, rfl, ?_⟩
          refine ⟨_, rfl, ite2 (fun h1 => ?_) (fun h1 => ?_)⟩
          · refine ⟨_, rfl, pc, _, _, _, rfl, rfl, sqt_keep k4 hpc, atI_nat (j := 2) rfl, _, _, rfl, .inr ⟨_, sqt_keep k4 hpq, rfl⟩, _, _, rfl, rfl, _, rfl, ?_⟩
            refine ite2 (fun h2 => ?_) (fun h2 => ?_)
            · exact bad (fun k => by
                have h2 : (!decide (a < (ys.length : Int))) = true := h2
                rw [yl] at h2
                simp at h2
                have : a < (C.length : Int) := k.2.1
                omega) _ s4
            · have a1 : a < (C.length : Int) := by
                have h2 : ¬ (!decide (a < (ys.length : Int))) = true := h2
                rw [yl] at h2
                simpa using h2
              have a0 : 0 ≤ a := of_decide_eq_true h1
              refine ⟨_, rfl, _, _, rfl, rfl, _, rfl, ite2 (fun h3 => ?_) (fun h3 => ?_)⟩
              · refine ⟨_, rfl, pw, _, _, _, rfl, rfl, sqt_keep k4 hpw, atI_nat (j := 1) rfl, _, _, rfl, .inr ⟨_, sqt_keep k4 hpwq, rfl⟩, _, _, rfl, rfl, _, rfl, ?_⟩
                refine ite2 (fun h4 => ?_) (fun h4 => ?_)
                · exact bad (fun k => by
                    have h4 : (!decide (c < (us.length : Int))) = true := h4
                    rw [ul] at h4
                    simp at h4
                    have : c < (W.rows.length : Int) := k.2.2.2.1
                    omega) _ s4
                · have c1 : c < (W.rows.length : Int) := by
                    have h4 : ¬ (!decide (c < (us.length : Int))) = true := h4
                    rw [ul] at h4
                    simpa using h4
                  have c0 : 0 ≤ c := of_decide_eq_true h3
                  obtain ⟨an, rfl⟩ : ∃ n : Nat, a = n := ⟨a.toNat, by omega⟩
                  obtain ⟨cn, rfl⟩ : ∃ n : Nat, c = n := ⟨c.toNat, by omega⟩
                  refine ⟨_, rfl, _, rfl, pw, _, _, _, rfl, rfl, sqt_keep k4 hpw, atI_nat (j := 2) rfl, pwb, _, rfl, .inr (sqt_keep k4 hpwb), rfl, flat_nats _, ?_⟩
                  rw [show inV (kV (Sum.inl ((an : Int), (cn : Int)).snd)) (W.bad.map vN) = decide (cn ∈ W.bad) from inV_nat cn W.bad]
                  refine ⟨_, rfl, ite2 (fun h5 => ?_) (fun h5 => ?_)⟩
                  · exact bad (fun k => by
                      have h5 : decide (cn ∈ W.bad) = true := h5
                      have := k.2.2.2.2.1
                      rw [Int.toNat_natCast] at this
                      exact this (of_decide_eq_true h5)) _ s4
                  · have nb : cn ∉ W.bad := fun k => h5 (decide_eq_true k)
                    have alt : an < C.length := by omega
                    have clt : cn < W.rows.length := by omega
                    obtain ⟨xr, hxr, hdr⟩ := dpA_get hA (rowOf_at alt)
                    have hdr4 := dp_keep k4 _ _ (dRw_noL _) hdr
                    obtain ⟨pr, rs, rfl, hpr, hrs⟩ := dp_tup hdr4
                    have rl := dpA_len hrs
                    rw [List.length_map] at rl
                    refine ⟨_, rfl, pc, _, _, _, rfl, rfl, sqt_keep k4 hpc, atI_nat (j := 2) rfl, _, rfl, pq, _, _, _, rfl, rfl, sqt_keep k4 hpq, atI_nat hxr, pr, rfl, ⟨_, hpr⟩, for_tup (K := K) (a := pr) (xs := rs) (fun j σ H' => ∃ (y7 y8 y9 : Option V), σ = [some (.ref pc), some (.ref pw), some (.ref pp), some (.ref d), none, some (.int (an : Int)), some (.int (cn : Int)), y7, y8, y9] ∧ Same H4 H' ∧ ∀ br ∈ (rowOf C an).take j, ((br.2.2 : Int), (wStep W cn br.2.1 : Int)) ∈ ps) ⟨_, _, _, rfl, Same.refl _, fun p h => absurd h List.not_mem_nil⟩ (fun j σ H' _ ⟨_, _, _, _, s, _⟩ => same_t s hpr) ?_ ?_⟩
                    · rintro j y σ H5 hj ⟨y7, y8, y9, rfl, s5, gr⟩
                      obtain ⟨br, hbr, hy⟩ := dpA_mem (dpA_same s5 _ _ hrs) hj
                      obtain ⟨pb, x0, x1, rfl, hpb, hd0, hx1⟩ := br_at hy
                      have k5 := k4.trans (KeepT.of_same s5)
                      refine ⟨pb, _, rfl, hpb, rfl, _, _, rfl, _, _, rfl, _, _, rfl, rfl, ?_⟩
                      refine ⟨_, rfl, _, rfl, _, rfl, _, rfl, .ref pw, x1, cn, W, br.2.1, rfl, dp_keep k5 _ _ (dWt_noL W) hW, okw, clt, hx1, fun H6 s6 => ⟨by show 2 ≤ sizeLine; decide, fun pt hpt => ?_⟩⟩
                      have s7 := (s5.trans s6).trans (same_new (o := .tup [.int (br.2.2 : Int), .int (wStep W cn br.2.1 : Int)]) hpt)
                      have hpt7 := upd_same (H := H6) (a := pt) (o := .tup [.int (br.2.2 : Int), .int (wStep W cn br.2.1 : Int)])
                      generalize upd H6 pt (.tup [.int (br.2.2 : Int), .int (wStep W cn br.2.1 : Int)]) = H7 at s7 hpt7
                      have s47 := s4.trans s7
                      refine ⟨_, rfl, d, _, rfl, .inr ⟨kvs, kP ((br.2.2 : Int), (wStep W cn br.2.1 : Int)), pt, .inr ⟨od, s47 _ _ upd_same⟩, rfl, hpt7, rfl⟩, _, rfl, ?_⟩
                      rw [kn.val]
                      by_cases mm : (((br.2.2 : Int), (wStep W cn br.2.1 : Int)) : Pr) ∈ ps
                      · rw [if_pos mm]
                        refine ite2 (fun h => (nomatch (show false = true from h))) (fun _ => ?_)
                        refine ⟨_, _, _, rfl, s7, fun x hx => ?_⟩
                        rw [take_snoc hbr] at hx
                        rcases List.mem_append.mp hx with hx | hx
                        · exact gr x hx
                        · rw [List.mem_singleton.mp hx]
                          exact mm
                      · rw [if_neg mm]
                        refine ite2 (fun _ => ?_) (fun h => absurd rfl h)
                        exact bad (fun k => mm (k.2.2.2.2.2 br (List.mem_of_getElem? hbr))) _ s47
                    · rintro σ H5 ⟨y7, y8, y9, rfl, s5, gr⟩
                      rw [rl, List.take_length] at gr
                      refine ⟨_, _, _, _, _, rfl, s4.trans s5, fun kv hkvm p ekv => ?_⟩
                      rw [take_snoc hkv] at hkvm
                      rcases List.mem_append.mp hkvm with hkvm | hkvm
                      · exact good kv hkvm p ekv
                      · rw [List.mem_singleton.mp hkvm] at ekv
                        have e9 : ((an : Int), (cn : Int)) = p := kP_inj ekv
                        rw [← e9]
                        exact ⟨a0, a1, c0, c1, nb, gr⟩
              · refine ⟨_, rfl, ite2 (fun _ => ?_) (fun h => ?_)⟩
                · exact bad (fun k => h3 (decide_eq_true k.2.2.1)) _ s4
                · exact absurd rfl h
          · refine ⟨_, rfl, ite2 (fun _ => ?_) (fun h => ?_)⟩
            · exact bad (fun k => h1 (decide_eq_true k.1)) _ s4
            · exact absurd rfl h
        · rintro σ H4 ⟨y5, y6, y7, y8, y9, rfl, s4, good⟩
          rw [List.take_length] at good
          refine ⟨s4 _ _ upd_same, ?_⟩
          have := q _ (s3.trans (same_unlock hd3 s4))
          rw [cloB_t ⟨m0, fun p hp => by
            obtain ⟨kv, hkv, e⟩ := kn.has hp
            exact good kv hkv p e⟩] at this
          exact this
      · rw [if_neg m0]
        refine ite2 (fun _ => ?_) (fun h => absurd rfl h)
        have := q H3 s3
        rw [cloB_f fun h => m0 h.1] at this
        exact this
end
end Mt
namespace Mt
open PySem PySem.Spec PyProof.Rows L2
theorem cat_D {K : PySem.W.Frag} {H : Hp} {a b : Addr} {xs ys : List V} {ds es : List PyData} (ha : SqT K H a xs) (hb : SqT K H b ys) (h1 : DpAll K H xs ds) (h2 : DpAll K H ys es) (hl : ds.length + es.length ≤ 1000) : rCatA K (.ref a) (.ref b) H (fun v H' => Same H H' ∧ Dp K H' v (.tuple (ds ++ es))) := by
  have l1 := dpA_len h1
  have l2 := dpA_len h2
  refine ⟨a, b, xs, ys, rfl, rfl, ha, hb, line5 (by omega), fun e => ?_, fun _ e => ?_, fun _ _ p hp => ?_⟩
  · subst e
    have : ds = [] := List.length_eq_zero_iff.mp l1.symm
    subst this
    exact ⟨Same.refl _, .tup hb h2⟩
  · subst e
    have : es = [] := List.length_eq_zero_iff.mp l2.symm
    subst this
    rw [List.append_nil]
    exact ⟨Same.refl _, .tup ha h1⟩
  · have s := same_new (o := .tup (xs ++ ys)) hp
    exact ⟨s, .tup (SqT.of upd_same) (dpA_app (dpA_same s _ _ h1) (dpA_same s _ _ h2))⟩
theorem cat_W {K : PySem.W.Frag} {H : Hp} {x y : V} {ds es : List PyData} (hx : Dp K H x (.tuple ds)) (hy : Dp K H y (.tuple es)) (hl : ds.length + es.length ≤ 1000) : rCatA K x y H (fun v H' => Same H H' ∧ Dp K H' v (.tuple (ds ++ es))) := by
  obtain ⟨a, xs, rfl, ha, h1⟩ := dp_tup hx
  obtain ⟨b, ys, rfl, hb, h2⟩ := dp_tup hy
  exact cat_D ha hb h1 h2 hl
def spDWatch (K : PySem.W.Frag) : Sp := fun vs H Q _ => ∃ (S D m : Addr) (n : Int) (ms : List Str), vs = [.ref D, .ref m, .int n] ∧ DrawAt S D H ∧ m ≠ D ∧ H m = some (.lst (ms.map V.str)) ∧ 2 ≤ ms.length ∧ ms.length ≤ 10 ∧ 1 ≤ n ∧ n ≤ 12 ∧
  ∀ (H' : Hp) (v : V) (W : Wt), Go S D H H' → Dp K H' v (dWt W) → WtOk W → W.rows.length = n.toNat → Q v H'
theorem noLs_pr (r : List (Str × Nat)) : noLs (r.map dPr) = true := noLs_map _ _ fun p _ => dPr_noL p
theorem noLs_wr (R : List (List (Str × Nat) × Nat)) : noLs (R.map dWr) = true := noLs_map _ _ fun r _ => dWr_noL r
theorem list_of_map_erase {ms : List Str} {j : Nat} : (ms.map V.str).eraseIdx j = (ms.eraseIdx j).map V.str := by
  first
    | exact List.eraseIdx_map ..
    | exact (List.map_eraseIdx ..).symm
    | simp [List.eraseIdx_eq_take_drop_succ]
def rOk (n : Nat) (r : List (Str × Nat) × Nat) : Prop := r.1.length ≤ 20 ∧ r.2 < n ∧ ∀ p ∈ r.1, p.2 < n
section
variable {P : Program} {w : World} {K : PySem.W.Frag} {mg : Str → Option Value} {base : Heap}
theorem ok__law_drawn_watch (T : Txt K mg) (D__law_draw : Kept P w K mg base 1 "_law_draw" ["d", "many"] spDraw) (D__law_pop : Kept P w K mg base 2 "_law_pop" ["d", "row"] spPop) (D__law_rare : Kept P w K mg base 2 "_law_rare" ["d", "many"] spRare) {f : Addr} {fd : FuncData} (F : FnP K "_law_drawn_watch" s__law_drawn_watch f fd) : FnOk P w K mg base CX0 3 f fd ["d", "marks", "many"] (spDWatch K) := by
  refine F.ok sc__law_drawn_watch (fun vs H Q E h => ?_) (fun cdv A outer s H vs Q E hr h => ?_)
  · obtain ⟨S, D, m, n, ms, rfl, _⟩ := h
    rfl
  · obtain ⟨S, D, m, n, ms, rfl, d, nD, hm, m2, m10, n1, n12, q⟩ := h
    refine ⟨_, PSs.nox (pss_cons (ps_set (i := 3) sc__law_drawn_watch.nd rfl (Or.inl rfl) (pe_lst pa_nil))
      (pss_cons (ps_for PassesOwn.never rfl (pi_range1 (by rfl) T.b_range (pa_cons (pv 2) pa_nil)) (pg_name (i := 4) sc__law_drawn_watch.nd rfl (Or.inl rfl)) (pss_cons (ps_set (i := 5) sc__law_drawn_watch.nd rfl (Or.inl rfl) (pe_callTy call_list_of (by rfl) T.b_list (by decide +kernel) (pa_cons (pv 1) pa_nil)))
      (pss_cons (ps_set (i := 6) sc__law_drawn_watch.nd rfl (Or.inl rfl) (pe_lst pa_nil))
      (pss_cons (ps_set (i := 7) sc__law_drawn_watch.nd rfl (Or.inl rfl) (pe_callB (call_min2 rfl) (by rfl) T.b_min (by decide +kernel) (pa_cons pe_int (pa_cons (pe_op op_add (pe_callB call_len (by rfl) T.b_len (by decide +kernel) (pa_cons (pv 1) pa_nil)) pe_int) pa_nil))))
      (Evl.pss_cut (ps_if (pt_val (pe_d D__law_rare (hr.mono (by decide)) (by rfl) (pa_cons (pv 0) (pa_cons pe_int pa_nil)))) (pss_one (ps_set (i := 7) sc__law_drawn_watch.nd rfl (Or.inl rfl) (pe_op op_add (pe_callB call_len (by rfl) T.b_len (by decide +kernel) (pa_cons (pv 1) pa_nil)) pe_int))) pss_nil)
      (pss_cons (ps_for PassesOwn.never rfl (pi_range1 (by rfl) T.b_range (pa_cons (pe_d D__law_draw (hr.mono (by decide)) (by rfl) (pa_cons (pv 0) (pa_cons (pv 7) pa_nil))) pa_nil)) (pg_name (i := 8) sc__law_drawn_watch.nd rfl (Or.inl rfl)) (pss_one (ps_expr (pe_bm PySem.F.plainAttrs_list PySem.F.slot_list_append PySem.F.type_list_append mt_append (pv 6) (pa_cons (pe_tup (pa_cons (pe_d D__law_pop (hr.mono (by decide)) (by rfl) (pa_cons (pv 0) (pa_cons (pv 5) pa_nil))) (pa_cons (pe_d D__law_draw (hr.mono (by decide)) (by rfl) (pa_cons (pv 0) (pa_cons (pv 2) pa_nil))) pa_nil))) pa_nil)))))
      (pss_one (ps_expr (pe_bm PySem.F.plainAttrs_list PySem.F.slot_list_append PySem.F.type_list_append mt_append (pv 3) (pa_cons (pe_op op_catA (pe_callTy call_tuple_of (by rfl) T.b_tuple (by decide +kernel) (pa_cons (pv 6) pa_nil)) (pe_tup (pa_cons (pe_tup (pa_cons pe_non (pa_cons (pe_d D__law_draw (hr.mono (by decide)) (by rfl) (pa_cons (pv 0) (pa_cons (pv 2) pa_nil))) pa_nil))) pa_nil))) pa_nil))))))))))
      (pss_cons (ps_set (i := 9) sc__law_drawn_watch.nd rfl (Or.inr rfl) (pe_op op_add pe_int (pe_d D__law_draw (hr.mono (by decide)) (by rfl) (pa_cons (pv 0) (pa_cons pe_int pa_nil)))))
      (pss_cons (ps_setLc (i := 10) (own := [("k", 4)]) (g := (gName 4)) rfl sc__law_drawn_watch.nd rfl rfl (sw_true rfl rfl rfl (by decide +kernel)) (pi_range1 (by rfl) T.b_range (pa_cons (pv 2) pa_nil)) (blkOk_by (N := N__law_drawn_watch) (sc := defScope s__law_drawn_watch) (by decide +kernel)) (fun _ _ _ _ _ => (pg_name (i := 4) sc__law_drawn_watch.nd rfl (Or.inl rfl))) (fun _ _ _ _ _ => (pts_one (pt_cmpR op_eq (pe_d D__law_draw (hr.mono (by decide)) (by rfl) (pa_cons (pv 0) (pa_cons (pv 9) pa_nil))) pe_int (nomark _)))) (fun _ _ _ _ _ => (pv 4)))
      (pss_one (ps_ret (pe_tup (pa_cons pe_str (pa_cons (pe_callTy call_tuple_of (by rfl) T.b_tuple (by decide +kernel) (pa_cons (pv 3) pa_nil)) (pa_cons (pe_callTy call_tuple_of (by rfl) T.b_tuple (by decide +kernel) (pa_cons (pv 10) pa_nil)) pa_nil)))))))))), ?_⟩
    refine ⟨Nat.zero_le _, fun L hL => ?_⟩
    have g1 := Go.new (o := .lst []) d hL
    have LD := (d.free hL).1
    refine ⟨_, rfl, _, rfl, by omega, by omega, for_range (lo := 0) (n := n.toNat) (fun i σ H' => ∃ (y4 y5 y6 y7 y8 : Option V) (zs : List V) (R : List (List (Str × Nat) × Nat)), σ = [some (.ref D), some (.ref m), some (.int n), some (.ref L), y4, y5, y6, y7, y8, none, none] ∧ Go S D H H' ∧ H' L = some (.lst zs) ∧ DpAll K H' zs (R.map dWr) ∧ R.length = i ∧ ∀ r ∈ R, rOk n.toNat r) ⟨_, _, _, _, _, [], [], rfl, g1, upd_same, .nil, rfl, fun _ h => absurd h List.not_mem_nil⟩ ?_ ?_⟩
    · rintro i σ H1 hi ⟨y4, y5, y6, y7, y8, zs, R, rfl, g, hL1, hzs, hR, hRr⟩
      have zl := dpA_len hzs
      rw [List.length_map] at zl
      have hm1 := g.2 _ _ hm nD
      refine ⟨_, rfl, m, _, rfl, .inl (SqL.of hm1), fun l hl => ⟨Nat.zero_le _, fun f hf => ?_⟩⟩
      have lD := (g.1.free hl).1
      have g2 := Go.new (o := .lst (ms.map V.str)) g.1 hl
      have hl2 := upd_same (H := H1) (a := l) (o := .lst (ms.map V.str))
      have lf : l ≠ f := ne_of_none hl2 hf
      have hf1 : H1 f = none := by
        rw [upd_ne lf.symm] at hf
        exact hf
      have fD := (g.1.free hf1).1
      have g3 := g2.trans (Go.new (o := .lst []) g2.1 hf)
      have hl3 := same_new (o := .lst []) hf _ _ hl2
      have hf3 := upd_same (H := upd H1 l (.lst (ms.map V.str))) (a := f) (o := .lst [])
      generalize upd (upd H1 l (.lst (ms.map V.str))) f (.lst []) = H3 at g3 hl3 hf3
      have hm3 := g3.2 _ _ hm1 nD
      refine ⟨_, rfl, _, _, rfl, .inl ⟨_, SqL.of hm3, rfl⟩, _, _, rfl, rfl, _, _, rfl, ?_⟩
      have mz : ∃ z : Int, (if ((ms.map V.str).length : Int) + 1 < 4 then ((ms.map V.str).length : Int) + 1 else 4) = z ∧ 1 ≤ z ∧ z ≤ (ms.length : Int) + 1 := ⟨_, rfl, by rw [List.length_map]; split <;> omega, by rw [List.length_map]; split <;> omega⟩
      obtain ⟨z0, ez, z1, z2⟩ := mz
      rw [ez]
      refine ⟨fun σ' H' => ∃ z : Int, σ' = [some (.ref D), some (.ref m), some (.int n), some (.ref L), some (.int (0 + (i : Int))), some (.ref l), some (.ref f), some (.int z), y8, none, none] ∧ 1 ≤ z ∧ z ≤ (ms.length : Int) + 1 ∧ Go S D H3 H', ?_, ?_⟩
      · refine ⟨_, rfl, S, D, 8, rfl, by decide, by decide, g3.1, fun H4 bb g4 => ⟨bb, rfl, ite2 (fun _ => ?_) (fun _ => ⟨_, rfl, z1, z2, g4⟩)⟩⟩
        exact ⟨_, rfl, _, _, rfl, .inl ⟨_, SqL.of (g4.2 _ _ hm3 nD), rfl⟩, _, _, rfl, rfl, _, rfl, by omega, by rw [List.length_map]; exact Int.le_refl _, g4⟩
      · rintro σ' H4 ⟨z, rfl, z1, z2, g4⟩
        have g14 := g3.trans g4
        refine ⟨_, rfl, _, rfl, S, D, z, rfl, divW_of (by omega) (by omega), g4.1, fun H5 v v0 v1 g5 => ?_⟩
        have g15 := g14.trans g5
        refine ⟨_, rfl, by omega, by omega, for_range (lo := 0) (n := v.toNat) (fun j σ H' => ∃ (y8 : Option V) (nms : List Str) (qs : List V) (r : List (Str × Nat)), σ = [some (.ref D), some (.ref m), some (.int n), some (.ref L), some (.int (0 + (i : Int))), some (.ref l), some (.ref f), some (.int z), y8, none, none] ∧ Go S D H1 H' ∧ H' l = some (.lst (nms.map V.str)) ∧ H' f = some (.lst qs) ∧ DpAll K H' qs (r.map dPr) ∧ nms.length + j = ms.length ∧ r.length = j ∧ ∀ p ∈ r, p.2 < n.toNat) ⟨_, ms, [], [], rfl, g15, (g4.trans g5).2 _ _ hl3 lD, (g4.trans g5).2 _ _ hf3 fD, .nil, rfl, rfl, fun _ h => absurd h List.not_mem_nil⟩ ?_ ?_⟩
        · rintro j σ H6 hj ⟨y8, nms, qs, r, rfl, g6, hl6, hf6, hqs, nl, rl, hr6⟩
          have ql := dpA_len hqs
          rw [List.length_map] at ql
          have jl : j < ms.length := by omega
          refine ⟨_, rfl, .inl ⟨rfl, _, SqL.of hf6⟩, _, rfl, _, rfl, S, D, l, nms.map V.str, rfl, g6.1, lD, hl6, by rw [List.length_map]; omega, by rw [List.length_map]; omega, fun H7 jx x g7 hx => ?_⟩
          rw [List.getElem?_map] at hx
          obtain ⟨zz, hz, rfl⟩ := Option.map_eq_some_iff.mp hx
          have hjx := (List.getElem?_eq_some_iff.mp hz).1
          rw [list_of_map_erase]
          have k7 := Go.keepT g6.1 g7
          have hl7 := g7.2 _ _ hl6 lD
          have hf7 := g7.2 _ _ hf6 fD
          have kl := keepT_nt (o := .lst ((nms.eraseIdx jx).map V.str)) (nt_lst _) hl7
          have g8 := goU (o := .lst ((nms.eraseIdx jx).map V.str)) hl g.1 (g6.trans g7)
          have hl8 := upd_same (H := H7) (a := l) (o := .lst ((nms.eraseIdx jx).map V.str))
          have hf8 : (upd H7 l (.lst ((nms.eraseIdx jx).map V.str))) f = some (.lst qs) := by
            rw [upd_ne lf.symm]
            exact hf7
          have hqs8 := dpA_keep (k7.trans kl) _ _ (noLs_pr r) hqs
          generalize upd H7 l (.lst ((nms.eraseIdx jx).map V.str)) = H8 at g8 hl8 hf8 hqs8
          refine ⟨_, rfl, _, rfl, S, D, n, rfl, divW_of (by omega) (by omega), g8.1, fun H9 t t0 t1 g9 => ⟨by show 2 ≤ sizeLine; decide, fun pt hpt => ?_⟩⟩
          have gA := g9.trans (Go.new (o := .tup [.str zz, .int t]) g9.1 hpt)
          have hptA := upd_same (H := H9) (a := pt) (o := .tup [.str zz, .int t])
          generalize upd H9 pt (.tup [.str zz, .int t]) = HA at gA hptA
          have kA := Go.keepT g8.1 gA
          have hfA := gA.2 _ _ hf8 fD
          have hlA := gA.2 _ _ hl8 lD
          have kf := keepT_nt (o := .lst (qs ++ [.ref pt])) (nt_lst _) hfA
          have dP : Dp K HA (.ref pt) (dPr (zz, t.toNat)) := by
            have e1 : PyData.int ((t.toNat : Nat) : Int) = .int t := by rw [Int.toNat_of_nonneg t0]
            show Dp K HA (.ref pt) (.tuple [.str zz, .int ((t.toNat : Nat) : Int)])
            rw [e1]
            exact .tup (SqT.of hptA) (.cons (.str _) (.cons (.int _) .nil))
          refine ⟨f, qs, _, rfl, rfl, hfA, line6 (by omega), _, nms.eraseIdx jx, qs ++ [.ref pt], r ++ [(zz, t.toNat)], rfl, goU hf1 g.1 (g8.trans gA), ?_, upd_same, ?_, ?_, ?_, fun p hp => ?_⟩
          · rw [upd_ne lf]
            exact hlA
          · rw [List.map_append]
            exact dpA_snoc (dpA_keep kf _ _ (noLs_pr r) (dpA_keep kA _ _ (noLs_pr r) hqs8)) (dp_keep kf _ _ (dPr_noL _) dP)
          · rw [List.length_eraseIdx_of_lt hjx]
            omega
          · rw [List.length_append, rl]
            rfl
          · rcases List.mem_append.mp hp with h | h
            · exact hr6 p h
            · rw [List.mem_singleton.mp h]
              show t.toNat < n.toNat
              omega
        · rintro σ H6 ⟨y8, nms, qs, r, rfl, g6, hl6, hf6, hqs, nl, rl, hr6⟩
          have ql := dpA_len hqs
          rw [List.length_map] at ql
          have hL6 := g6.2 _ _ hL1 LD
          refine ⟨_, rfl, .inl ⟨rfl, _, SqL.of hL6⟩, _, rfl, f, qs, rfl, .inl ⟨SqL.of hf6, fun pr hpr => ?_⟩⟩
          have g7 := Go.new (o := .tup qs) g6.1 hpr
          have k7 := Go.keepT g6.1 g7
          have hpr7 := upd_same (H := H6) (a := pr) (o := .tup qs)
          have hqs7 := dpA_keep k7 _ _ (noLs_pr r) hqs
          generalize upd H6 pr (.tup qs) = H7 at g7 hpr7 hqs7 k7
          refine ⟨_, rfl, _, rfl, S, D, n, rfl, divW_of (by omega) (by omega), g7.1, fun H8 t t0 t1 g8 => ⟨by show 2 ≤ sizeLine; decide, fun p1 hp1 => ⟨by show 1 ≤ sizeLine; decide, fun p2 hp2 => ?_⟩⟩⟩
          have g9 := g8.trans (Go.new (o := .tup [.non, .int t]) g8.1 hp1)
          have hp19 := upd_same (H := H8) (a := p1) (o := .tup [.non, .int t])
          generalize upd H8 p1 (.tup [.non, .int t]) = H9 at g9 hp19 hp2
          have gA := g9.trans (Go.new (o := .tup [.ref p1]) g9.1 hp2)
          have hp1A := same_new (o := .tup [.ref p1]) hp2 _ _ hp19
          have hp2A := upd_same (H := H9) (a := p2) (o := .tup [.ref p1])
          generalize upd H9 p2 (.tup [.ref p1]) = HA at gA hp1A hp2A
          have kA := Go.keepT g7.1 gA
          have dF : Dp K HA (.ref p2) (.tuple [dFb t.toNat]) := by
            have e1 : PyData.int ((t.toNat : Nat) : Int) = .int t := by rw [Int.toNat_of_nonneg t0]
            refine .tup (SqT.of hp2A) (.cons ?_ .nil)
            show Dp K HA (.ref p1) (.tuple [.none, .int ((t.toNat : Nat) : Int)])
            rw [e1]
            exact .tup (SqT.of hp1A) (.cons .non (.cons (.int _) .nil))
          have dR : Dp K HA (.ref pr) (.tuple (r.map dPr)) := .tup (sqt_keep kA (SqT.of hpr7)) (dpA_keep kA _ _ (noLs_pr r) hqs7)
          refine catA_mono (cat_W dR dF (by rw [List.length_map]; show _ + 1 ≤ _; omega)) fun v9 HB hh => ?_
          obtain ⟨sB, hv9⟩ := hh
          have hv9 : Dp K HB v9 (dWr (r, t.toNat)) := hv9
          have gB := gA.trans (Go.same gA.1 sB)
          have g6B := g7.trans gB
          have hLB := g6B.2 _ _ hL6 LD
          have kL := keepT_nt (o := .lst (zs ++ [v9])) (nt_lst _) hLB
          have k1B := Go.keepT g.1 (g6.trans g6B)
          refine ⟨L, zs, _, rfl, rfl, hLB, line6 (by omega), _, _, _, _, _, zs ++ [v9], R ++ [(r, t.toNat)], rfl, goU hL d (g.trans (g6.trans g6B)), upd_same, ?_, by rw [List.length_append, hR]; rfl, fun x hx => ?_⟩
          · rw [List.map_append]
            exact dpA_snoc (dpA_keep kL _ _ (noLs_wr R) (dpA_keep k1B _ _ (noLs_wr R) hzs)) (dp_keep kL _ _ (dWr_noL _) hv9)
          · rcases List.mem_append.mp hx with h | h
            · exact hRr x h
            · rw [List.mem_singleton.mp h]
              exact ⟨by show r.length ≤ 20; omega, by show t.toNat < n.toNat; omega, hr6⟩
    · rintro σ H1 ⟨y4, y5, y6, y7, y8, zs, R, rfl, g, hL1, hzs, hR, hRr⟩
      refine ⟨_, rfl, S, D, 4, rfl, divW_of (by decide) (by decide), g.1, fun H2 v v0 v1 g2 => ⟨_, _, rfl, rfl, ?_⟩⟩
      have g12 := g.trans g2
      have hL2 := g2.2 _ _ hL1 LD
      have k2 := Go.keepT g.1 g2
      have hzs2 := dpA_keep k2 _ _ (noLs_wr R) hzs
      refine ⟨_, rfl, _, rfl, by omega, by omega, fun M hM => lc_range (lo := 0) (n := n.toNat) (fun j H' => ∃ bs : List Nat, Go S D H2 H' ∧ H' M = some (.lst (bs.map vN)) ∧ bs.length ≤ j) ⟨[], Go.new g12.1 hM, upd_same, Nat.le_refl _⟩ ?_ ?_⟩
      · rintro j H3 hj ⟨bs, g3, hM3, bl⟩
        have MD := (g12.1.free hM).1
        refine ⟨rfl, _, rfl, _, rfl, S, D, _, rfl, divW_of (by omega) (by omega), g3.1, fun H4 u u0 u1 g4 => ⟨rfl, _, rfl, ite2 (fun _ => ?_) (fun _ => ?_)⟩⟩
        · refine ⟨_, rfl, _, g4.2 _ _ hM3 MD, by rw [List.length_map]; exact line6 (by omega), bs ++ [j], goU hM g12.1 (g3.trans g4), ?_, by rw [List.length_append, List.length_singleton]; omega⟩
          rw [upd_same, List.map_append, Int.zero_add]
          rfl
        · exact ⟨bs, g3.trans g4, g4.2 _ _ hM3 MD, by omega⟩
      · rintro H3 ⟨bs, g3, hM3, bl⟩
        have hL3 := g3.2 _ _ hL2 LD
        have hzs3 := dpA_keep (Go.keepT g12.1 g3) _ _ (noLs_wr R) hzs2
        have MD := (g12.1.free hM).1
        refine ⟨_, rfl, L, zs, rfl, .inl ⟨SqL.of hL3, fun pt hpt => ?_⟩⟩
        have g4 := Go.new (o := .tup zs) g3.1 hpt
        have hpt4 := upd_same (H := H3) (a := pt) (o := .tup zs)
        have hzs4 := dpA_keep (Go.keepT g3.1 g4) _ _ (noLs_wr R) hzs3
        have hM4 := same_new (o := .tup zs) hpt _ _ hM3
        generalize upd H3 pt (.tup zs) = H4 at g4 hpt4 hzs4 hM4
        refine ⟨_, rfl, M, _, rfl, .inl ⟨SqL.of hM4, fun pb hpb => ⟨by show 3 ≤ sizeLine; decide, fun pw hpw => ?_⟩⟩⟩
        have s5 := same_new (o := .tup (bs.map vN)) hpb
        have s6 := same_new (o := .tup [.str "watch", .ref pt, .ref pb]) hpw
        have hpb6 := s6 _ _ (upd_same (H := H4) (a := pb) (o := .tup (bs.map vN)))
        have s56 := s5.trans s6
        refine q _ _ ⟨R, bs⟩ (((g12.trans g3).trans g4).trans (Go.same g4.1 s56)) (.tup (SqT.of upd_same) (.cons (.str _) (.cons (.tup (SqT.of (s56 _ _ hpt4)) (dpA_same s56 _ _ hzs4)) (.cons (.tup (SqT.of hpb6) (nats_dp _)) .nil)))) ⟨by show 0 < R.length; omega, by show R.length ≤ 20; omega, by show bs.length ≤ 20; omega, fun r hr => ?_⟩ hR
        have := hRr r hr
        unfold rOk at this
        show _ ∧ _ < R.length ∧ ∀ p ∈ r.1, p.2 < R.length
        rw [hR]
        exact this
end
end Mt
namespace Mt
open PySem PySem.Spec PyProof.Rows L2
theorem new_tup {K : PySem.W.Frag} {H : Hp} {p : Addr} {xs : List V} {ds : List PyData} (hp : H p = none) (h : DpAll K H xs ds) : Same H (upd H p (.tup xs)) ∧ Dp K (upd H p (.tup xs)) (.ref p) (.tuple ds) := by
  have s := same_new (o := .tup xs) hp
  exact ⟨s, .tup (SqT.of upd_same) (dpA_same s _ _ h)⟩
theorem z1 : (1 : Nat) ≤ sizeLine := by decide
theorem z2 : (2 : Nat) ≤ sizeLine := by decide
theorem z3 : (3 : Nat) ≤ sizeLine := by decide
def spSWatch (K : PySem.W.Frag) : Sp := fun vs H Q _ => ∃ (S D m : Addr) (n : Int) (ms : List Str), vs = [.ref D, .ref m, .int n] ∧ DrawAt S D H ∧ m ≠ D ∧ H m = some (.lst (ms.map V.str)) ∧ 2 ≤ ms.length ∧ ms.length ≤ 9 ∧ 1 ≤ n ∧ n ≤ 12 ∧
  ∀ (H' : Hp) (v : V) (W : Wt), Go S D H H' → Dp K H' v (dWt W) → WtOk W → Q v H'
def W0 (a : Str) : Wt := ⟨[([(a, 1)], 0), ([], 1)], [1]⟩
def W1 (a b : Str) (n : Nat) : Wt := ⟨[([(a, 1)], 0)] ++ (List.range n).map (fun k => ([(b, 0)], k + 2)) ++ [([], n + 1)], [n + 1]⟩
def W2 (a b : Str) : Wt := ⟨[([(b, 1), (a, 2)], 0), ([], 1), ([], 2)], [2]⟩
theorem W0_ok (a : Str) : WtOk (W0 a) := by
  refine ⟨by show 0 < 2; decide, by show 2 ≤ 20; decide, by show 1 ≤ 20; decide, fun r hr => ?_⟩
  unfold W0 at hr ⊢
  simp only [List.mem_cons, List.not_mem_nil, or_false] at hr
  rcases hr with rfl | rfl <;> simp
theorem W2_ok (a b : Str) : WtOk (W2 a b) := by
  refine ⟨by show 0 < 3; decide, by show 3 ≤ 20; decide, by show 1 ≤ 20; decide, fun r hr => ?_⟩
  unfold W2 at hr ⊢
  simp only [List.mem_cons, List.not_mem_nil, or_false] at hr
  rcases hr with rfl | rfl | rfl <;> simp
theorem W1_ok (a b : Str) {n : Nat} (h : n ≤ 4) : WtOk (W1 a b n) := by
  have len : (W1 a b n).rows.length = n + 2 := by
    unfold W1
    rw [List.length_append, List.length_append, List.length_map, List.length_range]
    show 1 + n + 1 = n + 2
    omega
  refine ⟨by omega, by omega, by show 1 ≤ 20; decide, fun r hr => ?_⟩
  rw [len]
  unfold W1 at hr
  rcases List.mem_append.mp hr with hr | hr
  · rcases List.mem_append.mp hr with hr | hr
    · rw [List.mem_singleton.mp hr]
      refine ⟨by show 1 ≤ 20; decide, by show 0 < n + 2; omega, fun p hp => ?_⟩
      rw [List.mem_singleton.mp hp]
      show 1 < n + 2
      omega
    · obtain ⟨k, hk, rfl⟩ := List.mem_map.mp hr
      have := List.mem_range.mp hk
      refine ⟨by show 1 ≤ 20; decide, by show k + 2 < n + 2; omega, fun p hp => ?_⟩
      rw [List.mem_singleton.mp hp]
      show 0 < n + 2
      omega
  · rw [List.mem_singleton.mp hr]
    exact ⟨by show 0 ≤ 20; decide, by show n + 1 < n + 2; omega, fun p hp => absurd hp List.not_mem_nil⟩
section
variable {P : Program} {w : World} {K : PySem.W.Frag} {mg : Str → Option Value} {base : Heap}
theorem ok__law_some_watch (T : Txt K mg) (D__law_draw : Kept P w K mg base 1 "_law_draw" ["d", "many"] spDraw) (D__law_drawn_watch : Kept P w K mg base 3 "_law_drawn_watch" ["d", "marks", "many"] (spDWatch K)) {f : Addr} {fd : FuncData} (F : FnP K "_law_some_watch" s__law_some_watch f fd) : FnOk P w K mg base CX0 4 f fd ["d", "marks", "most"] (spSWatch K) := by
  refine F.ok sc__law_some_watch (fun vs H Q E h => ?_) (fun cdv A outer s H vs Q E hr h => ?_)
  · obtain ⟨S, D, m, n, ms, rfl, _⟩ := h
    rfl
  · obtain ⟨S, D, m, n, ms, rfl, d, nD, hm, m2, m4, n1, n12, q⟩ := h
    refine ⟨_, PSs.nox (pss_cons (ps_set (i := 3) sc__law_some_watch.nd rfl (Or.inl rfl) (pe_d D__law_draw (hr.mono (by decide)) (by rfl) (pa_cons (pv 0) (pa_cons pe_int pa_nil))))
      (pss_cons (ps_set (i := 4) sc__law_some_watch.nd rfl (Or.inl rfl) (pe_ix ix_list (pv 1) pe_int (fun _ _ => rfl)))
      (pss_cons (ps_set (i := 5) sc__law_some_watch.nd rfl (Or.inr rfl) (pe_ix ix_list (pv 1) pe_int (fun _ _ => rfl)))
      (pss_cons (ps_if (pt_cmpR op_eq (pv 3) pe_int (nomark _)) (pss_one (ps_ret (pe_tup (pa_cons pe_str (pa_cons (pe_tup (pa_cons (pe_tup (pa_cons (pe_tup (pa_cons (pv 4) (pa_cons pe_int pa_nil))) (pa_cons (pe_tup (pa_cons pe_non (pa_cons pe_int pa_nil))) pa_nil))) (pa_cons (pe_tup (pa_cons (pe_tup (pa_cons pe_non (pa_cons pe_int pa_nil))) pa_nil)) pa_nil))) (pa_cons (pe_tup (pa_cons pe_int pa_nil)) pa_nil)))))) pss_nil)
      (pss_cons (ps_if (pt_cmpR op_eq (pv 3) pe_int (nomark _)) (pss_cons (ps_set (i := 6) sc__law_some_watch.nd rfl (Or.inl rfl) (pe_op op_add pe_int (pe_d D__law_draw (hr.mono (by decide)) (by rfl) (pa_cons (pv 0) (pa_cons pe_int pa_nil)))))
      (pss_cons (ps_set (i := 7) sc__law_some_watch.nd rfl (Or.inl rfl) (pe_callTy call_tuple_of (by rfl) T.b_tuple (by decide +kernel) (pa_cons (pe_lc (own := [("k", 8)]) (g := (gName 8)) (tt := tYes) rfl sc__law_some_watch.nd (pi_range1 (by rfl) T.b_range (pa_cons (pv 6) pa_nil)) (blkOk_by (N := N__law_some_watch) (sc := defScope s__law_some_watch) (by decide +kernel)) (fun _ _ _ _ _ => (pg_name (i := 8) sc__law_some_watch.nd rfl (Or.inl rfl))) (fun _ _ _ _ _ => pts_nil) (fun _ _ _ _ _ => (pe_tup (pa_cons (pe_tup (pa_cons (pv 5) (pa_cons pe_int pa_nil))) (pa_cons (pe_tup (pa_cons pe_non (pa_cons (pe_op op_add (pv 8) pe_int) pa_nil))) pa_nil))))) pa_nil)))
      (pss_one (ps_ret (pe_tup (pa_cons pe_str (pa_cons (pe_op op_catA (pe_op op_catA (pe_tup (pa_cons (pe_tup (pa_cons (pe_tup (pa_cons (pv 4) (pa_cons pe_int pa_nil))) (pa_cons (pe_tup (pa_cons pe_non (pa_cons pe_int pa_nil))) pa_nil))) pa_nil)) (pv 7)) (pe_tup (pa_cons (pe_tup (pa_cons (pe_tup (pa_cons pe_non (pa_cons (pe_op op_add (pv 6) pe_int) pa_nil))) pa_nil)) pa_nil))) (pa_cons (pe_tup (pa_cons (pe_op op_add (pv 6) pe_int) pa_nil)) pa_nil)))))))) pss_nil)
      (pss_cons (ps_if (pt_cmpR op_eq (pv 3) pe_int (nomark _)) (pss_one (ps_ret (pe_tup (pa_cons pe_str (pa_cons (pe_tup (pa_cons (pe_tup (pa_cons (pe_tup (pa_cons (pv 5) (pa_cons pe_int pa_nil))) (pa_cons (pe_tup (pa_cons (pv 4) (pa_cons pe_int pa_nil))) (pa_cons (pe_tup (pa_cons pe_non (pa_cons pe_int pa_nil))) pa_nil)))) (pa_cons (pe_tup (pa_cons (pe_tup (pa_cons pe_non (pa_cons pe_int pa_nil))) pa_nil)) (pa_cons (pe_tup (pa_cons (pe_tup (pa_cons pe_non (pa_cons pe_int pa_nil))) pa_nil)) pa_nil)))) (pa_cons (pe_tup (pa_cons pe_int pa_nil)) pa_nil)))))) pss_nil)
      (pss_one (ps_ret (pe_d D__law_drawn_watch (hr.mono (by decide)) (by rfl) (pa_cons (pv 0) (pa_cons (pe_op op_cat (pv 1) (pe_lst (pa_cons pe_str pa_nil))) (pa_cons (pe_op op_add pe_int (pe_d D__law_draw (hr.mono (by decide)) (by rfl) (pa_cons (pv 0) (pa_cons (pv 2) pa_nil)))) pa_nil)))))))))))), ?_⟩
    obtain ⟨a, b, mr, rfl⟩ : ∃ a b mr, ms = a :: b :: mr := by
      match ms, m2 with
      | x :: y :: r, _ => exact ⟨x, y, r, rfl⟩
    refine ⟨_, rfl, S, D, 7, rfl, divW_of (by decide) (by decide), d, fun H1 v v0 v1 g1 => ?_⟩
    have hm1 := g1.2 _ _ hm nD
    refine ⟨_, rfl, m, _, _, _, rfl, rfl, SqL.of hm1, atI_nat (j := 0) rfl, _, rfl, m, _, _, _, rfl, rfl, SqL.of hm1, atI_nat (j := 1) rfl, ?_⟩
    refine ⟨_, rfl, rfl, _, rfl, ite2 (fun _ => ?_) (fun _ => ?_)⟩
    · refine ⟨_, rfl, z2, fun p1 h1 => ⟨z2, fun p2 h2 => ⟨z2, fun p3 h3 => ⟨z2, fun p4 h4 => ⟨z1, fun p5 h5 => ⟨z2, fun p6 h6 => ⟨z1, fun p7 h7 => ⟨z3, fun p8 h8 => ?_⟩⟩⟩⟩⟩⟩⟩⟩
      obtain ⟨s1, d1⟩ := new_tup (K := K) (ds := [.str a, .int 1]) h1 (.cons (.str _) (.cons (.int _) .nil))
      obtain ⟨s2, d2⟩ := new_tup (K := K) (ds := [.none, .int 0]) h2 (.cons .non (.cons (.int _) .nil))
      obtain ⟨s3, d3⟩ := new_tup (K := K) h3 (.cons (dp_same s2 _ _ d1) (.cons d2 .nil))
      obtain ⟨s4, d4⟩ := new_tup (K := K) (ds := [.none, .int 1]) h4 (.cons .non (.cons (.int _) .nil))
      obtain ⟨s5, d5⟩ := new_tup (K := K) h5 (.cons d4 .nil)
      obtain ⟨s6, d6⟩ := new_tup (K := K) h6 (.cons (dp_same (s4.trans s5) _ _ d3) (.cons d5 .nil))
      obtain ⟨s7, d7⟩ := new_tup (K := K) (ds := [.int 1]) h7 (.cons (.int _) .nil)
      obtain ⟨s8, d8⟩ := new_tup (K := K) h8 (.cons (.str "watch") (.cons (dp_same s7 _ _ d6) (.cons d7 .nil)))
      exact q _ _ (W0 a) (g1.trans (Go.same g1.1 (s1.trans (s2.trans (s3.trans (s4.trans (s5.trans (s6.trans (s7.trans s8))))))))) d8 (W0_ok a)
    · refine ⟨_, rfl, rfl, _, rfl, ite2 (fun _ => ?_) (fun _ => ?_)⟩
      · refine ⟨_, rfl, S, D, 4, rfl, divW_of (by decide) (by decide), g1.1, fun H2 u u0 u1 g2 => ⟨_, _, rfl, rfl, ?_⟩⟩
        obtain ⟨k, rfl⟩ : ∃ k : Nat, u = k := ⟨u.toNat, by omega⟩
        have g12 := g1.trans g2
        have ek : (1 + (k : Int)).toNat = k + 1 := by omega
        refine ⟨_, rfl, _, rfl, by omega, by omega, fun L hL => lc_range (lo := 0) (n := (1 + (k : Int)).toNat) (fun j H' => Same H2 H' ∧ ∃ zs, H' L = some (.lst zs) ∧ DpAll K H' zs (((List.range j).map fun k => ([(b, 0)], k + 2)).map dWr)) ⟨same_new hL, [], upd_same, .nil⟩ ?_ ?_⟩
        · rintro j H3 hj ⟨s3, zs, hL3, hzs⟩
          have zl := dpA_len hzs
          rw [List.length_map, List.length_map, List.length_range] at zl
          refine ⟨rfl, _, rfl, z2, fun p1 h1 => ⟨_, rfl, _, _, rfl, rfl, z2, fun p2 h2 => ⟨z2, fun p3 h3 => ?_⟩⟩⟩
          obtain ⟨t1, d1⟩ := new_tup (K := K) (ds := [.str b, .int 0]) h1 (.cons (.str _) (.cons (.int _) .nil))
          obtain ⟨t2, d2⟩ := new_tup (K := K) (ds := [.none, .int (0 + (j : Int) + 2)]) h2 (.cons .non (.cons (.int _) .nil))
          obtain ⟨t3, d3⟩ := new_tup (K := K) h3 (.cons (dp_same t2 _ _ d1) (.cons d2 .nil))
          have t13 := t1.trans (t2.trans t3)
          have ed : PyData.tuple [.tuple [.str b, .int 0], .tuple [.none, .int (0 + (j : Int) + 2)]] = dWr ([(b, 0)], j + 2) := by
            show _ = PyData.tuple [.tuple [.str b, .int ((0 : Nat) : Int)], .tuple [.none, .int ((j + 2 : Nat) : Int)]]
            rw [show ((j + 2 : Nat) : Int) = 0 + (j : Int) + 2 by omega]
            rfl
          rw [ed] at d3
          have hL6 := t13 _ _ hL3
          have hzs6 := dpA_same t13 _ _ hzs
          generalize upd (upd (upd H3 p1 _) p2 _) p3 _ = H6 at t13 d3 hL6 hzs6
          have kL := keepT_nt (o := .lst (zs ++ [.ref p3])) (nt_lst _) hL6
          refine ⟨zs, hL6, line6 (by omega), same_mut (s3.trans t13) hL, zs ++ [.ref p3], upd_same, ?_⟩
          rw [List.range_succ, List.map_append, List.map_append]
          exact dpA_snoc (dpA_keep kL _ _ (noLs_wr _) hzs6) (dp_keep kL _ _ (dWr_noL _) d3)
        · rintro H3 ⟨s3, zs, hL3, hzs⟩
          rw [ek] at hzs
          have zl := dpA_len hzs
          rw [List.length_map, List.length_map, List.length_range] at zl
          refine ⟨L, zs, rfl, .inl ⟨SqL.of hL3, fun ps hps => ?_⟩⟩
          obtain ⟨t0, dS⟩ := new_tup (K := K) hps hzs
          have s4 := s3.trans t0
          generalize upd H3 ps (.tup zs) = H4 at t0 dS s4
          refine ⟨_, rfl, z2, fun p1 h1 => ⟨z2, fun p2 h2 => ⟨z2, fun p3 h3 => ⟨z1, fun p4 h4 => ⟨_, rfl, ?_⟩⟩⟩⟩⟩
          obtain ⟨t1, d1⟩ := new_tup (K := K) (ds := [.str a, .int 1]) h1 (.cons (.str _) (.cons (.int _) .nil))
          obtain ⟨t2, d2⟩ := new_tup (K := K) (ds := [.none, .int 0]) h2 (.cons .non (.cons (.int _) .nil))
          obtain ⟨t3, d3⟩ := new_tup (K := K) h3 (.cons (dp_same t2 _ _ d1) (.cons d2 .nil))
          obtain ⟨t4, d4⟩ := new_tup (K := K) h4 (.cons d3 .nil)
          have t14 := t1.trans (t2.trans (t3.trans t4))
          have dS4 := dp_same t14 _ _ dS
          refine catA_mono (cat_W d4 dS4 (by rw [List.length_map, List.length_map, List.length_range]; show 1 + _ ≤ _; omega)) fun v5 H5 hh => ?_
          obtain ⟨t5, d5⟩ := hh
          refine ⟨_, rfl, _, _, rfl, rfl, z2, fun p6 h6 => ⟨z1, fun p7 h7 => ⟨z1, fun p8 h8 => ?_⟩⟩⟩
          obtain ⟨t6, d6⟩ := new_tup (K := K) (ds := [.none, .int (1 + (k : Int) + 1)]) h6 (.cons .non (.cons (.int _) .nil))
          obtain ⟨t7, d7⟩ := new_tup (K := K) h7 (.cons d6 .nil)
          obtain ⟨t8, d8⟩ := new_tup (K := K) h8 (.cons d7 .nil)
          have t68 := t6.trans (t7.trans t8)
          refine catA_mono (cat_W (dp_same t68 _ _ d5) d8 (by rw [List.length_append, List.length_map, List.length_map, List.length_range]; show 1 + _ + 1 ≤ _; omega)) fun v9 H9 hh => ?_
          obtain ⟨t9, d9⟩ := hh
          refine ⟨_, rfl, _, _, rfl, rfl, z1, fun pA hA => ⟨z3, fun pB hB => ?_⟩⟩
          obtain ⟨tA, dA⟩ := new_tup (K := K) (ds := [.int (1 + (k : Int) + 1)]) hA (.cons (.int _) .nil)
          obtain ⟨tB, dB⟩ := new_tup (K := K) hB (.cons (.str "watch") (.cons (dp_same tA _ _ d9) (.cons dA .nil)))
          have all := s4.trans (t14.trans (t5.trans (t68.trans (t9.trans (tA.trans tB)))))
          have ei : (1 + (k : Int) + 1) = ((k + 1 + 1 : Nat) : Int) := by omega
          refine q _ _ (W1 a b (k + 1)) (g12.trans (Go.same g12.1 all)) ?_ (W1_ok a b (by omega))
          rw [ei] at dB
          have er : (W1 a b (k + 1)).rows.map dWr = [dWr ([(a, 1)], 0)] ++ ((List.range (k + 1)).map fun k => ([(b, 0)], k + 2)).map dWr ++ [dWr ([], k + 1 + 1)] := by
            unfold W1
            rw [List.map_append, List.map_append]
            rfl
          show Dp K _ _ (.tuple [.str "watch", .tuple ((W1 a b (k + 1)).rows.map dWr), dNs (W1 a b (k + 1)).bad])
          rw [er]
          exact dB
      · refine ⟨_, rfl, rfl, _, rfl, ite2 (fun _ => ?_) (fun _ => ?_)⟩
        · refine ⟨_, rfl, z2, fun p1 h1 => ⟨_, rfl, z2, fun p2 h2 => ⟨z2, fun p3 h3 => ⟨z3, fun p4 h4 => ⟨z2, fun p5 h5 => ⟨z1, fun p6 h6 => ⟨z2, fun p7 h7 => ⟨z1, fun p8 h8 => ⟨z3, fun p9 h9 => ⟨z1, fun pA hA => ⟨z3, fun pB hB => ?_⟩⟩⟩⟩⟩⟩⟩⟩⟩⟩⟩
          obtain ⟨s1, d1⟩ := new_tup (K := K) (ds := [.str b, .int 1]) h1 (.cons (.str _) (.cons (.int _) .nil))
          obtain ⟨s2, d2⟩ := new_tup (K := K) (ds := [.str a, .int 2]) h2 (.cons (.str _) (.cons (.int _) .nil))
          obtain ⟨s3, d3⟩ := new_tup (K := K) (ds := [.none, .int 0]) h3 (.cons .non (.cons (.int _) .nil))
          obtain ⟨s4, d4⟩ := new_tup (K := K) h4 (.cons (dp_same (s2.trans s3) _ _ d1) (.cons (dp_same s3 _ _ d2) (.cons d3 .nil)))
          obtain ⟨s5, d5⟩ := new_tup (K := K) (ds := [.none, .int 1]) h5 (.cons .non (.cons (.int _) .nil))
          obtain ⟨s6, d6⟩ := new_tup (K := K) h6 (.cons d5 .nil)
          obtain ⟨s7, d7⟩ := new_tup (K := K) (ds := [.none, .int 2]) h7 (.cons .non (.cons (.int _) .nil))
          obtain ⟨s8, d8⟩ := new_tup (K := K) h8 (.cons d7 .nil)
          have s58 := s5.trans (s6.trans (s7.trans s8))
          obtain ⟨s9, d9⟩ := new_tup (K := K) h9 (.cons (dp_same s58 _ _ d4) (.cons (dp_same (s7.trans s8) _ _ d6) (.cons d8 .nil)))
          obtain ⟨sA, dA⟩ := new_tup (K := K) (ds := [.int 2]) hA (.cons (.int _) .nil)
          obtain ⟨sB, dB⟩ := new_tup (K := K) hB (.cons (.str "watch") (.cons (dp_same sA _ _ d9) (.cons dA .nil)))
          exact q _ _ (W2 a b) (g1.trans (Go.same g1.1 (s1.trans (s2.trans (s3.trans (s4.trans (s58.trans (s9.trans (sA.trans sB))))))))) dB (W2_ok a b)
        · refine ⟨_, rfl, _, rfl, z1, fun p1 h1 => ?_⟩
          have s1 := same_new (o := .lst [.str "zz"]) h1
          have hp1 := upd_same (H := H1) (a := p1) (o := .lst [.str "zz"])
          generalize upd H1 p1 (.lst [.str "zz"]) = H2 at s1 hp1
          refine ⟨m, p1, _, _, rfl, rfl, s1 _ _ hm1, hp1, line5 (by rw [List.length_map]; show _ + 1 ≤ _; omega), fun p2 h2 => ?_⟩
          have s2 := s1.trans (same_new (o := .lst ((a :: b :: mr).map V.str ++ [.str "zz"])) h2)
          have hp2 := upd_same (H := H2) (a := p2) (o := .lst ((a :: b :: mr).map V.str ++ [.str "zz"]))
          have g2 := Go.same g1.1 s2
          have p2D := (g1.1.free (s1.free h2)).1
          generalize upd H2 p2 (.lst ((a :: b :: mr).map V.str ++ [.str "zz"])) = H3 at s2 hp2 g2
          refine ⟨_, rfl, _, rfl, S, D, n, rfl, divW_of (by omega) (by omega), g2.1, fun H4 u u0 u1 g4 => ⟨_, _, rfl, rfl, ?_⟩⟩
          refine ⟨S, D, p2, _, (a :: b :: mr) ++ [("zz" : Str)], rfl, g4.1, p2D, ?_, ?_, ?_, by omega, by omega, fun H5 v W g5 hv okW _ => q _ v W (((g1.trans g2).trans g4).trans g5) hv okW⟩
          · rw [g4.2 _ _ hp2 p2D, List.map_append]
            rfl
          · rw [List.length_append]
            show 2 ≤ _ + 1
            omega
          · rw [List.length_append]
            show _ + 1 ≤ 10
            omega
end
end Mt
namespace Mt
open PySem PySem.Spec PyProof.Rows L2
def spLadder (K : PySem.W.Frag) : Sp := fun vs H Q _ => ∃ (S D m : Addr) (base n : Int) (ms : List Str), vs = [.ref D, .int base, .int n, .ref m] ∧ DrawAt S D H ∧ m ≠ D ∧ H m = some (.lst (ms.map V.str)) ∧ 1 ≤ ms.length ∧ ms.length ≤ 9 ∧ 2 ≤ base ∧ base ≤ 6 ∧ 1 ≤ n ∧ n ≤ 50 ∧
  ∀ (H' : Hp) (v : V) (C : Chn), Go S D H H' → Dp K H' v (dChn base C) → ChnOk base C → Q v H'
def spSomeC (K : PySem.W.Frag) : Sp := fun vs H Q _ => ∃ (S D m : Addr) (n : Int) (ms : List Str), vs = [.ref D, .ref m, .int n] ∧ DrawAt S D H ∧ m ≠ D ∧ H m = some (.lst (ms.map V.str)) ∧ 1 ≤ ms.length ∧ ms.length ≤ 9 ∧ 1 ≤ n ∧ n ≤ 50 ∧
  ∀ (H' : Hp) (v : V) (base : Int) (C : Chn), Go S D H H' → Dp K H' v (dChn base C) → ChnOk base C → Q v H'
theorem cut_from {xs : List V} {k : Nat} (h : k ≤ xs.length) : cutV xs (some (k : Int)) none = xs.drop k := by
  unfold cutV
  rw [HT.sIx_none, HT.sIx_nat, Nat.min_eq_left h]
  exact List.take_of_length_le (by rw [List.length_drop]; exact Nat.le_refl _)
section
variable {P : Program} {w : World} {K : PySem.W.Frag} {mg : Str → Option Value} {base : Heap}
theorem ok__law_ladder (T : Txt K mg) (D__law_draw : Kept P w K mg base 1 "_law_draw" ["d", "many"] spDraw) (D__law_pick : Kept P w K mg base 2 "_law_pick" ["d", "row"] (spPick K)) (D__law_words : Kept P w K mg base 2 "_law_words" ["d", "base", "many"] (spWords K)) {f : Addr} {fd : FuncData} (F : FnP K "_law_ladder" s__law_ladder f fd) : FnOk P w K mg base CX0 3 f fd ["d", "base", "states", "marks"] (spLadder K) := by
  refine F.ok sc__law_ladder (fun vs H Q E h => ?_) (fun cdv A outer s H vs Q E hr h => ?_)
  · obtain ⟨S, D, m, b, n, ms, rfl, _⟩ := h
    rfl
  · obtain ⟨S, D, m, b, n, ms, rfl, d, nD, hm, h0, h1, b2, b6, n1, n2, q⟩ := h
    refine ⟨_, PSs.nox (pss_cons (ps_set (i := 4) sc__law_ladder.nd rfl (Or.inl rfl) (pe_lst pa_nil))
      (pss_cons (ps_for PassesOwn.never rfl (pi_range1 (by rfl) T.b_range (pa_cons (pv 2) pa_nil)) (pg_name (i := 5) sc__law_ladder.nd rfl (Or.inl rfl)) (pss_cons (ps_set (i := 6) sc__law_ladder.nd rfl (Or.inl rfl) (pe_d D__law_words (hr.mono (by decide)) (by rfl) (pa_cons (pv 0) (pa_cons (pv 1) (pa_cons (pe_op op_add pe_int (pe_d D__law_draw (hr.mono (by decide)) (by rfl) (pa_cons (pv 0) (pa_cons pe_int pa_nil)))) pa_nil)))))
      (pss_cons (ps_set (i := 7) sc__law_ladder.nd rfl (Or.inl rfl) (pe_d D__law_draw (hr.mono (by decide)) (by rfl) (pa_cons (pv 0) (pa_cons (pe_callB call_len (by rfl) T.b_len (by decide +kernel) (pa_cons (pv 6) pa_nil)) pa_nil))))
      (pss_cons (ps_set (i := 8) sc__law_ladder.nd rfl (Or.inl rfl) (pe_lst pa_nil))
      (pss_cons (ps_for PassesOwn.never rfl (pi_range1 (by rfl) T.b_range (pa_cons (pe_callB call_len (by rfl) T.b_len (by decide +kernel) (pa_cons (pv 6) pa_nil)) pa_nil)) (pg_name (i := 9) sc__law_ladder.nd rfl (Or.inl rfl)) (pss_cons (ps_set (i := 10) sc__law_ladder.nd rfl (Or.inl rfl) (pe_tup pa_nil))
      (pss_cons (ps_set (i := 11) sc__law_ladder.nd rfl (Or.inl rfl) (pe_d D__law_draw (hr.mono (by decide)) (by rfl) (pa_cons (pv 0) (pa_cons (pe_op op_add (pv 5) pe_int) pa_nil))))
      (Evl.pss_cut (ps_if (PW.pt (pw_or (pt_cmpR op_eq (pv 9) (pv 7) (nomark _)) (pw_or1 (pt_cmpR op_eq (pe_d D__law_draw (hr.mono (by decide)) (by rfl) (pa_cons (pv 0) (pa_cons pe_int pa_nil))) pe_int (nomark _))))) (pss_cons (ps_set (i := 11) sc__law_ladder.nd rfl (Or.inl rfl) (pe_callB (call_min2 rfl) (by rfl) T.b_min (by decide +kernel) (pa_cons (pe_op op_add (pv 5) pe_int) (pa_cons (pe_op op_sub (pv 2) pe_int) pa_nil))))
      (pss_one (ps_if (pt_cmpR op_eq (pv 5) (pe_op op_sub (pv 2) pe_int) (nomark _)) (pss_one (ps_set (i := 10) sc__law_ladder.nd rfl (Or.inl rfl) (pe_tup (pa_cons (pe_ix ix_list (pv 3) pe_int (fun _ _ => rfl)) pa_nil)))) pss_nil))) (pss_one (ps_if (pt_cmpR op_eq (pe_d D__law_draw (hr.mono (by decide)) (by rfl) (pa_cons (pv 0) (pa_cons pe_int pa_nil))) pe_int (nomark _)) (pss_one (ps_set (i := 10) sc__law_ladder.nd rfl (Or.inl rfl) (pe_tup (pa_cons (pe_d D__law_pick (hr.mono (by decide)) (by rfl) (pa_cons (pv 0) (pa_cons (pe_op op_cat (pe_slice sl_list (pv 3) (po_some pe_int) po_none) (pe_lst (pa_cons pe_str pa_nil))) pa_nil))) pa_nil)))) pss_nil)))
      (pss_one (ps_expr (pe_bm PySem.F.plainAttrs_list PySem.F.slot_list_append PySem.F.type_list_append mt_append (pv 8) (pa_cons (pe_tup (pa_cons (pe_ix ix_list (pv 6) (pv 9) (fun _ _ => rfl)) (pa_cons (pv 10) (pa_cons (pv 11) pa_nil)))) pa_nil))))))))
      (pss_one (ps_expr (pe_bm PySem.F.plainAttrs_list PySem.F.slot_list_append PySem.F.type_list_append mt_append (pv 4) (pa_cons (pe_callTy call_tuple_of (by rfl) T.b_tuple (by decide +kernel) (pa_cons (pv 8) pa_nil)) pa_nil)))))))))
      (pss_one (ps_ret (pe_tup (pa_cons pe_str (pa_cons (pv 1) (pa_cons (pe_callTy call_tuple_of (by rfl) T.b_tuple (by decide +kernel) (pa_cons (pv 4) pa_nil)) pa_nil)))))))), ?_⟩
    refine ⟨Nat.zero_le _, fun L hL => ?_⟩
    have g1 := Go.new (o := .lst []) d hL
    have LD := (d.free hL).1
    refine ⟨_, rfl, _, rfl, by omega, by omega, for_range (lo := 0) (n := n.toNat) (fun i σ H' => ∃ (y5 y6 y7 y8 y9 y10 y11 : Option V) (zs : List V) (C : Chn), σ = [some (.ref D), some (.int b), some (.int n), some (.ref m), some (.ref L), y5, y6, y7, y8, y9, y10, y11] ∧ Go S D H H' ∧ H' L = some (.lst zs) ∧ DpAll K H' zs (C.map dRw) ∧ C.length = i ∧ ∀ r ∈ C, RwOk b n.toNat r) ⟨_, _, _, _, _, _, _, [], [], rfl, g1, upd_same, .nil, rfl, fun _ h => absurd h List.not_mem_nil⟩ ?_ ?_⟩
    · rintro i σ H1 hi ⟨y5, y6, y7, y8, y9, y10, y11, zs, C, rfl, g, hL1, hzs, hC, hCr⟩
      have zl := dpA_len hzs
      rw [List.length_map] at zl
      refine ⟨_, rfl, _, rfl, _, rfl, S, D, 2, rfl, divW_of (by decide) (by decide), g.1, fun H3 mm m0 m1 g3 => ⟨_, _, rfl, rfl, S, D, b, 1 + mm, rfl, g3.1, b2, b6, by omega, by omega, fun H4 Lw xs ws g4 hLw0 hLw hA hc w0 w1 => ?_⟩⟩
      have g34 := g3.trans g4
      have LwD := (g3.1.free hLw0).1
      have Lw0 : H1 Lw = none := g3.free g.1 hLw0
      have xl := dpA_len hA
      rw [List.length_map] at xl
      refine ⟨_, rfl, _, rfl, _, _, rfl, .inl ⟨_, SqL.of hLw, rfl⟩, S, D, _, rfl, divW_of (by omega) (by omega), g34.1, fun H5 up u0 u1 g5 => ?_⟩
      have g35 := g34.trans g5
      have hLw5 := g5.2 _ _ hLw LwD
      have hA5 := dpA_keep (Go.keepT g34.1 g5) _ _ (noLs_I ws) hA
      refine ⟨Nat.zero_le _, fun f hf => ?_⟩
      have fD := (g35.1.free hf).1
      have f0 : H1 f = none := g35.free g.1 hf
      have g6 := g35.trans (Go.new (o := .lst []) g35.1 hf)
      have hf6 := upd_same (H := H5) (a := f) (o := .lst [])
      have LwF : Lw ≠ f := ne_of_none hLw5 hf
      have hLw6 := same_new (o := .lst []) hf _ _ hLw5
      have hA6 := dpA_same (same_new (o := .lst []) hf) _ _ hA5
      generalize upd H5 f (.lst []) = H6 at g6 hf6 hLw6 hA6
      refine ⟨_, rfl, _, _, rfl, .inl ⟨_, SqL.of hLw6, rfl⟩, _, rfl, by omega, by omega, for_range (lo := 0) (n := xs.length) (fun j σ H' => ∃ (y9 y10 y11 : Option V) (qs : List V) (r : List Br), σ = [some (.ref D), some (.int b), some (.int n), some (.ref m), some (.ref L), some (.int (0 + (i : Int))), some (.ref Lw), some (.int up), some (.ref f), y9, y10, y11] ∧ Go S D H1 H' ∧ H' Lw = some (.lst xs) ∧ DpAll K H' xs (ws.map dI) ∧ H' f = some (.lst qs) ∧ DpAll K H' qs (r.map dBr) ∧ r.map (·.1) = ws.take j ∧ ∀ b ∈ r, b.2.2 < n.toNat ∧ b.2.1.length ≤ 6) ⟨_, _, _, [], [], rfl, g6, hLw6, hA6, hf6, .nil, rfl, fun _ h => absurd h List.not_mem_nil⟩ ?_ ?_⟩
      · rintro j σ H7 hj ⟨y9, y10, y11, qs, r, rfl, g7, hLw7, hA7, hf7, hr7, er, hrr⟩
        have hjw : ws[j]? = some (ws[j]'(by omega)) := List.getElem?_eq_getElem _
        generalize ws[j]'(by omega) = wd at hjw
        obtain ⟨x, hxj, hx⟩ := dpA_get hA7 hjw
        have hm7 := (g.trans g7).2 _ _ hm nD
        refine ⟨Nat.zero_le _, fun p0 hp0 => ?_⟩
        have s8 := same_new (o := .tup []) hp0
        have g8 := Go.same g7.1 s8
        have hp08 := upd_same (H := H7) (a := p0) (o := .tup [])
        generalize upd H7 p0 (.tup []) = H8 at s8 g8 hp08
        refine ⟨_, rfl, _, rfl, _, _, rfl, rfl, S, D, _, rfl, divW_of (by omega) (by omega), g8.1, fun H9 th t0 t1 g9 => ?_⟩
        have g89 := g8.trans g9
        have p0D := (g7.1.free hp0).1
        refine ⟨fun σ' H' => ∃ (vs : V) (ss : List Str) (t : Int), σ' = [some (.ref D), some (.int b), some (.int n), some (.ref m), some (.ref L), some (.int (0 + (i : Int))), some (.ref Lw), some (.int up), some (.ref f), some (.int (0 + (j : Int))), some vs, some (.int t)] ∧ Go S D H7 H' ∧ Dp K H' vs (dSh ss) ∧ ss.length ≤ 6 ∧ 0 ≤ t ∧ t < n, ?_, ?_⟩
        · have d0 : ∀ H', Go S D H7 H' → Go S D H8 H' → Dp K H' (.ref p0) (dSh []) := fun H' _ g => .tup (sqt_keep (Go.keepT g8.1 g) (SqT.of hp08)) .nil
          have up1 : ∀ H' : Hp, Go S D H8 H' → (∃ (vs : V) (ss : List Str) (t : Int), [some (V.ref D), some (.int b), some (.int n), some (.ref m), some (.ref L), some (.int (0 + (i : Int))), some (.ref Lw), some (.int up), some (.ref f), some (.int (0 + (j : Int))), some (.ref p0), some (.int th)] = [some (.ref D), some (.int b), some (.int n), some (.ref m), some (.ref L), some (.int (0 + (i : Int))), some (.ref Lw), some (.int up), some (.ref f), some (.int (0 + (j : Int))), some vs, some (.int t)] ∧ Go S D H7 H' ∧ Dp K H' vs (dSh ss) ∧ ss.length ≤ 6 ∧ 0 ≤ t ∧ t < n) := fun H' g => ⟨.ref p0, [], th, rfl, g8.trans g, d0 _ (g8.trans g) g, by decide, t0, by omega⟩
          refine ⟨_, rfl, _, rfl, rfl, _, rfl, ?_⟩
          refine ite2 (fun _ => ?_) (fun _ => ?_)
          · have gk := g9
            have gy := gk
            have hmy : H9 m = some (.lst (ms.map V.str)) := (g8.trans gy).2 _ _ hm7 nD
            refine ⟨_, rfl, _, _, rfl, rfl, _, rfl, _, _, rfl, rfl, _, _, rfl, ?_⟩
            have tz : ∃ z : Int, (if n - 1 < 0 + (i : Int) + 1 then n - 1 else 0 + (i : Int) + 1) = z ∧ 0 ≤ z ∧ z < n := ⟨_, rfl, by split <;> omega, by split <;> omega⟩
            obtain ⟨z, ez, z0', z1'⟩ := tz
            rw [ez]
            refine ⟨_, rfl, _, rfl, _, _, rfl, rfl, rfl, _, rfl, ite2 (fun _ => ?_) (fun _ => ?_)⟩
            · obtain ⟨a, ar, rfl⟩ : ∃ a ar, ms = a :: ar := by
                match ms, h0 with
                | a :: ar, _ => exact ⟨a, ar, rfl⟩
              refine ⟨_, rfl, m, _, _, _, rfl, rfl, SqL.of hmy, atI_nat (j := 0) rfl, z1, fun pz hpz => ?_⟩
              exact ⟨.ref pz, [a], z, rfl, (g8.trans gy).trans (Go.new gy.1 hpz), .tup (SqT.of upd_same) (.cons (.str _) .nil), by show 1 ≤ 6; decide, z0', z1'⟩
            · exact ⟨.ref p0, [], z, rfl, g8.trans gy, d0 _ (g8.trans gy) gy, by decide, z0', z1'⟩
          · refine ⟨_, rfl, S, D, 4, rfl, divW_of (by decide) (by decide), g9.1, fun HA w1' w2' w3' gA => ⟨rfl, _, rfl, ite2 (fun _ => ?_) (fun _ => ?_)⟩⟩
            · have gk := g9.trans gA
              have gy := gk
              have hmy : HA m = some (.lst (ms.map V.str)) := (g8.trans gy).2 _ _ hm7 nD
              refine ⟨_, rfl, _, _, rfl, rfl, _, rfl, _, _, rfl, rfl, _, _, rfl, ?_⟩
              have tz : ∃ z : Int, (if n - 1 < 0 + (i : Int) + 1 then n - 1 else 0 + (i : Int) + 1) = z ∧ 0 ≤ z ∧ z < n := ⟨_, rfl, by split <;> omega, by split <;> omega⟩
              obtain ⟨z, ez, z0', z1'⟩ := tz
              rw [ez]
              refine ⟨_, rfl, _, rfl, _, _, rfl, rfl, rfl, _, rfl, ite2 (fun _ => ?_) (fun _ => ?_)⟩
              · obtain ⟨a, ar, rfl⟩ : ∃ a ar, ms = a :: ar := by
                  match ms, h0 with
                  | a :: ar, _ => exact ⟨a, ar, rfl⟩
                refine ⟨_, rfl, m, _, _, _, rfl, rfl, SqL.of hmy, atI_nat (j := 0) rfl, z1, fun pz hpz => ?_⟩
                exact ⟨.ref pz, [a], z, rfl, (g8.trans gy).trans (Go.new gy.1 hpz), .tup (SqT.of upd_same) (.cons (.str _) .nil), by show 1 ≤ 6; decide, z0', z1'⟩
              · exact ⟨.ref p0, [], z, rfl, g8.trans gy, d0 _ (g8.trans gy) gy, by decide, z0', z1'⟩
            · refine ⟨_, rfl, S, D, 2, rfl, divW_of (by decide) (by decide), gA.1, fun HB w4' w5' w6' gB => ⟨rfl, _, rfl, ite2 (fun _ => ?_) (fun _ => ?_)⟩⟩
              · have gy := (g9.trans gA).trans gB
                have hmB := (g8.trans gy).2 _ _ hm7 nD
                refine ⟨_, rfl, _, rfl, _, rfl, m, _, rfl, SqL.of hmB, fun p1 hp1 => ?_⟩
                have ec : cutV (ms.map V.str) (some 1) none = (ms.drop 1).map V.str := by
                  rw [show (some 1 : Option Int) = some ((1 : Nat) : Int) from rfl, cut_from (by rw [List.length_map]; exact h0), List.map_drop]
                rw [ec]
                have c1 := Go.new (o := .lst ((ms.drop 1).map V.str)) gy.1 hp1
                have e1 := upd_same (H := HB) (a := p1) (o := .lst ((ms.drop 1).map V.str))
                generalize upd HB p1 (.lst ((ms.drop 1).map V.str)) = HC at c1 e1
                refine ⟨z1, fun p2 hp2 => ?_⟩
                have c2 := c1.trans (Go.new (o := .lst [.str "zz"]) c1.1 hp2)
                have e2 := upd_same (H := HC) (a := p2) (o := .lst [.str "zz"])
                have e12 := same_new (o := .lst [.str "zz"]) hp2 _ _ e1
                generalize upd HC p2 (.lst [.str "zz"]) = HD at c2 e2 e12
                refine ⟨p1, p2, _, _, rfl, rfl, e12, e2, line5 (by rw [List.length_map, List.length_drop]; show _ + 1 ≤ _; omega), fun p3 hp3 => ?_⟩
                have c3 := c2.trans (Go.new (o := .lst ((ms.drop 1).map V.str ++ [.str "zz"])) c2.1 hp3)
                have e3 := upd_same (H := HD) (a := p3) (o := .lst ((ms.drop 1).map V.str ++ [.str "zz"]))
                have p3D := (c2.1.free hp3).1
                generalize upd HD p3 (.lst ((ms.drop 1).map V.str ++ [.str "zz"])) = HE at c3 e3
                refine ⟨S, D, .ref p3, _, rfl, c3.1, fun H' g => .inr (.inl ⟨p3, rfl, SqL.of (g.2 _ _ e3 p3D)⟩), by rw [List.length_append]; show 0 < _ + 1; omega, by rw [List.length_append, List.length_map, List.length_drop]; show _ + 1 ≤ _; omega, fun HF x hx gF => ⟨z1, fun pz hpz => ?_⟩⟩
                obtain ⟨zz, rfl⟩ : ∃ zz, x = V.str zz := by
                  rcases List.mem_append.mp hx with h | h
                  · obtain ⟨zz, _, rfl⟩ := List.mem_map.mp h
                    exact ⟨zz, rfl⟩
                  · exact ⟨_, List.mem_singleton.mp h⟩
                have all := ((g8.trans gy).trans c3).trans gF
                exact ⟨.ref pz, [zz], th, rfl, all.trans (Go.new all.1 hpz), .tup (SqT.of upd_same) (.cons (.str _) .nil), by show 1 ≤ 6; decide, t0, by omega⟩
              · exact up1 _ ((g9.trans gA).trans gB)
        · rintro σ' H9 ⟨vs, ss, t, rfl, g9, hvs, hss, t0, t1⟩
          have hLw9 := g9.2 _ _ hLw7 LwD
          have hf9 := g9.2 _ _ hf7 fD
          have k9 := Go.keepT g7.1 g9
          have xj0 : xs[j]? = some x := hxj
          have ql := dpA_len hr7
          rw [List.length_map] at ql
          have rl : r.length = j := by
            have := congrArg List.length er
            rw [List.length_map, List.length_take] at this
            omega
          refine ⟨_, rfl, .inl ⟨rfl, _, SqL.of hf9⟩, _, rfl, _, rfl, Lw, _, _, _, rfl, rfl, SqL.of hLw9, (by rw [Int.zero_add]; exact atI_nat xj0), _, rfl, _, rfl, z3, fun pb hpb => ?_⟩
          have gb := g9.trans (Go.new (o := .tup [x, vs, .int t]) g9.1 hpb)
          have hpbA := upd_same (H := H9) (a := pb) (o := .tup [x, vs, .int t])
          have sA := same_new (o := .tup [x, vs, .int t]) hpb
          generalize upd H9 pb (.tup [x, vs, .int t]) = HA at gb hpbA sA
          have kA := Go.keepT g7.1 gb
          have hfA := sA _ _ hf9
          have kf := keepT_nt (o := .lst (qs ++ [.ref pb])) (nt_lst _) hfA
          have dB : Dp K HA (.ref pb) (dBr (wd, ss, t.toNat)) := by
            have e1 : PyData.int ((t.toNat : Nat) : Int) = .int t := by rw [Int.toNat_of_nonneg t0]
            show Dp K HA (.ref pb) (.tuple [dI wd, dSh ss, .int ((t.toNat : Nat) : Int)])
            rw [e1]
            exact .tup (SqT.of hpbA) (.cons (dp_keep kA _ _ (dI_noL wd) hx) (.cons (dp_same sA _ _ hvs) (.cons (.int _) .nil)))
          refine ⟨f, qs, _, rfl, rfl, hfA, line6 (by omega), _, _, _, qs ++ [.ref pb], r ++ [(wd, ss, t.toNat)], rfl, goU f0 g.1 (g7.trans gb), ?_, dpA_keep kf _ _ (noLs_I ws) (dpA_keep kA _ _ (noLs_I ws) hA7), upd_same, ?_, ?_, fun y hy => ?_⟩
          · rw [upd_ne LwF]
            exact sA _ _ hLw9
          · rw [List.map_append]
            exact dpA_snoc (dpA_keep kf _ _ (noLs_br r) (dpA_keep kA _ _ (noLs_br r) hr7)) (dp_keep kf _ _ (dBr_noL _) dB)
          · rw [List.map_append, er, List.take_add_one, hjw]
            rfl
          · rcases List.mem_append.mp hy with h | h
            · exact hrr y h
            · rw [List.mem_singleton.mp h]
              exact ⟨by show t.toNat < n.toNat; omega, hss⟩
      · rintro σ H5 ⟨y9, y10, y11, qs, r, rfl, g5, hLw5, hA5, hf5, hr5, er, hrr⟩
        rw [xl, List.take_length] at er
        have rl : r.length = ws.length := by
          rw [← er, List.length_map]
        have gg := g.trans g5
        have hL5 := g5.2 _ _ hL1 LD
        refine ⟨_, rfl, .inl ⟨rfl, _, SqL.of hL5⟩, _, rfl, f, qs, rfl, .inl ⟨SqL.of hf5, fun pr hpr => ?_⟩⟩
        have gp := Go.new (o := .tup qs) g5.1 hpr
        have kp := Go.keepT g5.1 gp
        have hpr6 := upd_same (H := H5) (a := pr) (o := .tup qs)
        have hL6 := gp.2 _ _ hL5 LD
        generalize upd H5 pr (.tup qs) = H6' at gp kp hpr6 hL6
        have kL := keepT_nt (o := .lst (zs ++ [.ref pr])) (nt_lst _) hL6
        refine ⟨L, zs, _, rfl, rfl, hL6, line6 (by omega), _, _, _, _, _, _, _, zs ++ [.ref pr], C ++ [r], rfl, goU hL d (gg.trans gp), upd_same, ?_, by rw [List.length_append, hC]; rfl, fun x hx => ?_⟩
        · rw [List.map_append]
          exact dpA_snoc (dpA_keep kL _ _ (noLs_rw C) (dpA_keep (Go.keepT g.1 (g5.trans gp)) _ _ (noLs_rw C) hzs)) (dp_keep kL _ _ (dRw_noL _) (.tup (SqT.of hpr6) (dpA_keep kp _ _ (noLs_br r) hr5)))
        · rcases List.mem_append.mp hx with h | h
          · exact hCr x h
          · rw [List.mem_singleton.mp h]
            exact ⟨by omega, by omega, hrr, by rw [er]; exact hc⟩
    · rintro σ H1 ⟨y5, y6, y7, y8, y9, y10, y11, zs, C, rfl, g, hL1, hzs, hC, hCr⟩
      refine ⟨_, rfl, _, rfl, L, zs, rfl, .inl ⟨SqL.of hL1, fun pq hpq => ⟨by show 3 ≤ sizeLine; decide, fun pw hpw => ?_⟩⟩⟩
      have gq := Go.new (o := .tup zs) g.1 hpq
      have gw := gq.trans (Go.new (o := .tup [.str "chain", .int b, .ref pq]) gq.1 hpw)
      have hpq2 := same_new (o := .tup [.str "chain", .int b, .ref pq]) hpw _ _ (upd_same (H := H1) (a := pq) (o := .tup zs))
      refine q _ _ C (g.trans gw) (.tup (SqT.of upd_same) (.cons (.str _) (.cons (.int _) (.cons (.tup (SqT.of hpq2) (dpA_keep (Go.keepT g.1 gw) _ _ (noLs_rw C) hzs)) .nil)))) ⟨b2, b6, by omega, by omega, fun r hr => ?_⟩
      rw [hC]
      exact hCr r hr
theorem ok__law_some_chain (T : Txt K mg) (D__law_draw : Kept P w K mg base 1 "_law_draw" ["d", "many"] spDraw) (D__law_rare : Kept P w K mg base 2 "_law_rare" ["d", "many"] spRare) (D__law_ladder : Kept P w K mg base 3 "_law_ladder" ["d", "base", "states", "marks"] (spLadder K)) (D__law_wide_chain : Kept P w K mg base 4 "_law_wide_chain" ["d", "base", "states", "marks"] (spWChain K)) {f : Addr} {fd : FuncData} (F : FnP K "_law_some_chain" s__law_some_chain f fd) : FnOk P w K mg base CX0 5 f fd ["d", "marks", "most"] (spSomeC K) := by
  refine F.ok sc__law_some_chain (fun vs H Q E h => ?_) (fun cdv A outer s H vs Q E hr h => ?_)
  · obtain ⟨S, D, m, n, ms, rfl, _⟩ := h
    rfl
  · obtain ⟨S, D, m, n, ms, rfl, d, nD, hm, h0, h1, n1, n2, q⟩ := h
    refine ⟨_, PSs.nox (pss_cons (ps_set (i := 3) sc__law_some_chain.nd rfl (Or.inl rfl) (pe_op op_add pe_int (pe_d D__law_draw (hr.mono (by decide)) (by rfl) (pa_cons (pv 0) (pa_cons pe_int pa_nil)))))
      (Evl.pss_cut (ps_if (pt_val (pe_d D__law_rare (hr.mono (by decide)) (by rfl) (pa_cons (pv 0) (pa_cons pe_int pa_nil)))) (pss_one (ps_set (i := 3) sc__law_some_chain.nd rfl (Or.inl rfl) pe_int)) pss_nil)
      (pss_cons (ps_set (i := 4) sc__law_some_chain.nd rfl (Or.inl rfl) (pe_op op_add pe_int (pe_d D__law_draw (hr.mono (by decide)) (by rfl) (pa_cons (pv 0) (pa_cons pe_int pa_nil)))))
      (Evl.pss_cut (ps_if (pt_val (pe_d D__law_rare (hr.mono (by decide)) (by rfl) (pa_cons (pv 0) (pa_cons pe_int pa_nil)))) (pss_one (ps_set (i := 4) sc__law_some_chain.nd rfl (Or.inl rfl) (pv 2))) pss_nil)
      (pss_cons (ps_if (pt_cmpR op_eq (pe_d D__law_draw (hr.mono (by decide)) (by rfl) (pa_cons (pv 0) (pa_cons pe_int pa_nil))) pe_int (nomark _)) (pss_one (ps_ret (pe_d D__law_ladder (hr.mono (by decide)) (by rfl) (pa_cons (pv 0) (pa_cons (pv 3) (pa_cons (pv 4) (pa_cons (pv 1) pa_nil))))))) pss_nil)
      (pss_one (ps_ret (pe_d D__law_wide_chain (hr.mono (by decide)) (by rfl) (pa_cons (pv 0) (pa_cons (pv 3) (pa_cons (pv 4) (pa_cons (pv 1) pa_nil)))))))))))), ?_⟩
    refine ⟨_, rfl, S, D, 2, rfl, divW_of (by decide) (by decide), d, fun H1 v v0 v1 g1 => ⟨_, _, rfl, rfl, ?_⟩⟩
    refine ⟨fun σ' H' => ∃ b : Int, σ' = [some (.ref D), some (.ref m), some (.int n), some (.int b), none] ∧ 2 ≤ b ∧ b ≤ 6 ∧ Go S D H H', ?_, ?_⟩
    · refine ⟨_, rfl, S, D, 7, rfl, by decide, by decide, g1.1, fun H2 bb g2 => ⟨bb, rfl, ite2 (fun _ => ?_) (fun _ => ?_)⟩⟩
      · exact ⟨6, rfl, by decide, by decide, g1.trans g2⟩
      · exact ⟨_, rfl, by omega, by omega, g1.trans g2⟩
    · rintro σ' H2 ⟨b, rfl, b2, b6, g2⟩
      refine ⟨_, rfl, S, D, 5, rfl, divW_of (by decide) (by decide), g2.1, fun H3 u u0 u1 g3 => ⟨_, _, rfl, rfl, ?_⟩⟩
      refine ⟨fun σ' H' => ∃ k : Int, σ' = [some (.ref D), some (.ref m), some (.int n), some (.int b), some (.int k)] ∧ 1 ≤ k ∧ k ≤ 50 ∧ Go S D H H', ?_, ?_⟩
      · refine ⟨_, rfl, S, D, 9, rfl, by decide, by decide, g3.1, fun H4 bb g4 => ⟨bb, rfl, ite2 (fun _ => ?_) (fun _ => ?_)⟩⟩
        · exact ⟨_, rfl, n, rfl, n1, n2, (g2.trans g3).trans g4⟩
        · exact ⟨_, rfl, by omega, by omega, (g2.trans g3).trans g4⟩
      · rintro σ' H4 ⟨k, rfl, k1, k2, g4⟩
        refine ⟨_, rfl, S, D, 3, rfl, divW_of (by decide) (by decide), g4.1, fun H5 t t0 t1 g5 => ⟨rfl, _, rfl, ite2 (fun _ => ?_) (fun _ => ?_)⟩⟩
        · have g := g4.trans g5
          exact ⟨_, rfl, _, rfl, _, rfl, _, rfl, S, D, m, b, k, ms, rfl, g.1, nD, g.2 _ _ hm nD, h0, h1, b2, b6, k1, k2, fun H6 v C g6 hv ok => q _ v b C (g.trans g6) hv ok⟩
        · have g := g4.trans g5
          exact ⟨_, rfl, _, rfl, _, rfl, _, rfl, S, D, m, b, k, ms, rfl, g.1, nD, g.2 _ _ hm nD, h0, by omega, b2, b6, k1, k2, fun H6 v C g6 hv ok _ => q _ v b C (g.trans g6) hv ok⟩
end
end Mt
namespace Mt
open PySem PySem.Spec PyProof.Rows L2
theorem nodup_le : ∀ (n : Nat) {l : List Nat}, l.Nodup → (∀ x ∈ l, x < n) → l.length ≤ n
  | 0, l, _, h => by
    cases l with
    | nil => exact Nat.le_refl _
    | cons x r => exact absurd (h x List.mem_cons_self) (Nat.not_lt_zero x)
  | n + 1, l, nd, h => by
    have h2 := nodup_le n (l := l.erase n) (nd.erase n) fun x hx => by
      have h3 := h x (List.mem_of_mem_erase hx)
      have : x ≠ n := fun e => by
        subst e
        exact (List.Nodup.not_mem_erase nd) hx
      omega
    by_cases k : n ∈ l
    · rw [List.length_erase_of_mem k] at h2
      omega
    · rw [List.erase_of_not_mem k] at h2
      omega
def inR (n m : Nat) (p : Pr) : Prop := 0 ≤ p.1 ∧ p.1 < n ∧ 0 ≤ p.2 ∧ p.2 < m
def numP (m : Nat) (p : Pr) : Nat := p.1.toNat * m + p.2.toNat
theorem numP_lt {n m : Nat} {p : Pr} (h : inR n m p) : numP m p < n * m := by
  obtain ⟨h1, h2, h3, h4⟩ := h
  unfold numP
  have a : p.1.toNat + 1 ≤ n := by omega
  have b : p.2.toNat < m := by omega
  have c : (p.1.toNat + 1) * m ≤ n * m := Nat.mul_le_mul_right m a
  rw [Nat.add_mul, Nat.one_mul] at c
  omega
theorem numP_inj {n m : Nat} {p q : Pr} (hp : inR n m p) (hq : inR n m q) (e : numP m p = numP m q) : p = q := by
  obtain ⟨h1, h2, h3, h4⟩ := hp
  obtain ⟨k1, k2, k3, k4⟩ := hq
  unfold numP at e
  have b : p.2.toNat < m := by omega
  have b' : q.2.toNat < m := by omega
  have mp : 0 < m := by omega
  have d1 : (p.1.toNat * m + p.2.toNat) / m = p.1.toNat := by
    rw [Nat.add_comm, Nat.add_mul_div_right _ _ mp, Nat.div_eq_of_lt b, Nat.zero_add]
  have d2 : (q.1.toNat * m + q.2.toNat) / m = q.1.toNat := by
    rw [Nat.add_comm, Nat.add_mul_div_right _ _ mp, Nat.div_eq_of_lt b', Nat.zero_add]
  rw [e, d2] at d1
  have e2 : p.2.toNat = q.2.toNat := by
    rw [d1] at e
    omega
  exact Prod.ext (by omega) (by omega)
theorem pr_few {n m : Nat} {ps : List Pr} (nd : ps.Nodup) (h : ∀ p ∈ ps, inR n m p) : ps.length ≤ n * m := by
  have := nodup_le (n * m) (l := ps.map (numP m)) ?_ fun x hx => ?_
  · rw [List.length_map] at this
    exact this
  · refine List.pairwise_map.mpr ?_
    exact nd.imp_of_mem fun {a b} ha hb hab e => hab (numP_inj (h a ha) (h b hb) e)
  · obtain ⟨p, hp, rfl⟩ := List.mem_map.mp hx
    exact numP_lt (h p hp)
theorem PrA.nt {H : Hp} {d : Addr} {o o2 : HO} {x : V} {p : Pr} (nt : NT o2) (hd : H d = some o2) (h : PrA H x p) : PrA (upd H d o) x p := by
  obtain ⟨q, e, h⟩ := h
  refine ⟨q, e, ?_⟩
  rw [upd_ne fun k => ?_]
  · exact h
  · rw [k, hd] at h
    exact nt.1 _ (Option.some.inj h)
theorem PrAs.nt {H : Hp} {d : Addr} {o o2 : HO} {xs : List V} {ps : List Pr} (nt : NT o2) (hd : H d = some o2) (h : PrAs H xs ps) : PrAs (upd H d o) xs ps := h.imp fun _ _ => PrA.nt nt hd
theorem PrAs.snoc {H : Hp} {x : V} {p : Pr} : ∀ {xs : List V} {ps : List Pr}, PrAs H xs ps → PrA H x p → PrAs H (xs ++ [x]) (ps ++ [p]) := fun {xs ps} h hx => by
  induction h with
  | nil => exact .cons hx .nil
  | cons a _ ih => exact .cons a ih
theorem PrAs.get {H : Hp} {xs : List V} {ps : List Pr} {i : Nat} {p : Pr} (h : PrAs H xs ps) (e : ps[i]? = some p) : ∃ x, xs[i]? = some x ∧ PrA H x p := by
  have il := (List.getElem?_eq_some_iff.mp e).1
  have l := h.len
  have hx : xs[i]? = some (xs[i]'(by omega)) := List.getElem?_eq_getElem _
  obtain ⟨q, hq, hp⟩ := h.at hx
  rw [e] at hq
  exact ⟨_, hx, by rw [Option.some.inj hq]; exact hp⟩
/-- what is met so far: the list at L, the dict at d -/
structure MetAt (n m : Nat) (H : Hp) (L d : Addr) (ps : List Pr) : Prop where
  l : ∃ zs, H L = some (.lst zs) ∧ PrAs H zs ps
  d : ∃ kvs, H d = some (.dT kvs) ∧ KnD kvs ps
  nd : ps.Nodup
  rg : ∀ p ∈ ps, inR n m p
theorem MetAt.same {n m : Nat} {H H' : Hp} {L d : Addr} {ps : List Pr} (s : Same H H') (h : MetAt n m H L d ps) : MetAt n m H' L d ps := by
  obtain ⟨zs, h1, h2⟩ := h.l
  obtain ⟨kvs, h3, h4⟩ := h.d
  exact ⟨⟨zs, s _ _ h1, h2.same s⟩, ⟨kvs, s _ _ h3, h4⟩, h.nd, h.rg⟩
def spMet (K : PySem.W.Frag) : Sp := fun vs H Q _ => ∃ (vc vw : V) (pl : Addr) (base : Int) (C : Chn) (W : Wt) (xs : List V) (ps : List Pr), vs = [vc, vw, .ref pl] ∧ Dp K H vc (dChn base C) ∧ ChnOk base C ∧ Dp K H vw (dWt W) ∧ WtOk W ∧ SqL K H pl xs ∧ PrAs H xs ps ∧ 0 < ps.length ∧ (∀ p ∈ ps, inR C.length W.rows.length p) ∧
  ∀ (H' : Hp) (L : Addr) (zs : List V) (qs : List Pr), Same H H' → H L = none → H' L = some (.lst zs) → PrAs H' zs qs → 0 < qs.length → qs.length ≤ 1000 → (∀ p ∈ qs, inR C.length W.rows.length p) → Q (.ref L) H'
section
variable {P : Program} {w : World} {K : PySem.W.Frag} {mg : Str → Option Value} {base : Heap}
theorem ok__law_met_pairs (T : Txt K mg) (D__law_watch_step : Kept P w K mg base 1 "_law_watch_step" ["watch", "state", "shown"] (spPlace K)) {f : Addr} {fd : FuncData} (F : FnP K "_law_met_pairs" s__law_met_pairs f fd) : FnOk P w K mg base CX0 2 f fd ["chain", "watch", "starts"] (spMet K) := by
  refine F.ok sc__law_met_pairs (fun vs H Q E h => ?_) (fun cdv A outer s H vs Q E hr h => ?_)
  · obtain ⟨vc, vw, pl, b, C, W, xs, ps, rfl, _⟩ := h
    rfl
  · obtain ⟨vc, vw, pl, b, C, W, xs, ps, rfl, hC, ok, hW, okw, hpl, hps, pos, rg, q⟩ := h
    refine ⟨_, PSs.nox (pss_cons (ps_set (i := 3) sc__law_met_pairs.nd rfl (Or.inl rfl) (pe_lst pa_nil))
      (pss_cons (ps_set (i := 4) sc__law_met_pairs.nd rfl (Or.inl rfl) pe_dnewT)
      (pss_cons (ps_for PassesOwn.never rfl (pi_list (pv 2)) (pg_name (i := 5) sc__law_met_pairs.nd rfl (Or.inl rfl)) (pss_one (ps_if (pt_cmp (pc_dnotin (hu_of hr) (pv 5) (pv 4))) (pss_cons (ps_asg pe_bl (pg_sub (pv 4) (pv 5) (set_dict (hu_of hr))))
      (pss_one (ps_expr (pe_bm PySem.F.plainAttrs_list PySem.F.slot_list_append PySem.F.type_list_append mt_append (pv 3) (pa_cons (pv 5) pa_nil))))) pss_nil)))
      (pss_cons (ps_set (i := 6) sc__law_met_pairs.nd rfl (Or.inl rfl) pe_int)
      (pss_cons (ps_while PassesOwn.never (pt_cmpR op_lt (pv 6) (pe_callB call_len (by rfl) T.b_len (by decide +kernel) (pa_cons (pv 3) pa_nil)) (nomark _)) (pss_cons (ps_asg (pe_ix ix_list (pv 3) (pv 6) (fun _ _ => rfl)) (pg_tup rfl (pgs_cons (pg_name (i := 7) sc__law_met_pairs.nd rfl (Or.inl rfl)) (pgs_cons (pg_name (i := 8) sc__law_met_pairs.nd rfl (Or.inl rfl)) pgs_nil))))
      (pss_cons (ps_for PassesOwn.never rfl (pi_tup (pe_ix ix_tup (pe_ix ix_tup (pv 0) pe_int (fun _ _ => rfl)) (pv 7) (fun _ _ => rfl))) (pg_tup rfl (pgs_cons (pg_name (i := 9) sc__law_met_pairs.nd rfl (Or.inl rfl)) (pgs_cons (pg_name (i := 10) sc__law_met_pairs.nd rfl (Or.inl rfl)) (pgs_cons (pg_name (i := 11) sc__law_met_pairs.nd rfl (Or.inl rfl)) pgs_nil)))) (pss_cons (ps_set (i := 5) sc__law_met_pairs.nd rfl (Or.inl rfl) (pe_tup (pa_cons (pv 11) (pa_cons (pe_d D__law_watch_step (hr.mono (by decide)) (by rfl) (pa_cons (pv 1) (pa_cons (pv 8) (pa_cons (pv 10) pa_nil)))) pa_nil))))
      (pss_one (ps_if (pt_cmp (pc_dnotin (hu_of hr) (pv 5) (pv 4))) (pss_cons (ps_asg pe_bl (pg_sub (pv 4) (pv 5) (set_dict (hu_of hr))))
      (pss_one (ps_expr (pe_bm PySem.F.plainAttrs_list PySem.F.slot_list_append PySem.F.type_list_append mt_append (pv 3) (pa_cons (pv 5) pa_nil))))) pss_nil))))
      (pss_one (ps_aug (i := 6) sc__law_met_pairs.nd rfl (Or.inl rfl) pe_int ip_add)))))
      (pss_one (ps_ret (pv 3)))))))), ?_⟩
    obtain ⟨pc, pq, ys, rfl, hpc, hpq, hA⟩ := chn_at (id hC)
    have xl := hps.len
    have area : C.length * W.rows.length ≤ 1000 := by
      have h1 := ok.few
      have h2 := okw.few
      have := Nat.mul_le_mul h1 h2
      omega
    refine ⟨Nat.zero_le _, fun L hL => fun d hd => ?_⟩
    have s1 := same_new (o := .lst []) hL
    have hL1 := upd_same (H := H) (a := L) (o := .lst [])
    have hd0 : H d = none := s1.free hd
    have Ld : L ≠ d := ne_of_none hL1 hd
    have s2 := s1.trans (same_new (o := .dT []) hd)
    have hL2 := same_new (o := .dT []) hd _ _ hL1
    have hd2 := upd_same (H := upd H L (.lst [])) (a := d) (o := .dT [])
    generalize upd (upd H L (.lst [])) d (.dT []) = H2 at s2 hL2 hd2
    have m2 : MetAt C.length W.rows.length H2 L d [] := ⟨⟨[], hL2, .nil⟩, ⟨[], hd2, .nil⟩, List.nodup_nil, fun _ h => absurd h List.not_mem_nil⟩
    -- one pair more
    have more : ∀ {H3 : Hp} {qs : List Pr} {p : Pr} {x : V}, Same H H3 → MetAt C.length W.rows.length H3 L d qs → PrA H3 x p → p ∉ qs → inR C.length W.rows.length p → ∀ zs kvs, H3 L = some (.lst zs) → H3 d = some (.dT kvs) → Same H (upd (upd H3 d (.dT (putK kvs (kP p) (.bl true)))) L (.lst (zs ++ [x]))) ∧ MetAt C.length W.rows.length (upd (upd H3 d (.dT (putK kvs (kP p) (.bl true)))) L (.lst (zs ++ [x]))) L d (qs ++ [p]) := fun {H3 qs p x} s3 mt hx no hin zs kvs hL3 hd3 => by
      obtain ⟨zs', e1, h1⟩ := mt.l
      obtain ⟨kvs', e2, h2⟩ := mt.d
      rw [hL3] at e1
      cases e1
      rw [hd3] at e2
      cases e2
      have hL4 : (upd H3 d (.dT (putK kvs (kP p) (.bl true)))) L = some (.lst zs) := by
        rw [upd_ne Ld]
        exact hL3
      refine ⟨same_mut (same_mut s3 hd0) hL, ⟨_, upd_same, ?_⟩, ⟨_, by rw [upd_ne Ld.symm, upd_same], h2.put p⟩, ?_, fun z hz => ?_⟩
      · exact ((h1.nt (nt_dt _) hd3).nt (nt_lst _) hL4).snoc ((hx.nt (nt_dt _) hd3).nt (nt_lst _) hL4)
      · exact List.nodup_append.mpr ⟨mt.nd, List.nodup_cons.mpr ⟨List.not_mem_nil, List.nodup_nil⟩, fun a ha b hb e => by
          rw [List.mem_singleton.mp hb] at e
          exact no (e ▸ ha)⟩
      · rcases List.mem_append.mp hz with h | h
        · exact mt.rg z h
        · rw [List.mem_singleton.mp h]
          exact hin
    refine ⟨_, rfl, pl, rfl, ⟨_, same_l s2 hpl⟩, for_list (K := K) (a := pl) (xs := xs) (fun i σ H' => ∃ (y5 : Option V) (qs : List Pr), σ = [some (.ref pc), some vw, some (.ref pl), some (.ref L), some (.ref d), y5, none, none, none, none, none, none] ∧ Same H H' ∧ MetAt C.length W.rows.length H' L d qs ∧ ∀ p ∈ ps.take i, p ∈ qs) ⟨_, [], rfl, s2, m2, fun p h => absurd h List.not_mem_nil⟩ (fun i σ H' _ ⟨_, _, _, s, _⟩ => same_l s hpl) ?_ ?_⟩
    · rintro i x σ H3 hi ⟨y5, qs, rfl, s3, mt, sub⟩
      obtain ⟨p, hp, hx⟩ := hps.at hi
      have hx3 := hx.same s3
      obtain ⟨qx, rfl, hqx⟩ := id hx3
      obtain ⟨zs, hL3, hzs⟩ := mt.l
      obtain ⟨kvs, hd3, kn⟩ := mt.d
      have few := pr_few mt.nd mt.rg
      have kl := kn.len
      have zl := hzs.len
      refine ⟨_, rfl, _, rfl, d, _, rfl, DGet.t (k := kP p) hd3 hqx, _, rfl, ?_⟩
      rw [kn.val]
      by_cases m0 : p ∈ qs
      · rw [if_pos m0]
        refine ite2 (fun h => (nomatch (show false = true from h))) (fun _ => ?_)
        refine ⟨_, qs, rfl, s3, mt, fun z hz => ?_⟩
        rw [take_snoc hp] at hz
        rcases List.mem_append.mp hz with h | h
        · exact sub z h
        · rw [List.mem_singleton.mp h]
          exact m0
      · rw [if_neg m0]
        refine ite2 (fun _ => ?_) (fun h => absurd rfl h)
        obtain ⟨s4, mt4⟩ := more s3 mt hx3 m0 (rg p (List.mem_of_getElem? hp)) zs kvs hL3 hd3
        have hL4 : (upd H3 d (.dT (putK kvs (kP p) (.bl true)))) L = some (.lst zs) := by
          rw [upd_ne Ld]
          exact hL3
        refine ⟨_, rfl, _, rfl, d, _, rfl, DPut.t (k := kP p) hd3 hqx (line6 (by omega)), ?_⟩
        refine ⟨_, rfl, .inl ⟨rfl, _, SqL.of hL4⟩, _, rfl, L, zs, _, rfl, rfl, hL4, line6 (by omega), ?_⟩
        refine ⟨_, qs ++ [p], rfl, s4, mt4, fun z hz => ?_⟩
        rw [take_snoc hp] at hz
        rcases List.mem_append.mp hz with h | h
        · exact List.mem_append_left _ (sub z h)
        · exact List.mem_append_right _ h
    · rintro σ H3 ⟨y5, qs, rfl, s3, mt, sub⟩
      rw [xl, List.take_length] at sub
      have qpos : 0 < qs.length := by
        cases ps with
        | nil => exact absurd pos (Nat.lt_irrefl 0)
        | cons a r => exact List.length_pos_iff.mpr (List.ne_nil_of_mem (sub a List.mem_cons_self))
      refine ⟨fun m σ H' => ∃ (k : Nat) (y5 y7 y8 y9 y10 y11 : Option V) (qs : List Pr), m = 1001 - k ∧ σ = [some (.ref pc), some vw, some (.ref pl), some (.ref L), some (.ref d), y5, some (.int (k : Int)), y7, y8, y9, y10, y11] ∧ Same H H' ∧ MetAt C.length W.rows.length H' L d qs ∧ 0 < qs.length ∧ k ≤ 1000, ⟨_, 0, _, _, _, _, _, _, qs, rfl, rfl, s3, mt, qpos, Nat.zero_le _⟩, ?_⟩
      rintro m σ H4 ⟨k, y5, y7, y8, y9, y10, y11, qs, rfl, rfl, s4, mt, qpos, k1⟩
      obtain ⟨zs, hL4, hzs⟩ := mt.l
      have few := pr_few mt.nd mt.rg
      have zl := hzs.len
      refine ⟨_, rfl, _, rfl, _, _, rfl, .inl ⟨_, SqL.of hL4, rfl⟩, _, _, rfl, rfl, ?_⟩
      refine ⟨_, rfl, ite2 (fun hk => ?_) (fun _ => ?_)⟩
      · have klt : k < qs.length := by
          have : (k : Int) < (zs.length : Int) := of_decide_eq_true hk
          omega
        have kb : k < 1000 := by omega
        obtain ⟨⟨a, c⟩, hp⟩ : ∃ p, qs[k]? = some p := ⟨qs[k]'klt, List.getElem?_eq_getElem _⟩
        obtain ⟨x, hx, qx, rfl, hqx⟩ := hzs.get hp
        obtain ⟨a0, a1, c0, c1⟩ := mt.rg _ (List.mem_of_getElem? hp)
        have a0 : 0 ≤ a := a0
        have a1 : a < (C.length : Int) := a1
        have c0 : 0 ≤ c := c0
        have c1 : c < (W.rows.length : Int) := c1
        obtain ⟨an, rfl⟩ : ∃ n : Nat, a = n := ⟨a.toNat, by omega⟩
        obtain ⟨cn, rfl⟩ : ∃ n : Nat, c = n := ⟨c.toNat, by omega⟩
        have alt : an < C.length := by omega
        have clt : cn < W.rows.length := by omega
        obtain ⟨xr, hxr, hdr⟩ := dpA_get hA (rowOf_at alt)
        have okr := ok.row _ (List.mem_of_getElem? (rowOf_at alt))
        obtain ⟨pr, rs, rfl, hpr, hrs⟩ := dp_tup hdr
        have rl := dpA_len hrs
        rw [List.length_map] at rl
        refine ⟨fun σ' H' => ∃ (y5 y7 y8 y9 y10 y11 : Option V) (qs : List Pr), σ' = [some (.ref pc), some vw, some (.ref pl), some (.ref L), some (.ref d), y5, some (.int ((k + 1 : Nat) : Int)), y7, y8, y9, y10, y11] ∧ Same H H' ∧ MetAt C.length W.rows.length H' L d qs ∧ 0 < qs.length, fun σ' H' ⟨z5, z7, z8, z9, z10, z11, qs', e, s', mt', pos'⟩ => ⟨1001 - (k + 1), by omega, k + 1, z5, z7, z8, z9, z10, z11, qs', rfl, e, s', mt', pos', by omega⟩, ?_⟩
        refine ⟨_, rfl, _, rfl, L, _, _, _, rfl, rfl, SqL.of hL4, atI_nat hx, qx, _, rfl, SqT.of hqx, rfl, _, _, rfl, _, _, rfl, rfl, ?_⟩
        refine ⟨_, rfl, pc, _, _, _, rfl, rfl, same_t s4 hpc, atI_nat (j := 2) rfl, _, rfl, pq, _, _, _, rfl, rfl, same_t s4 hpq, atI_nat hxr, pr, rfl, ⟨_, same_t s4 hpr⟩, for_tup (K := K) (a := pr) (xs := rs) (fun j σ H' => ∃ (y5 y9 y10 y11 : Option V) (qs : List Pr), σ = [some (.ref pc), some vw, some (.ref pl), some (.ref L), some (.ref d), y5, some (.int (k : Int)), some (.int (an : Int)), some (.int (cn : Int)), y9, y10, y11] ∧ Same H H' ∧ MetAt C.length W.rows.length H' L d qs ∧ 0 < qs.length) ⟨_, _, _, _, qs, rfl, s4, mt, qpos⟩ (fun j σ H' _ ⟨_, _, _, _, _, _, s, _⟩ => same_t s hpr) ?_ ?_⟩
        · rintro j y σ H5 hj ⟨y5, y9, y10, y11, qs, rfl, s5, mt, qpos⟩
          obtain ⟨br, hbr, hy⟩ := dpA_mem (dpA_same s5 _ _ hrs) hj
          have okb := okr.to br (List.mem_of_getElem? hbr)
          obtain ⟨pb, x0, x1, rfl, hpb, hd0', hx1⟩ := br_at hy
          refine ⟨pb, _, rfl, hpb, rfl, _, _, rfl, _, _, rfl, _, _, rfl, rfl, ?_⟩
          refine ⟨_, rfl, _, rfl, _, rfl, _, rfl, vw, x1, cn, W, br.2.1, rfl, dp_same s5 _ _ hW, okw, clt, hx1, fun H6 s6 => ⟨z2, fun pt hpt => ?_⟩⟩
          have st := s6.trans (same_new (o := .tup [.int (br.2.2 : Int), .int (wStep W cn br.2.1 : Int)]) hpt)
          have s7 := s5.trans st
          have mt7 := mt.same st
          have hpt7 := upd_same (H := H6) (a := pt) (o := .tup [.int (br.2.2 : Int), .int (wStep W cn br.2.1 : Int)])
          generalize upd H6 pt (.tup [.int (br.2.2 : Int), .int (wStep W cn br.2.1 : Int)]) = H7 at s7 mt7 hpt7
          obtain ⟨zs, hL7, hzs⟩ := mt7.l
          obtain ⟨kvs, hd7, kn⟩ := mt7.d
          have few := pr_few mt7.nd mt7.rg
          have kl := kn.len
          have zl := hzs.len
          refine ⟨_, rfl, _, rfl, d, _, rfl, DGet.t (k := kP ((br.2.2 : Int), (wStep W cn br.2.1 : Int))) hd7 hpt7, _, rfl, ?_⟩
          rw [kn.val]
          by_cases m0 : (((br.2.2 : Int), (wStep W cn br.2.1 : Int)) : Pr) ∈ qs
          · rw [if_pos m0]
            refine ite2 (fun h => (nomatch (show false = true from h))) (fun _ => ?_)
            exact ⟨_, _, _, _, qs, rfl, s7, mt7, qpos⟩
          · rw [if_neg m0]
            refine ite2 (fun _ => ?_) (fun h => absurd rfl h)
            have wl := wStep_lt okw clt br.2.1
            obtain ⟨s8, mt8⟩ := more (p := ((br.2.2 : Int), (wStep W cn br.2.1 : Int))) (x := .ref pt) s7 mt7 ⟨pt, rfl, hpt7⟩ m0 ⟨by show (0 : Int) ≤ (br.2.2 : Int); omega, by show (br.2.2 : Int) < _; omega, by show (0 : Int) ≤ (wStep W cn br.2.1 : Int); omega, by show (wStep W cn br.2.1 : Int) < _; omega⟩ zs kvs hL7 hd7
            have hL8 : (upd H7 d (.dT (putK kvs (kP ((br.2.2 : Int), (wStep W cn br.2.1 : Int))) (.bl true)))) L = some (.lst zs) := by
              rw [upd_ne Ld]
              exact hL7
            refine ⟨_, rfl, _, rfl, d, _, rfl, DPut.t (k := kP ((br.2.2 : Int), (wStep W cn br.2.1 : Int))) hd7 hpt7 (line6 (by omega)), ?_⟩
            refine ⟨_, rfl, .inl ⟨rfl, _, SqL.of hL8⟩, _, rfl, L, zs, _, rfl, rfl, hL8, line6 (by omega), ?_⟩
            exact ⟨_, _, _, _, _, rfl, s8, mt8, by rw [List.length_append]; show 0 < _ + 1; omega⟩
        · rintro σ H5 ⟨y5, y9, y10, y11, qs, rfl, s5, mt, qpos⟩
          refine ⟨_, rfl, _, _, rfl, rfl, ?_⟩
          exact ⟨_, _, _, _, _, _, qs, rfl, s5, mt, qpos⟩
      · exact ⟨_, rfl, q _ L zs qs s4 hL hL4 hzs qpos (by omega) mt.rg⟩
end
end Mt
namespace Mt
open PySem PySem.Spec PyProof.Rows L2
def spSpared (K : PySem.W.Frag) : Sp := fun vs H Q _ => ∃ (S D : Addr) (vc vw : V) (base : Int) (C : Chn) (W : Wt), vs = [.ref D, vc, vw] ∧ DrawAt S D H ∧ Dp K H vc (dChn base C) ∧ ChnOk base C ∧ Dp K H vw (dWt W) ∧ WtOk W ∧
  ∀ (H' : Hp) (v : V) (W' : Wt), Go S D H H' → Dp K H' v (dWt W') → WtOk W' → Q v H'
theorem flat_ints (l : List Int) : (l.map V.int).all flatV = true := by
  rw [List.all_map]
  exact List.all_eq_true.mpr fun _ _ => rfl
section
variable {P : Program} {w : World} {K : PySem.W.Frag} {mg : Str → Option Value} {base : Heap}
theorem ok__law_spared (T : Txt K mg) (D__law_draw : Kept P w K mg base 1 "_law_draw" ["d", "many"] spDraw) (D__law_met_pairs : Kept P w K mg base 2 "_law_met_pairs" ["chain", "watch", "starts"] (spMet K)) {f : Addr} {fd : FuncData} (F : FnP K "_law_spared" s__law_spared f fd) : FnOk P w K mg base CX0 3 f fd ["d", "chain", "watch"] (spSpared K) := by
  refine F.ok sc__law_spared (fun vs H Q E h => ?_) (fun cdv A outer s H vs Q E hr h => ?_)
  · obtain ⟨S, D, vc, vw, b, C, W, rfl, _⟩ := h
    rfl
  · obtain ⟨S, D, vc, vw, b, C, W, rfl, d, hC, ok, hW, okw, q⟩ := h
    refine ⟨_, PSs.nox (pss_cons (ps_if (pt_cmpR op_eq (pe_d D__law_draw (hr.mono (by decide)) (by rfl) (pa_cons (pv 0) (pa_cons pe_int pa_nil))) pe_int (nomark _)) (pss_one (ps_ret (pv 2))) pss_nil)
      (pss_cons (ps_set (i := 3) sc__law_spared.nd rfl (Or.inr rfl) (pe_lc (own := [("pair", 4)]) (g := (gName 4)) (tt := tYes) rfl sc__law_spared.nd (pi_list (pe_d D__law_met_pairs (hr.mono (by decide)) (by rfl) (pa_cons (pv 1) (pa_cons (pv 2) (pa_cons (pe_lst (pa_cons (pe_tup (pa_cons pe_int (pa_cons pe_int pa_nil))) pa_nil)) pa_nil))))) (blkOk_by (N := N__law_spared) (sc := defScope s__law_spared) (by decide +kernel)) (fun _ _ _ _ _ => (pg_name (i := 4) sc__law_spared.nd rfl (Or.inl rfl))) (fun _ _ _ _ _ => pts_nil) (fun _ _ _ _ _ => (pe_ix (ixT (K := K) rfl) (pv 4) pe_int (fun _ _ => rfl)))))
      (pss_one (ps_ret (pe_tup (pa_cons (pe_ix ix_tup (pv 2) pe_int (fun _ _ => rfl)) (pa_cons (pe_ix ix_tup (pv 2) pe_int (fun _ _ => rfl)) (pa_cons (pe_callTy call_tuple_of (by rfl) T.b_tuple (by decide +kernel) (pa_cons (pe_lc (own := [("one", 5)]) (g := (gName 5)) rfl sc__law_spared.nd (pi_tup (pe_ix ix_tup (pv 2) pe_int (fun _ _ => rfl))) (blkOk_by (N := N__law_spared) (sc := defScope s__law_spared) (by decide +kernel)) (fun _ _ _ _ _ => (pg_name (i := 5) sc__law_spared.nd rfl (Or.inl rfl))) (fun _ _ _ _ _ => (pts_one (pt_cmpR (ninK (K := K) rfl) (pv 5) (pv 3) (by rfl)))) (fun _ _ _ _ _ => (pv 5))) pa_nil)) pa_nil)))))))), ?_⟩
    refine ⟨_, rfl, S, D, 2, rfl, divW_of (by decide) (by decide), d, fun H1 v v0 v1 g1 => ⟨rfl, _, rfl, ite2 (fun _ => ?_) (fun _ => ?_)⟩⟩
    · exact ⟨_, rfl, q _ vw W g1 (dp_keep (Go.keepT d g1) _ _ (dWt_noL W) hW) okw⟩
    · have hC1 := dp_keep (Go.keepT d g1) _ _ (dChn_noL b C) hC
      have hW1 := dp_keep (Go.keepT d g1) _ _ (dWt_noL W) hW
      refine ⟨_, rfl, _, rfl, z2, fun p0 hp0 => ⟨z1, fun l0 hl0 => ?_⟩⟩
      have s2 := same_new (o := .tup [.int 0, .int 0]) hp0
      have hp02 := upd_same (H := H1) (a := p0) (o := .tup [.int 0, .int 0])
      generalize upd H1 p0 (.tup [.int 0, .int 0]) = H2 at s2 hp02 hl0
      have s3 := s2.trans (same_new (o := .lst [.ref p0]) hl0)
      have hp03 := same_new (o := .lst [.ref p0]) hl0 _ _ hp02
      have hl03 := upd_same (H := H2) (a := l0) (o := .lst [.ref p0])
      generalize upd H2 l0 (.lst [.ref p0]) = H3 at s3 hp03 hl03
      refine ⟨vc, vw, l0, b, C, W, _, [(0, 0)], rfl, dp_same s3 _ _ hC1, ok, dp_same s3 _ _ hW1, okw, SqL.of hl03, .cons ⟨p0, rfl, hp03⟩ .nil, by decide, fun p hp => ?_, fun H4 L zs qs s4 hL0 hL hzs qpos ql rg => ?_⟩
      · rw [List.mem_singleton.mp hp]
        have := ok.pos
        have := okw.pos
        exact ⟨by decide, by show (0 : Int) < _; omega, by decide, by show (0 : Int) < _; omega⟩
      · have zl := hzs.len
        refine ⟨L, rfl, ⟨_, SqL.of hL⟩, fun M hM => lc_list (K := K) (a := L) (xs := zs) (fun i H' => Same H4 H' ∧ H' M = some (.lst (((qs.take i).map (·.2)).map V.int))) ⟨same_new hM, upd_same⟩ (fun i H' _ e => SqL.of (e.1 _ _ hL)) ?_ ?_⟩
        · rintro i x H5 hi ⟨s5, hM5⟩
          obtain ⟨p, hp, qx, rfl, hqx⟩ := hzs.at hi
          have il := (List.getElem?_eq_some_iff.mp hp).1
          refine ⟨rfl, _, rfl, qx, _, _, _, rfl, rfl, SqT.of (s5 _ _ hqx), atI_nat (j := 1) rfl, _, hM5, by rw [List.length_map, List.length_map, List.length_take]; exact line6 (by omega), same_mut s5 hM, ?_⟩
          rw [upd_same, take_snoc hp, List.map_append, List.map_append]
          rfl
        · rintro H5 ⟨s5, hM5⟩
          rw [zl, List.take_length] at hM5
          have s15 := s3.trans (s4.trans s5)
          have hW5 := dp_same s15 _ _ hW1
          obtain ⟨pw, pwq, pwb, us, rfl, hpw, hpwq, hAw, hpwb⟩ := wt_at hW5
          have fewB := okw.fewB
          refine ⟨_, rfl, pw, _, _, _, rfl, rfl, hpw, atI_nat (j := 0) rfl, _, rfl, pw, _, _, _, rfl, rfl, hpw, atI_nat (j := 1) rfl, _, rfl, pw, _, _, _, rfl, rfl, hpw, atI_nat (j := 2) rfl, ?_⟩
          refine ⟨pwb, rfl, ⟨_, hpwb⟩, fun N hN => lc_tup (K := K) (a := pwb) (xs := W.bad.map vN) (fun i H' => Same H5 H' ∧ ∃ bs : List Nat, H' N = some (.lst (bs.map vN)) ∧ bs.length ≤ i) ⟨same_new hN, [], upd_same, Nat.le_refl _⟩ (fun i H' _ e => same_t e.1 hpwb) ?_ ?_⟩
          · rintro i x H6 hi ⟨s6, bs, hN6, bl⟩
            rw [List.getElem?_map] at hi
            obtain ⟨k, hk, rfl⟩ := Option.map_eq_some_iff.mp hi
            have il := (List.getElem?_eq_some_iff.mp hk).1
            refine ⟨rfl, _, rfl, _, rfl, M, _, rfl, .inl (SqL.of (s6 _ _ hM5)), rfl, flat_ints _, _, rfl, ite2 (fun _ => ?_) (fun _ => ?_)⟩
            · refine ⟨_, rfl, _, hN6, by rw [List.length_map]; exact line6 (by omega), same_mut s6 hN, bs ++ [k], ?_, by rw [List.length_append, List.length_singleton]; omega⟩
              rw [upd_same, List.map_append]
              rfl
            · exact ⟨s6, bs, hN6, by omega⟩
          · rintro H6 ⟨s6, bs, hN6, bl⟩
            rw [List.length_map] at bl
            refine ⟨N, _, rfl, .inl ⟨SqL.of hN6, fun pb hpb => ⟨z3, fun pf hpf => ?_⟩⟩⟩
            obtain ⟨s7, d7⟩ := new_tup (K := K) (ds := bs.map fun k : Nat => .int (k : Int)) hpb (nats_dp bs)
            have dR : Dp K H6 (.ref pwq) (.tuple (W.rows.map dWr)) := .tup (same_t s6 hpwq) (dpA_same s6 _ _ hAw)
            obtain ⟨s8, d8⟩ := new_tup (K := K) hpf (.cons (.str "watch") (.cons (dp_same s7 _ _ dR) (.cons d7 .nil)))
            exact q _ _ ⟨W.rows, bs⟩ (g1.trans (Go.same g1.1 (s15.trans (s6.trans (s7.trans s8))))) d8 ⟨okw.pos, okw.few, by show bs.length ≤ 20; omega, okw.row⟩
end
end Mt
namespace Mt
open PySem PySem.Spec PyProof.Rows L2
def AllP (H : Hp) (zs : List V) : Prop := ∀ y ∈ zs, ∃ p, PrA H y p
theorem PrA.go {S D : Addr} {H H' : Hp} {x : V} {p : Pr} (d : DrawAt S D H) (g : Go S D H H') (h : PrA H x p) : PrA H' x p := by
  obtain ⟨q, e, h⟩ := h
  refine ⟨q, e, g.2 _ _ h fun k => ?_⟩
  obtain ⟨_, _, _, _, hD⟩ := d.at_
  rw [k, hD] at h
  cases h
theorem AllP.go {S D : Addr} {H H' : Hp} {zs : List V} (d : DrawAt S D H) (g : Go S D H H') (h : AllP H zs) : AllP H' zs := fun y hy => (h y hy).imp fun _ => PrA.go d g
theorem AllP.nt {H : Hp} {L : Addr} {o o2 : HO} {zs : List V} (nt : NT o2) (hd : H L = some o2) (h : AllP H zs) : AllP (upd H L o) zs := fun y hy => (h y hy).imp fun _ => PrA.nt nt hd
theorem AllP.same {H H' : Hp} {zs : List V} (s : Same H H') (h : AllP H zs) : AllP H' zs := fun y hy => (h y hy).imp fun _ => PrA.same s
theorem PrAs.all {H : Hp} {zs : List V} {ps : List Pr} (h : PrAs H zs ps) : AllP H zs := fun y hy => by
  obtain ⟨i, hi⟩ := List.mem_iff_getElem?.mp hy
  obtain ⟨p, _, hp⟩ := h.at hi
  exact ⟨p, hp⟩
theorem AllP.prs {H : Hp} : ∀ {zs : List V}, AllP H zs → ∃ ps, PrAs H zs ps
  | [], _ => ⟨[], .nil⟩
  | y :: r, h => by
    obtain ⟨p, hp⟩ := h y List.mem_cons_self
    obtain ⟨ps, hps⟩ := AllP.prs (zs := r) fun z hz => h z (List.mem_cons_of_mem _ hz)
    exact ⟨p :: ps, .cons hp hps⟩
theorem AllP.snoc {H : Hp} {zs : List V} {x : V} {p : Pr} (h : AllP H zs) (hx : PrA H x p) : AllP H (zs ++ [x]) := fun y hy => by
  rcases List.mem_append.mp hy with k | k
  · exact h y k
  · rw [List.mem_singleton.mp k]
    exact ⟨p, hx⟩
theorem cutV_mem {xs : List V} {lo hi : Option Int} {y : V} (h : y ∈ cutV xs lo hi) : y ∈ xs := by
  unfold cutV at h
  exact List.mem_of_mem_drop (List.mem_of_mem_take h)
theorem cutV_len (xs : List V) (lo hi : Option Int) : (cutV xs lo hi).length ≤ xs.length := by
  unfold cutV
  rw [List.length_take, List.length_drop]
  omega
/-- pairs stand in the list at L -/
structure Tb (S D : Addr) (H H' : Hp) (L : Addr) (lo N : Nat) : Prop where
  g : Go S D H H'
  n : H L = none
  l : ∃ zs, H' L = some (.lst zs) ∧ AllP H' zs ∧ lo ≤ zs.length ∧ zs.length ≤ N
theorem Tb.go {S D : Addr} {H H1 H2 : Hp} {L : Addr} {lo N : Nat} (d : DrawAt S D H) (t : Tb S D H H1 L lo N) (g : Go S D H1 H2) : Tb S D H H2 L lo N := by
  obtain ⟨zs, h1, h2, h3, h4⟩ := t.l
  exact ⟨t.g.trans g, t.n, zs, g.2 _ _ h1 (d.free t.n).1, h2.go t.g.1 g, h3, h4⟩
theorem Tb.add {S D : Addr} {H H1 : Hp} {L : Addr} {lo N : Nat} {zs : List V} {x : V} {p : Pr} (d : DrawAt S D H) (t : Tb S D H H1 L lo N) (h : H1 L = some (.lst zs)) (hx : PrA H1 x p) : Tb S D H (upd H1 L (.lst (zs ++ [x]))) L lo (N + 1) := by
  obtain ⟨zs', h1, h2, h3, h4⟩ := t.l
  rw [h] at h1
  cases h1
  refine ⟨goU t.n d t.g, t.n, zs ++ [x], upd_same, (h2.snoc hx).nt (nt_lst _) h, ?_, ?_⟩
  · rw [List.length_append]
    omega
  · rw [List.length_append, List.length_singleton]
    omega
theorem Tb.up {S D : Addr} {H H1 : Hp} {L : Addr} {lo lo' N N' : Nat} (t : Tb S D H H1 L lo N) (h : N ≤ N') (k : lo' ≤ lo) : Tb S D H H1 L lo' N' := by
  obtain ⟨zs, h1, h2, h3, h4⟩ := t.l
  exact ⟨t.g, t.n, zs, h1, h2, by omega, by omega⟩
theorem Tb.put {S D : Addr} {H H1 : Hp} {L : Addr} {lo N : Nat} {pt : Addr} (d : DrawAt S D H) (t : Tb S D H H1 L lo N) (hp : H1 pt = none) (a b : Int) : ∃ zs, (upd H1 pt (.tup [.int a, .int b])) L = some (.lst zs) ∧ zs.length ≤ N ∧ Tb S D H (upd (upd H1 pt (.tup [.int a, .int b])) L (.lst (zs ++ [.ref pt]))) L lo (N + 1) := by
  have t2 := t.go d (Go.new (o := .tup [.int a, .int b]) t.g.1 hp)
  obtain ⟨zs, h1, h2, h3, h4⟩ := t2.l
  exact ⟨zs, h1, h4, t2.add (p := (a, b)) d h1 ⟨pt, rfl, upd_same⟩⟩
theorem four {a b c e : Int} {x : V} (h : x ∈ [V.int a, .int b, .int c, .int e]) : ∃ z, x = V.int z := by
  rcases List.mem_cons.mp h with rfl | h
  · exact ⟨_, rfl⟩
  rcases List.mem_cons.mp h with rfl | h
  · exact ⟨_, rfl⟩
  rcases List.mem_cons.mp h with rfl | h
  · exact ⟨_, rfl⟩
  exact ⟨_, List.mem_singleton.mp h⟩
def spTable (K : PySem.W.Frag) : Sp := fun vs H Q _ => ∃ (S D : Addr) (vc vw : V) (base : Int) (C : Chn) (W : Wt), vs = [.ref D, vc, vw] ∧ DrawAt S D H ∧ Dp K H vc (dChn base C) ∧ ChnOk base C ∧ Dp K H vw (dWt W) ∧ WtOk W ∧
  ∀ (H' : Hp) (p : Addr) (zs : List V) (ps : List Pr), Go S D H H' → H' p = some (.tup zs) → PrAs H' zs ps → ps.length ≤ 2500 → Q (.ref p) H'
section
variable {P : Program} {w : World} {K : PySem.W.Frag} {mg : Str → Option Value} {base : Heap}
theorem ok__law_table (T : Txt K mg) (D__law_draw : Kept P w K mg base 1 "_law_draw" ["d", "many"] spDraw) (D__law_pick : Kept P w K mg base 2 "_law_pick" ["d", "row"] (spPick K)) (D__law_shuffled : Kept P w K mg base 2 "_law_shuffled" ["d", "row"] (spShufP K)) (D__law_met_pairs : Kept P w K mg base 2 "_law_met_pairs" ["chain", "watch", "starts"] (spMet K)) {f : Addr} {fd : FuncData} (F : FnP K "_law_table" s__law_table f fd) : FnOk P w K mg base CX0 3 f fd ["d", "chain", "watch"] (spTable K) := by
  refine F.ok sc__law_table (fun vs H Q E h => ?_) (fun cdv A outer s H vs Q E hr h => ?_)
  · obtain ⟨S, D, vc, vw, b, C, W, rfl, _⟩ := h
    rfl
  · obtain ⟨S, D, vc, vw, b, C, W, rfl, d, hC, ok, hW, okw, q⟩ := h
    refine ⟨_, PSs.nox (pss_cons (ps_set (i := 3) sc__law_table.nd rfl (Or.inl rfl) (pe_callB call_len (by rfl) T.b_len (by decide +kernel) (pa_cons (pe_ix ix_tup (pv 1) pe_int (fun _ _ => rfl)) pa_nil)))
      (pss_cons (ps_set (i := 4) sc__law_table.nd rfl (Or.inl rfl) (pe_callB call_len (by rfl) T.b_len (by decide +kernel) (pa_cons (pe_ix ix_tup (pv 2) pe_int (fun _ _ => rfl)) pa_nil)))
      (pss_cons (ps_set (i := 5) sc__law_table.nd rfl (Or.inl rfl) (pe_tup (pa_cons (pe_d D__law_draw (hr.mono (by decide)) (by rfl) (pa_cons (pv 0) (pa_cons (pv 3) pa_nil))) (pa_cons (pe_d D__law_draw (hr.mono (by decide)) (by rfl) (pa_cons (pv 0) (pa_cons (pv 4) pa_nil))) pa_nil))))
      (pss_cons (ps_set (i := 6) sc__law_table.nd rfl (Or.inl rfl) (pe_d D__law_pick (hr.mono (by decide)) (by rfl) (pa_cons (pv 0) (pa_cons (pe_lst (pa_cons (pe_lst (pa_cons (pe_tup (pa_cons pe_int (pa_cons pe_int pa_nil))) pa_nil)) (pa_cons (pe_lst (pa_cons (pe_tup (pa_cons pe_int (pa_cons pe_int pa_nil))) pa_nil)) (pa_cons (pe_lst (pa_cons (pe_tup (pa_cons pe_int (pa_cons pe_int pa_nil))) (pa_cons (pv 5) pa_nil))) (pa_cons (pe_lst (pa_cons (pv 5) pa_nil)) pa_nil))))) pa_nil))))
      (pss_cons (ps_set (i := 7) sc__law_table.nd rfl (Or.inl rfl) (pe_d D__law_met_pairs (hr.mono (by decide)) (by rfl) (pa_cons (pv 1) (pa_cons (pv 2) (pa_cons (pv 6) pa_nil)))))
      (Evl.pss_cut (ps_if (pt_cmpR op_eq (pe_d D__law_draw (hr.mono (by decide)) (by rfl) (pa_cons (pv 0) (pa_cons pe_int pa_nil))) pe_int (nomark _)) (pss_cons (ps_set (i := 7) sc__law_table.nd rfl (Or.inl rfl) (pe_lst pa_nil))
      (pss_one (ps_for PassesOwn.never rfl (pi_range1 (by rfl) T.b_range (pa_cons (pv 3) pa_nil)) (pg_name (i := 8) sc__law_table.nd rfl (Or.inr rfl)) (pss_one (ps_set (i := 7) sc__law_table.nd rfl (Or.inl rfl) (pe_op op_cat (pv 7) (pe_lc (own := [("k", 9)]) (g := (gName 9)) (tt := tYes) rfl sc__law_table.nd (pi_range1 (by rfl) T.b_range (pa_cons (pv 4) pa_nil)) (blkOk_by (N := N__law_table) (sc := defScope s__law_table) (by decide +kernel)) (fun _ _ _ _ _ => (pg_name (i := 9) sc__law_table.nd rfl (Or.inl rfl))) (fun _ _ _ _ _ => pts_nil) (fun _ _ _ _ _ => (pe_tup (pa_cons (pv 8) (pa_cons (pv 9) pa_nil))))))))))) pss_nil)
      (Evl.pss_cut (ps_if (pt_cmpR op_eq (pe_d D__law_draw (hr.mono (by decide)) (by rfl) (pa_cons (pv 0) (pa_cons pe_int pa_nil))) pe_int (nomark _)) (pss_one (ps_set (i := 7) sc__law_table.nd rfl (Or.inl rfl) (pe_d D__law_shuffled (hr.mono (by decide)) (by rfl) (pa_cons (pv 0) (pa_cons (pv 7) pa_nil))))) pss_nil)
      (pss_cons (ps_set (i := 10) sc__law_table.nd rfl (Or.inl rfl) (pe_d D__law_draw (hr.mono (by decide)) (by rfl) (pa_cons (pv 0) (pa_cons pe_int pa_nil))))
      (Evl.pss_cut (ps_if (pt_cmpR op_eq (pv 10) pe_int (nomark _)) (pss_one (ps_set (i := 7) sc__law_table.nd rfl (Or.inl rfl) (pe_op op_cat (pv 7) (pe_slice sl_list (pv 7) po_none (po_some pe_int))))) pss_nil)
      (Evl.pss_cut (ps_if (pt_cmpR op_eq (pv 10) pe_int (nomark _)) (pss_one (ps_expr (pe_bm PySem.F.plainAttrs_list PySem.F.slot_list_pop PySem.F.type_list_pop mt_popAt (pv 7) (pa_cons (pe_d D__law_draw (hr.mono (by decide)) (by rfl) (pa_cons (pv 0) (pa_cons (pe_callB call_len (by rfl) T.b_len (by decide +kernel) (pa_cons (pv 7) pa_nil)) pa_nil))) pa_nil)))) pss_nil)
      (Evl.pss_cut (ps_if (pt_cmpR op_eq (pv 10) pe_int (nomark _)) (pss_one (ps_expr (pe_bm PySem.F.plainAttrs_list PySem.F.slot_list_append PySem.F.type_list_append mt_append (pv 7) (pa_cons (pe_tup (pa_cons (pe_d D__law_pick (hr.mono (by decide)) (by rfl) (pa_cons (pv 0) (pa_cons (pe_lst (pa_cons (pe_un un_neg pe_int) (pa_cons (pv 3) (pa_cons (pe_un un_neg (pv 3)) (pa_cons pe_int pa_nil))))) pa_nil))) (pa_cons (pe_d D__law_draw (hr.mono (by decide)) (by rfl) (pa_cons (pv 0) (pa_cons (pv 4) pa_nil))) pa_nil))) pa_nil)))) pss_nil)
      (Evl.pss_cut (ps_if (pt_cmpR op_eq (pv 10) pe_int (nomark _)) (pss_one (ps_expr (pe_bm PySem.F.plainAttrs_list PySem.F.slot_list_append PySem.F.type_list_append mt_append (pv 7) (pa_cons (pe_tup (pa_cons (pe_d D__law_draw (hr.mono (by decide)) (by rfl) (pa_cons (pv 0) (pa_cons (pv 3) pa_nil))) (pa_cons (pe_d D__law_pick (hr.mono (by decide)) (by rfl) (pa_cons (pv 0) (pa_cons (pe_lst (pa_cons (pe_un un_neg pe_int) (pa_cons (pv 4) (pa_cons (pe_un un_neg (pv 4)) (pa_cons (pe_un un_neg pe_int) pa_nil))))) pa_nil))) pa_nil))) pa_nil)))) pss_nil)
      (Evl.pss_cut (ps_if (pt_cmpR op_eq (pv 10) pe_int (nomark _)) (pss_one (ps_expr (pe_bm PySem.F.plainAttrs_list PySem.F.slot_list_append PySem.F.type_list_append mt_append (pv 7) (pa_cons (pe_tup (pa_cons (pe_d D__law_draw (hr.mono (by decide)) (by rfl) (pa_cons (pv 0) (pa_cons (pv 3) pa_nil))) (pa_cons (pe_d D__law_draw (hr.mono (by decide)) (by rfl) (pa_cons (pv 0) (pa_cons (pv 4) pa_nil))) pa_nil))) pa_nil)))) pss_nil)
      (Evl.pss_cut (ps_if (pt_cmpR op_eq (pv 10) pe_int (nomark _)) (pss_one (ps_set (i := 7) sc__law_table.nd rfl (Or.inl rfl) (pe_slice sl_list (pv 7) po_none (po_some (pe_d D__law_draw (hr.mono (by decide)) (by rfl) (pa_cons (pv 0) (pa_cons (pe_op op_add (pe_callB call_len (by rfl) T.b_len (by decide +kernel) (pa_cons (pv 7) pa_nil)) pe_int) pa_nil))))))) pss_nil)
      (pss_one (ps_ret (pe_callTy call_tuple_of (by rfl) T.b_tuple (by decide +kernel) (pa_cons (pv 7) pa_nil)))))))))))))))))), ?_⟩
    obtain ⟨pc, pq, ys, rfl, hpc, hpq, hA⟩ := chn_at (id hC)
    obtain ⟨pw, pwq, pwb, us, rfl, hpw, hpwq, hAw, hpwb⟩ := wt_at (id hW)
    have yl := dpA_len hA
    rw [List.length_map] at yl
    have ul := dpA_len hAw
    rw [List.length_map] at ul
    have c0 := ok.pos
    have c1 := ok.few
    have w0 := okw.pos
    have w1 := okw.few
    have area : C.length * W.rows.length ≤ 1000 := by
      have := Nat.mul_le_mul c1 w1
      omega
    refine ⟨_, rfl, pc, _, _, _, rfl, rfl, hpc, atI_nat (j := 2) rfl, _, _, rfl, .inr ⟨_, hpq, rfl⟩, ?_⟩
    rw [yl]
    refine ⟨_, rfl, pw, _, _, _, rfl, rfl, hpw, atI_nat (j := 1) rfl, _, _, rfl, .inr ⟨_, hpwq, rfl⟩, ?_⟩
    rw [ul]
    refine ⟨_, rfl, _, rfl, S, D, _, rfl, divW_of (by omega) (by omega), d, fun H1 a a0 a1 g1 => ⟨_, rfl, _, rfl, S, D, _, rfl, divW_of (by omega) (by omega), g1.1, fun H2 c e0 e1 g2 => ⟨z2, fun pd hpd => ?_⟩⟩⟩
    have g12 := g1.trans g2
    have g3 := g12.trans (Go.new (o := .tup [.int a, .int c]) g12.1 hpd)
    have hpd3 := upd_same (H := H2) (a := pd) (o := .tup [.int a, .int c])
    generalize upd H2 pd (.tup [.int a, .int c]) = H3 at g3 hpd3
    refine ⟨_, rfl, z2, fun p1 h1 => ⟨z1, fun l1 k1 => ⟨z2, fun p2 h2 => ⟨z1, fun l2 k2 => ⟨z2, fun p3 h3 => ⟨_, rfl, z2, fun l3 k3 => ⟨_, rfl, z1, fun l4 k4 => ⟨by show 4 ≤ sizeLine; decide, fun lp kp => ?_⟩⟩⟩⟩⟩⟩⟩⟩
    have s1 := same_new (o := .tup [.int 0, .int 0]) h1
    have e1 := upd_same (H := H3) (a := p1) (o := .tup [.int 0, .int 0])
    generalize upd H3 p1 (.tup [.int 0, .int 0]) = J1 at *
    have s2 := same_new (o := .lst [.ref p1]) k1
    have e2 := upd_same (H := J1) (a := l1) (o := .lst [.ref p1])
    generalize upd J1 l1 (.lst [.ref p1]) = J2 at *
    have s3 := same_new (o := .tup [.int 0, .int 0]) h2
    have e3 := upd_same (H := J2) (a := p2) (o := .tup [.int 0, .int 0])
    generalize upd J2 p2 (.tup [.int 0, .int 0]) = J3 at *
    have s4 := same_new (o := .lst [.ref p2]) k2
    have e4 := upd_same (H := J3) (a := l2) (o := .lst [.ref p2])
    generalize upd J3 l2 (.lst [.ref p2]) = J4 at *
    have s5 := same_new (o := .tup [.int 0, .int 0]) h3
    have e5 := upd_same (H := J4) (a := p3) (o := .tup [.int 0, .int 0])
    generalize upd J4 p3 (.tup [.int 0, .int 0]) = J5 at *
    have s6 := same_new (o := .lst [.ref p3, .ref pd]) k3
    have e6 := upd_same (H := J5) (a := l3) (o := .lst [.ref p3, .ref pd])
    generalize upd J5 l3 (.lst [.ref p3, .ref pd]) = J6 at *
    have s7 := same_new (o := .lst [.ref pd]) k4
    have e7 := upd_same (H := J6) (a := l4) (o := .lst [.ref pd])
    generalize upd J6 l4 (.lst [.ref pd]) = J7 at *
    have s8 := same_new (o := .lst [.ref l1, .ref l2, .ref l3, .ref l4]) kp
    have e8 := upd_same (H := J7) (a := lp) (o := .lst [.ref l1, .ref l2, .ref l3, .ref l4])
    generalize upd J7 lp (.lst [.ref l1, .ref l2, .ref l3, .ref l4]) = J8 at *
    have e7' := s8 _ _ e7
    have e6' := s8 _ _ (s7 _ _ e6)
    have e5' := s8 _ _ (s7 _ _ (s6 _ _ e5))
    have e4' := s8 _ _ (s7 _ _ (s6 _ _ (s5 _ _ e4)))
    have e3' := s8 _ _ (s7 _ _ (s6 _ _ (s5 _ _ (s4 _ _ e3))))
    have e2' := s8 _ _ (s7 _ _ (s6 _ _ (s5 _ _ (s4 _ _ (s3 _ _ e2)))))
    have e1' := s8 _ _ (s7 _ _ (s6 _ _ (s5 _ _ (s4 _ _ (s3 _ _ (s2 _ _ e1))))))
    have all := s1.trans (s2.trans (s3.trans (s4.trans (s5.trans (s6.trans (s7.trans s8))))))
    have hpd8 := all _ _ hpd3
    have g8 := g3.trans (Go.same g3.1 all)
    have D8 := g8.1
    have l1D := (g3.1.free (s1.free k1)).1
    have l2D := (g3.1.free ((s1.trans (s2.trans s3)).free k2)).1
    have l3D := (g3.1.free ((s1.trans (s2.trans (s3.trans (s4.trans s5)))).free k3)).1
    have l4D := (g3.1.free ((s1.trans (s2.trans (s3.trans (s4.trans (s5.trans s6))))).free k4)).1
    have lpD := (g3.1.free ((s1.trans (s2.trans (s3.trans (s4.trans (s5.trans (s6.trans s7)))))).free kp)).1
    have r0 : inR C.length W.rows.length ((0, 0) : Pr) := ⟨by decide, by show (0 : Int) < _; omega, by decide, by show (0 : Int) < _; omega⟩
    have rd : inR C.length W.rows.length ((a, c) : Pr) := ⟨a0, a1, e0, by assumption⟩
    have key : ∀ x ∈ [V.ref l1, .ref l2, .ref l3, .ref l4], ∃ (l : Addr) (xs : List V) (ps : List Pr), x = .ref l ∧ l ≠ D ∧ J8 l = some (.lst xs) ∧ PrAs J8 xs ps ∧ 0 < ps.length ∧ ∀ p ∈ ps, inR C.length W.rows.length p := by
      intro x hx
      rcases List.mem_cons.mp hx with rfl | hx
      · exact ⟨l1, _, [(0, 0)], rfl, l1D, e2', .cons ⟨p1, rfl, e1'⟩ .nil, by decide, fun p hp => by rw [List.mem_singleton.mp hp]; exact r0⟩
      rcases List.mem_cons.mp hx with rfl | hx
      · exact ⟨l2, _, [(0, 0)], rfl, l2D, e4', .cons ⟨p2, rfl, e3'⟩ .nil, by decide, fun p hp => by rw [List.mem_singleton.mp hp]; exact r0⟩
      rcases List.mem_cons.mp hx with rfl | hx
      · refine ⟨l3, _, [(0, 0), (a, c)], rfl, l3D, e6', .cons ⟨p3, rfl, e5'⟩ (.cons ⟨pd, rfl, hpd8⟩ .nil), by show 0 < 2; decide, fun p hp => ?_⟩
        rcases List.mem_cons.mp hp with rfl | hp
        · exact r0
        · rw [List.mem_singleton.mp hp]
          exact rd
      · rw [List.mem_singleton.mp hx]
        exact ⟨l4, _, [(a, c)], rfl, l4D, e7', .cons ⟨pd, rfl, hpd8⟩ .nil, by show 0 < 1; decide, fun p hp => by rw [List.mem_singleton.mp hp]; exact rd⟩
    refine ⟨S, D, .ref lp, [.ref l1, .ref l2, .ref l3, .ref l4], rfl, D8, fun H' g => .inr (.inl ⟨lp, rfl, SqL.of (g.2 _ _ e8 lpD)⟩), by show 0 < 4; decide, by show 4 ≤ 100000; decide, fun H9 x hx g9 => ?_⟩
    obtain ⟨ls, xs, ps, rfl, lsD, hls, hps, pos, rg⟩ := key x hx
    have gg := g8.trans g9
    have hC9 := dp_keep (Go.keepT d gg) _ _ (dChn_noL b C) hC
    have hW9 := dp_keep (Go.keepT d gg) _ _ (dWt_noL W) hW
    refine ⟨_, rfl, _, rfl, _, rfl, .ref pc, .ref pw, ls, b, C, W, xs, ps, rfl, hC9, ok, hW9, okw, SqL.of (g9.2 _ _ hls lsD), hps.imp (fun _ _ => PrA.go D8 g9), pos, rg, fun HA L zs qs sA L0 hL hzs qpos ql qrg => ?_⟩
    have gA := gg.trans (Go.same gg.1 sA)
    have LH := gg.free d L0
    have zl := hzs.len
    have tb0 : Tb S D H HA L 1 1000 := ⟨gA, LH, zs, hL, hzs.all, by omega, by omega⟩
    clear hps hzs hL qrg rg hls key r0 rd
    clear sA L0 hC9 hW9 all e1' e2' e3' e4' e5' e6' e7' s1 s2 s3 s4 s5 s6 s7 s8
    clear e1 e2 e3 e4 e5 e6 e7 e8 k1 k2 k3 k4 h1 h2 h3 kp lpD l1D l2D l3D l4D hpd hpd8 hpd3 D8 g8
    refine ⟨fun σ' H' => ∃ (L : Addr) (y8 y9 : Option V), σ' = [some (.ref D), some (.ref pc), some (.ref pw), some (.int C.length), some (.int W.rows.length), some (.ref pd), some (.ref ls), some (.ref L), y8, y9, none] ∧ Tb S D H H' L 1 1000, ?_, ?_⟩
    · refine ⟨_, rfl, S, D, 5, rfl, divW_of (by decide) (by decide), gA.1, fun H1 v v0 v1 g1 => ⟨rfl, _, rfl, ite2 (fun _ => ?_) (fun _ => ?_)⟩⟩
      · refine ⟨Nat.zero_le _, fun f hf => ?_⟩
        have gB := gA.trans g1
        have fH := gB.free d hf
        have tbf : Tb S D H (upd H1 f (.lst [])) f 0 0 := ⟨gB.trans (Go.new gB.1 hf), fH, [], upd_same, fun _ h => absurd h List.not_mem_nil, Nat.zero_le _, Nat.le_refl _⟩
        refine ⟨_, rfl, _, rfl, by omega, by omega, for_range (lo := 0) (n := C.length) (fun i σ H' => ∃ (L : Addr) (y8 y9 : Option V), σ = [some (.ref D), some (.ref pc), some (.ref pw), some (.int C.length), some (.int W.rows.length), some (.ref pd), some (.ref ls), some (.ref L), y8, y9, none] ∧ Tb S D H H' L (i * W.rows.length) (i * W.rows.length)) ⟨f, _, _, rfl, by rw [Nat.zero_mul]; exact tbf⟩ ?_ ?_⟩
        · rintro i σ H2 hi ⟨M, y8, y9, rfl, tb⟩
          obtain ⟨zs2, hM, aM, lM1, lM2⟩ := tb.l
          refine ⟨_, rfl, _, rfl, _, rfl, by omega, by omega, fun N hN => lc_range (lo := 0) (n := W.rows.length) (fun j H' => Same H2 H' ∧ ∃ zs, H' N = some (.lst zs) ∧ AllP H' zs ∧ zs.length = j) ⟨same_new hN, [], upd_same, fun _ h => absurd h List.not_mem_nil, rfl⟩ ?_ ?_⟩
          · rintro j H3 hj ⟨s3, zs3, hN3, aN, lN⟩
            refine ⟨rfl, _, rfl, _, rfl, z2, fun pt hpt => ?_⟩
            have s4 := same_new (o := .tup [.int (0 + (i : Int)), .int (0 + (j : Int))]) hpt
            have hpt4 := upd_same (H := H3) (a := pt) (o := .tup [.int (0 + (i : Int)), .int (0 + (j : Int))])
            generalize upd H3 pt (.tup [.int (0 + (i : Int)), .int (0 + (j : Int))]) = H4 at s4 hpt4
            have hN4 := s4 _ _ hN3
            refine ⟨zs3, hN4, line6 (by omega), same_mut (s3.trans s4) hN, zs3 ++ [.ref pt], upd_same, ((aN.same s4).snoc (p := (0 + (i : Int), 0 + (j : Int))) ⟨pt, rfl, hpt4⟩).nt (nt_lst _) hN4, ?_⟩
            rw [List.length_append, lN]
            rfl
          · rintro H3 ⟨s3, zs3, hN3, aN, lN⟩
            have hM3 := s3 _ _ hM
            have im : (i + 1) * W.rows.length ≤ C.length * W.rows.length := Nat.mul_le_mul_right _ hi
            rw [Nat.add_mul, Nat.one_mul] at im
            refine ⟨M, N, zs2, zs3, rfl, rfl, hM3, hN3, line5 (by omega), fun f2 hf2 => ?_⟩
            have g4 := (tb.g.trans (Go.same tb.g.1 s3))
            refine ⟨f2, _, _, rfl, g4.trans (Go.new g4.1 hf2), g4.free d hf2, _, upd_same, fun y hy => ?_, ?_, ?_⟩
            · have hy2 : ∃ p, PrA H3 y p := by
                rcases List.mem_append.mp hy with h | h
                · exact (aM.same s3) y h
                · exact aN y h
              exact hy2.imp fun _ => PrA.same (same_new hf2)
            · rw [List.length_append, Nat.add_mul, Nat.one_mul]
              omega
            · rw [List.length_append, Nat.add_mul, Nat.one_mul]
              omega
        · rintro σ H2 ⟨M, y8, y9, rfl, tb⟩
          have c2 : 1 ≤ C.length * W.rows.length := Nat.mul_pos c0 w0
          exact ⟨M, y8, y9, rfl, tb.up area c2⟩
      · exact ⟨_, _, _, rfl, tb0.go d g1⟩
    clear tb0 zl ql qpos LH gA
    rintro σ' HB ⟨L, y8, y9, rfl, tb0⟩
    refine ⟨fun σ' H' => ∃ (L : Addr), σ' = [some (.ref D), some (.ref pc), some (.ref pw), some (.int C.length), some (.int W.rows.length), some (.ref pd), some (.ref ls), some (.ref L), y8, y9, none] ∧ Tb S D H H' L 1 1000, ?_, ?_⟩
    · refine ⟨_, rfl, S, D, 2, rfl, divW_of (by decide) (by decide), tb0.g.1, fun H1 v v0 v1 g1 => ⟨rfl, _, rfl, ite2 (fun _ => ?_) (fun _ => ?_)⟩⟩
      · have tb1 := tb0.go d g1
        obtain ⟨zs, hL, aL, lL1, lL2⟩ := tb1.l
        refine ⟨_, rfl, _, rfl, S, D, L, zs, rfl, tb1.g.1, SqL.of hL, lL2, fun H2 q2 ys2 g2 f2 h2 pm => ?_⟩
        have aL2 := aL.go tb1.g.1 g2
        exact ⟨_, rfl, tb1.g.trans g2, tb1.g.free d f2, ys2, h2, fun y hy => aL2 y (pm.mem_iff.mp hy), by rw [pm.length_eq]; exact lL1, by rw [pm.length_eq]; exact lL2⟩
      · exact ⟨_, rfl, tb0.go d g1⟩
    clear tb0
    rintro σ' HC ⟨L, rfl, tb0⟩
    refine ⟨_, rfl, S, D, 9, rfl, divW_of (by decide) (by decide), tb0.g.1, fun HD way u0 u1 g1 => ?_⟩
    have tb1 := tb0.go d g1
    clear tb0
    refine ⟨fun σ' H' => ∃ (L : Addr), σ' = [some (.ref D), some (.ref pc), some (.ref pw), some (.int C.length), some (.int W.rows.length), some (.ref pd), some (.ref ls), some (.ref L), y8, y9, some (.int way)] ∧ Tb S D H H' L 1 1002, ?_, ?_⟩
    · refine ⟨_, rfl, rfl, _, rfl, ite2 (fun _ => ?_) (fun _ => ⟨L, rfl, tb1.up (by decide) (Nat.le_refl _)⟩)⟩
      obtain ⟨zs, hL, aL, lL1, lL2⟩ := tb1.l
      refine ⟨_, rfl, _, rfl, _, rfl, L, zs, rfl, SqL.of hL, fun f hf => ?_⟩
      have s2 := same_new (o := .lst (cutV zs none (some 2))) hf
      have hf2 := upd_same (H := HD) (a := f) (o := .lst (cutV zs none (some 2)))
      have l2 : (cutV zs none (some 2)).length ≤ 2 := by
        unfold cutV
        rw [HT.sIx_none, show (some 2 : Option Int) = some ((2 : Nat) : Int) from rfl, HT.sIx_nat, List.length_take]
        omega
      refine ⟨L, f, _, _, rfl, rfl, s2 _ _ hL, hf2, line5 (by omega), fun f3 hf3 => ?_⟩
      have g3 := tb1.g.trans (Go.same tb1.g.1 s2)
      refine ⟨f3, rfl, g3.trans (Go.new g3.1 hf3), g3.free d hf3, _, upd_same, fun y hy => ?_, by rw [List.length_append]; omega, by rw [List.length_append]; omega⟩
      have hy2 : ∃ p, PrA (upd HD f (.lst (cutV zs none (some 2)))) y p := by
        rcases List.mem_append.mp hy with h | h
        · exact (aL.same s2) y h
        · exact (aL.same s2) y (cutV_mem h)
      exact hy2.imp fun _ => PrA.same (same_new hf3)
    clear tb1
    rintro σ' HE ⟨L, rfl, tb1⟩
    refine ⟨fun σ' H' => σ' = [some (.ref D), some (.ref pc), some (.ref pw), some (.int C.length), some (.int W.rows.length), some (.ref pd), some (.ref ls), some (.ref L), y8, y9, some (.int way)] ∧ Tb S D H H' L 0 1002, ?_, ?_⟩
    · refine ⟨_, rfl, rfl, _, rfl, ite2 (fun _ => ?_) (fun _ => ⟨rfl, tb1.up (Nat.le_refl _) (Nat.zero_le _)⟩)⟩
      obtain ⟨zs, hL, aL, lL1, lL2⟩ := tb1.l
      refine ⟨_, rfl, .inl ⟨rfl, _, SqL.of hL⟩, _, rfl, _, rfl, _, _, rfl, .inl ⟨_, SqL.of hL, rfl⟩, S, D, _, rfl, divW_of (by omega) (by omega), tb1.g.1, fun H2 v v0 v1 g3 => ?_⟩
      have tb2 := tb1.go d g3
      have hL2 := g3.2 _ _ hL (d.free tb1.n).1
      have aL2 := aL.go tb1.g.1 g3
      have hv : v.toNat < zs.length := by omega
      refine ⟨L, zs, v, v.toNat, _, rfl, rfl, hL2, by omega, by omega, seqIndex_of v0 (by omega), List.getElem?_eq_getElem hv, rfl, goU tb1.n d tb2.g, tb1.n, _, upd_same, ?_, Nat.zero_le _, by rw [List.length_eraseIdx_of_lt hv]; omega⟩
      refine AllP.nt (nt_lst _) hL2 fun y hy => aL2 y (List.mem_of_mem_eraseIdx hy)
    clear tb1
    rintro σ' HF ⟨rfl, tb1⟩
    refine ⟨fun σ' H' => σ' = [some (.ref D), some (.ref pc), some (.ref pw), some (.int C.length), some (.int W.rows.length), some (.ref pd), some (.ref ls), some (.ref L), y8, y9, some (.int way)] ∧ Tb S D H H' L 0 1003, ?_, ?_⟩
    · refine ⟨_, rfl, rfl, _, rfl, ite2 (fun _ => ?_) (fun _ => ⟨rfl, tb1.up (by decide) (Nat.le_refl _)⟩)⟩
      obtain ⟨zs0, hL0, _⟩ := tb1.l
      refine ⟨_, rfl, .inl ⟨rfl, _, SqL.of hL0⟩, _, rfl, _, rfl, _, rfl, _, rfl, _, rfl, by show 4 ≤ sizeLine; decide, fun lq hq => ?_⟩
      have lqD := (tb1.g.1.free hq).1
      have e0' := upd_same (H := HF) (a := lq) (o := .lst [.int (-1), .int C.length, .int (-C.length), .int 1000000])
      have tb2 := tb1.go d (Go.new (o := .lst [.int (-1), .int C.length, .int (-C.length), .int 1000000]) tb1.g.1 hq)
      refine ⟨S, D, .ref lq, [.int (-1), .int C.length, .int (-C.length), .int 1000000], rfl, tb2.g.1, fun H' g => .inr (.inl ⟨lq, rfl, SqL.of (g.2 _ _ e0' lqD)⟩), by show 0 < 4; decide, by show 4 ≤ 100000; decide, fun HA x hx gA => ?_⟩
      obtain ⟨z, rfl⟩ : ∃ z, x = V.int z := four hx
      have tb3 := tb2.go d gA
      refine ⟨_, rfl, _, rfl, S, D, _, rfl, divW_of (by omega) (by omega), tb3.g.1, fun H2 v v0 v1 g3 => ⟨z2, fun pt hpt => ?_⟩⟩
      obtain ⟨zs, hL, lL, tb4⟩ := (tb3.go d g3).put d hpt z v
      exact ⟨L, zs, _, rfl, rfl, hL, line6 (by omega), rfl, tb4⟩
    clear tb1
    rintro σ' HG ⟨rfl, tb1⟩
    refine ⟨fun σ' H' => σ' = [some (.ref D), some (.ref pc), some (.ref pw), some (.int C.length), some (.int W.rows.length), some (.ref pd), some (.ref ls), some (.ref L), y8, y9, some (.int way)] ∧ Tb S D H H' L 0 1004, ?_, ?_⟩
    · refine ⟨_, rfl, rfl, _, rfl, ite2 (fun _ => ?_) (fun _ => ⟨rfl, tb1.up (by decide) (Nat.le_refl _)⟩)⟩
      obtain ⟨zs0, hL0, _⟩ := tb1.l
      refine ⟨_, rfl, .inl ⟨rfl, _, SqL.of hL0⟩, _, rfl, _, rfl, S, D, _, rfl, divW_of (by omega) (by omega), tb1.g.1, fun H2 v v0 v1 g3 => ?_⟩
      have tb9 := tb1.go d g3
      refine ⟨_, rfl, _, rfl, _, rfl, _, rfl, _, rfl, _, rfl, by show 4 ≤ sizeLine; decide, fun lq hq => ?_⟩
      have lqD := (tb9.g.1.free hq).1
      have e0' := upd_same (H := H2) (a := lq) (o := .lst [.int (-1), .int W.rows.length, .int (-W.rows.length), .int (-1000000)])
      have tb2 := tb9.go d (Go.new (o := .lst [.int (-1), .int W.rows.length, .int (-W.rows.length), .int (-1000000)]) tb9.g.1 hq)
      refine ⟨S, D, .ref lq, [.int (-1), .int W.rows.length, .int (-W.rows.length), .int (-1000000)], rfl, tb2.g.1, fun H' g => .inr (.inl ⟨lq, rfl, SqL.of (g.2 _ _ e0' lqD)⟩), by show 0 < 4; decide, by show 4 ≤ 100000; decide, fun HA x hx gA => ?_⟩
      obtain ⟨z, rfl⟩ : ∃ z, x = V.int z := four hx
      refine ⟨z2, fun pt hpt => ?_⟩
      obtain ⟨zs, hL, lL, tb4⟩ := (tb2.go d gA).put d hpt v z
      exact ⟨L, zs, _, rfl, rfl, hL, line6 (by omega), rfl, tb4⟩
    clear tb1
    rintro σ' HI ⟨rfl, tb1⟩
    refine ⟨fun σ' H' => σ' = [some (.ref D), some (.ref pc), some (.ref pw), some (.int C.length), some (.int W.rows.length), some (.ref pd), some (.ref ls), some (.ref L), y8, y9, some (.int way)] ∧ Tb S D H H' L 0 1005, ?_, ?_⟩
    · refine ⟨_, rfl, rfl, _, rfl, ite2 (fun _ => ?_) (fun _ => ⟨rfl, tb1.up (by decide) (Nat.le_refl _)⟩)⟩
      obtain ⟨zs0, hL0, _⟩ := tb1.l
      refine ⟨_, rfl, .inl ⟨rfl, _, SqL.of hL0⟩, _, rfl, _, rfl, S, D, _, rfl, divW_of (by omega) (by omega), tb1.g.1, fun H2 v v0 v1 g3 => ?_⟩
      have tb3 := tb1.go d g3
      refine ⟨_, rfl, _, rfl, S, D, _, rfl, divW_of (by omega) (by omega), tb3.g.1, fun H3 z z0 z1' g4 => ⟨z2, fun pt hpt => ?_⟩⟩
      obtain ⟨zs, hL, lL, tb4⟩ := (tb3.go d g4).put d hpt v z
      exact ⟨L, zs, _, rfl, rfl, hL, line6 (by omega), rfl, tb4⟩
    clear tb1
    rintro σ' HJ ⟨rfl, tb1⟩
    refine ⟨fun σ' H' => ∃ (L : Addr), σ' = [some (.ref D), some (.ref pc), some (.ref pw), some (.int C.length), some (.int W.rows.length), some (.ref pd), some (.ref ls), some (.ref L), y8, y9, some (.int way)] ∧ Tb S D H H' L 0 1005, ?_, ?_⟩
    · refine ⟨_, rfl, rfl, _, rfl, ite2 (fun _ => ?_) (fun _ => ⟨L, rfl, tb1⟩)⟩
      obtain ⟨zs, hL, aL, lL1, lL2⟩ := tb1.l
      refine ⟨_, rfl, _, rfl, _, rfl, _, _, rfl, .inl ⟨_, SqL.of hL, rfl⟩, _, _, rfl, rfl, S, D, _, rfl, divW_of (by omega) (by omega), tb1.g.1, fun H2 v v0 v1 g3 => ?_⟩
      have tb2 := tb1.go d g3
      have hL2 := g3.2 _ _ hL (d.free tb1.n).1
      have aL2 := aL.go tb1.g.1 g3
      refine ⟨_, rfl, L, zs, rfl, SqL.of hL2, fun f hf => ⟨f, rfl, tb2.g.trans (Go.new tb2.g.1 hf), tb2.g.free d hf, _, upd_same, ?_, Nat.zero_le _, ?_⟩⟩
      · exact AllP.same (same_new hf) fun y hy => aL2 y (cutV_mem hy)
      · have := cutV_len zs none (some v)
        omega
    clear tb1
    rintro σ' HM ⟨L, rfl, tb1⟩
    obtain ⟨zs, hL, aL, lL1, lL2⟩ := tb1.l
    refine ⟨_, rfl, L, zs, rfl, .inl ⟨SqL.of hL, fun pf hpf => ?_⟩⟩
    obtain ⟨qs2, hqs⟩ := (AllP.same (same_new (o := .tup zs) hpf) aL).prs
    have := hqs.len
    exact q _ pf zs qs2 (tb1.g.trans (Go.new tb1.g.1 hpf)) upd_same hqs (by omega)
end
end Mt
namespace Mt
open PySem PySem.Spec PyProof.Rows L2
theorem dpA_take {K : PySem.W.Frag} {H : Hp} : ∀ {ds : List PyData} {xs : List V} (i : Nat), DpAll K H xs ds → DpAll K H (xs.take i) (ds.take i)
  | _, _, 0, _ => by
    rw [List.take_zero, List.take_zero]
    exact .nil
  | _, _, _ + 1, .nil => .nil
  | _, _, i + 1, .cons a h => .cons a (dpA_take i h)
theorem dpA_drop {K : PySem.W.Frag} {H : Hp} : ∀ {ds : List PyData} {xs : List V} (i : Nat), DpAll K H xs ds → DpAll K H (xs.drop i) (ds.drop i)
  | _, _, 0, h => h
  | _, _, _ + 1, .nil => .nil
  | _, _, i + 1, .cons _ h => dpA_drop i h
theorem dpA_set {K : PySem.W.Frag} {H : Hp} {x : V} {e : PyData} (hx : Dp K H x e) : ∀ {ds : List PyData} {xs : List V} (i : Nat), DpAll K H xs ds → DpAll K H (xs.set i x) (ds.set i e)
  | _, _, _, .nil => .nil
  | _, _, 0, .cons _ h => .cons hx h
  | _, _, i + 1, .cons a h => .cons a (dpA_set hx i h)
theorem cut_to {xs : List V} {k : Nat} : cutV xs none (some (k : Int)) = xs.take k := by
  unfold cutV
  rw [HT.sIx_none, HT.sIx_nat]
  by_cases e : k ≤ xs.length
  · rw [Nat.min_eq_left e]
    rfl
  · rw [Nat.min_eq_right (by omega)]
    show (xs.drop 0).take (xs.length - 0) = _
    rw [List.drop_zero, List.take_of_length_le (by omega), List.take_of_length_le (by omega)]
theorem cut_fro {xs : List V} {k : Nat} : cutV xs (some (k : Int)) none = xs.drop k := by
  unfold cutV
  rw [HT.sIx_none, HT.sIx_nat]
  by_cases e : k ≤ xs.length
  · rw [Nat.min_eq_left e]
    exact List.take_of_length_le (by rw [List.length_drop]; exact Nat.le_refl _)
  · rw [Nat.min_eq_right (by omega), List.drop_of_length_le (Nat.le_refl _), List.drop_of_length_le (by omega), List.take_nil]
theorem cut_fr1 {xs : List V} {k : Nat} : cutV xs (some ((k : Int) + 1)) none = xs.drop (k + 1) := by
  rw [show (k : Int) + 1 = ((k + 1 : Nat) : Int) by omega]
  exact cut_fro
theorem cut_ints (l : List Int) (lo hi : Option Int) : ∃ l' : List Int, cutV (l.map V.int) lo hi = l'.map V.int ∧ l'.length ≤ l.length := by
  unfold cutV
  rw [← List.map_drop, ← List.map_take]
  exact ⟨_, rfl, by rw [List.length_take, List.length_drop]; omega⟩
/-- blocks stand in the list at L -/
structure Bk (K : PySem.W.Frag) (S D : Addr) (H H' : Hp) (L : Addr) (N M : Nat) : Prop where
  g : Go S D H H'
  n : H L = none
  l : ∃ (zs : List V) (bl : List (List Int)), H' L = some (.lst zs) ∧ DpAll K H' zs (bl.map dI) ∧ bl.length ≤ N ∧ ∀ b ∈ bl, b.length ≤ M
theorem noLs_bl (bl : List (List Int)) : noLs (bl.map dI) = true := noLs_I bl
section
variable {K : PySem.W.Frag} {S D : Addr} {H H1 H2 : Hp} {L : Addr} {N N' M M' : Nat}
theorem Bk.go (d : DrawAt S D H) (t : Bk K S D H H1 L N M) (g : Go S D H1 H2) : Bk K S D H H2 L N M := by
  obtain ⟨zs, bl, h1, h2, h3, h4⟩ := t.l
  exact ⟨t.g.trans g, t.n, zs, bl, g.2 _ _ h1 (d.free t.n).1, dpA_keep (Go.keepT t.g.1 g) _ _ (noLs_bl bl) h2, h3, h4⟩
theorem Bk.up (t : Bk K S D H H1 L N M) (h : N ≤ N') (k : M ≤ M') : Bk K S D H H1 L N' M' := by
  obtain ⟨zs, bl, h1, h2, h3, h4⟩ := t.l
  exact ⟨t.g, t.n, zs, bl, h1, h2, by omega, fun b hb => Nat.le_trans (h4 b hb) k⟩
/-- another list in its stead -/
theorem Bk.put {zs us : List V} {bl : List (List Int)} (d : DrawAt S D H) (t : Bk K S D H H1 L N M) (h : H1 L = some (.lst zs)) (hu : DpAll K H1 us (bl.map dI)) (l : bl.length ≤ N') (f : ∀ b ∈ bl, b.length ≤ M') : Bk K S D H (upd H1 L (.lst us)) L N' M' :=
  ⟨goU t.n d t.g, t.n, us, bl, upd_same, dpA_keep (keepT_nt (nt_lst _) h) _ _ (noLs_bl bl) hu, l, f⟩
theorem Bk.new {us : List V} {bl : List (List Int)} (d : DrawAt S D H) (g : Go S D H H1) (h : H1 L = none) (hu : DpAll K H1 us (bl.map dI)) (l : bl.length ≤ N) (f : ∀ b ∈ bl, b.length ≤ M) : Bk K S D H (upd H1 L (.lst us)) L N M :=
  ⟨g.trans (Go.new g.1 h), g.free d h, us, bl, upd_same, dpA_same (same_new h) _ _ hu, l, f⟩
end
def spBlocksD (K : PySem.W.Frag) : Sp := fun vs H Q _ => ∃ (S D : Addr) (vc : V) (base : Int) (C : Chn), vs = [.ref D, vc] ∧ DrawAt S D H ∧ Dp K H vc (dChn base C) ∧ ChnOk base C ∧
  ∀ (H' : Hp) (v : V) (bl : List (List Int)), Go S D H H' → Dp K H' v (.tuple (bl.map dI)) → bl.length ≤ 1000 → Q v H'
section
variable {P : Program} {w : World} {K : PySem.W.Frag} {mg : Str → Option Value} {base : Heap}
theorem ok__law_blocks (T : Txt K mg) (D__law_draw : Kept P w K mg base 1 "_law_draw" ["d", "many"] spDraw) (D__law_pick : Kept P w K mg base 2 "_law_pick" ["d", "row"] (spPick K)) (D__law_rare : Kept P w K mg base 2 "_law_rare" ["d", "many"] spRare) {f : Addr} {fd : FuncData} (F : FnP K "_law_blocks" s__law_blocks f fd) : FnOk P w K mg base CX0 3 f fd ["d", "chain"] (spBlocksD K) := by
  refine F.ok sc__law_blocks (fun vs H Q E h => ?_) (fun cdv A outer s H vs Q E hr h => ?_)
  · obtain ⟨S, D, vc, b, C, rfl, _⟩ := h
    rfl
  · obtain ⟨S, D, vc, b, C, rfl, d, hC, ok, q⟩ := h
    refine ⟨_, PSs.nox (pss_cons (ps_set (i := 2) sc__law_blocks.nd rfl (Or.inl rfl) pe_int)
      (pss_cons (ps_set (i := 3) sc__law_blocks.nd rfl (Or.inl rfl) (pe_lst pa_nil))
      (Evl.pss_cut (ps_for PassesOwn.never rfl (pi_range1 (by rfl) T.b_range (pa_cons (pe_op op_add (pe_d D__law_draw (hr.mono (by decide)) (by rfl) (pa_cons (pv 0) (pa_cons pe_int pa_nil))) (pe_op op_mul pe_int (pe_callTy call_int1 (by rfl) T.b_int (by decide +kernel) (pa_cons (pe_d D__law_rare (hr.mono (by decide)) (by rfl) (pa_cons (pv 0) (pa_cons pe_int pa_nil))) pa_nil)))) pa_nil)) (pg_name (i := 4) sc__law_blocks.nd rfl (Or.inl rfl)) (pss_cons (ps_asg (pe_d D__law_pick (hr.mono (by decide)) (by rfl) (pa_cons (pv 0) (pa_cons (pe_ix ix_tup (pe_ix ix_tup (pv 1) pe_int (fun _ _ => rfl)) (pv 2) (fun _ _ => rfl)) pa_nil))) (pg_tup rfl (pgs_cons (pg_name (i := 5) sc__law_blocks.nd rfl (Or.inl rfl)) (pgs_cons (pg_name (i := 6) sc__law_blocks.nd rfl (Or.inl rfl)) (pgs_cons (pg_name (i := 2) sc__law_blocks.nd rfl (Or.inl rfl)) pgs_nil)))))
      (pss_one (ps_expr (pe_bm PySem.F.plainAttrs_list PySem.F.slot_list_append PySem.F.type_list_append mt_append (pv 3) (pa_cons (pv 5) pa_nil))))))
      (pss_cons (ps_set (i := 7) sc__law_blocks.nd rfl (Or.inl rfl) (pe_d D__law_draw (hr.mono (by decide)) (by rfl) (pa_cons (pv 0) (pa_cons pe_int pa_nil))))
      (pss_cons (ps_set (i := 8) sc__law_blocks.nd rfl (Or.inl rfl) (pe_d D__law_draw (hr.mono (by decide)) (by rfl) (pa_cons (pv 0) (pa_cons (pe_op op_add (pe_callB call_len (by rfl) T.b_len (by decide +kernel) (pa_cons (pv 3) pa_nil)) pe_int) pa_nil))))
      (pss_cons (ps_set (i := 9) sc__law_blocks.nd rfl (Or.inl rfl) (pe_callTy call_tuple_of (by rfl) T.b_tuple (by decide +kernel) (pa_cons (pe_lc (own := [("step", 4)]) (g := (gName 4)) (tt := tYes) rfl sc__law_blocks.nd (pi_range1 (by rfl) T.b_range (pa_cons (pe_d D__law_draw (hr.mono (by decide)) (by rfl) (pa_cons (pv 0) (pa_cons pe_int pa_nil))) pa_nil)) (blkOk_by (N := N__law_blocks) (sc := defScope s__law_blocks) (by decide +kernel)) (fun _ _ _ _ _ => (pg_name (i := 4) sc__law_blocks.nd rfl (Or.inl rfl))) (fun _ _ _ _ _ => pts_nil) (fun _ _ _ _ _ => (pe_d D__law_draw (hr.mono (by decide)) (by rfl) (pa_cons (pv 0) (pa_cons (pe_op op_add (pe_ix (ixT (K := K) rfl) (pv 1) pe_int (fun _ _ => rfl)) pe_int) pa_nil))))) pa_nil)))
      (Evl.pss_cut (ps_if (pt_cmpR op_eq (pv 7) pe_int (nomark _)) (pss_one (ps_set (i := 3) sc__law_blocks.nd rfl (Or.inl rfl) (pe_op op_cat (pe_op op_cat (pe_slice sl_list (pv 3) po_none (po_some (pv 8))) (pe_lst (pa_cons (pv 9) pa_nil))) (pe_slice sl_list (pv 3) (po_some (pe_op op_add (pv 8) pe_int)) po_none)))) pss_nil)
      (Evl.pss_cut (ps_if (pt_cmpR op_eq (pv 7) pe_int (nomark _)) (pss_one (ps_set (i := 3) sc__law_blocks.nd rfl (Or.inl rfl) (pe_op op_cat (pe_slice sl_list (pv 3) po_none (po_some (pv 8))) (pe_slice sl_list (pv 3) (po_some (pe_op op_add (pv 8) pe_int)) po_none)))) pss_nil)
      (Evl.pss_cut (ps_if (pt_cmpR op_eq (pv 7) pe_int (nomark _)) (pss_one (ps_set (i := 3) sc__law_blocks.nd rfl (Or.inl rfl) (pe_op op_cat (pe_op op_cat (pe_slice sl_list (pv 3) po_none (po_some (pv 8))) (pe_lst (pa_cons (pv 9) pa_nil))) (pe_slice sl_list (pv 3) (po_some (pv 8)) po_none)))) pss_nil)
      (Evl.pss_cut (ps_if (PW.pt (pw_and (pt_cmpR op_eq (pv 7) pe_int (nomark _)) (pw_and1 (pt_cmpR op_lt (pv 8) (pe_callB call_len (by rfl) T.b_len (by decide +kernel) (pa_cons (pv 3) pa_nil)) (nomark _))))) (pss_one (ps_asg (pe_op op_catA (pe_ix ix_list (pv 3) (pv 8) (fun _ _ => rfl)) (pe_tup (pa_cons (pe_d D__law_draw (hr.mono (by decide)) (by rfl) (pa_cons (pv 0) (pa_cons (pe_ix (ixT (K := K) rfl) (pv 1) pe_int (fun _ _ => rfl)) pa_nil))) pa_nil))) (pg_sub (pv 3) (pv 8) set_list))) pss_nil)
      (Evl.pss_cut (ps_if (PW.pt (pw_and (pt_cmpR op_eq (pv 7) pe_int (nomark _)) (pw_and1 (pt_cmpR op_lt (pv 8) (pe_callB call_len (by rfl) T.b_len (by decide +kernel) (pa_cons (pv 3) pa_nil)) (nomark _))))) (pss_one (ps_asg (pe_slice sl_tupA (pe_ix ix_list (pv 3) (pv 8) (fun _ _ => rfl)) po_none (po_some (pe_un un_neg pe_int))) (pg_sub (pv 3) (pv 8) set_list))) pss_nil)
      (Evl.pss_cut (ps_if (pt_cmpR op_eq (pv 7) pe_int (nomark _)) (pss_one (ps_expr (pe_bm PySem.F.plainAttrs_list PySem.F.slot_list_append PySem.F.type_list_append mt_append (pv 3) (pa_cons (pe_tup (pa_cons (pe_d D__law_pick (hr.mono (by decide)) (by rfl) (pa_cons (pv 0) (pa_cons (pe_lst (pa_cons (pe_un un_neg pe_int) (pa_cons (pe_ix (ixT (K := K) rfl) (pv 1) pe_int (fun _ _ => rfl)) (pa_cons pe_int pa_nil)))) pa_nil))) pa_nil)) pa_nil)))) pss_nil)
      (pss_one (ps_ret (pe_callTy call_tuple_of (by rfl) T.b_tuple (by decide +kernel) (pa_cons (pv 3) pa_nil)))))))))))))))), ?_⟩
    have c0 := ok.pos
    have c1 := ok.few
    have b2 := ok.b2
    have b6 := ok.b6
    refine ⟨Nat.zero_le _, fun L hL => ?_⟩
    have bk0 : Bk K S D H (upd H L (.lst [])) L 0 3 := Bk.new (bl := []) d ⟨d, fun _ _ h _ => h⟩ hL .nil (Nat.le_refl _) (fun _ h => absurd h List.not_mem_nil)
    obtain ⟨pc, pq, ys, rfl, hpc, hpq, hA⟩ := chn_at (id hC)
    have yl := dpA_len hA
    rw [List.length_map] at yl
    refine ⟨fun σ' H' => ∃ (st : Nat) (y4 y5 y6 : Option V), σ' = [some (.ref D), some (.ref pc), some (.int (st : Int)), some (.ref L), y4, y5, y6, none, none, none] ∧ st < C.length ∧ Bk K S D H H' L 68 3, ?_, ?_⟩
    · refine ⟨_, rfl, S, D, 9, rfl, divW_of (by decide) (by decide), bk0.g.1, fun H1 v v0 v1 g1 => ?_⟩
      refine ⟨_, rfl, S, D, 17, rfl, by decide, by decide, g1.1, fun H2 k g2 => .inr ⟨_, rfl, ?_⟩⟩
      refine ⟨_, _, rfl, rfl, .inl ⟨by decide, by decide⟩, _, _, rfl, rfl, ?_⟩
      obtain ⟨m, em, m68⟩ : ∃ m : Nat, v + 60 * (if k then 1 else 0) = (m : Int) ∧ m ≤ 68 := by
        cases k
        · exact ⟨v.toNat, by show v + 60 * 0 = _; omega, by omega⟩
        · exact ⟨(v + 60).toNat, by show v + 60 * 1 = _; omega, by omega⟩
      have bk1 := (bk0.go d g1).go d g2
      refine ⟨(m : Int), (by show [V.int (v + 60 * (if k then 1 else 0))] = _; rw [em]), by omega, by omega, for_range (lo := 0) (n := m) (fun i σ H' => ∃ (st : Nat) (y4 y5 y6 : Option V), σ = [some (.ref D), some (.ref pc), some (.int (st : Int)), some (.ref L), y4, y5, y6, none, none, none] ∧ st < C.length ∧ Bk K S D H H' L i 3) ⟨0, _, _, _, rfl, c0, bk1⟩ ?_ ?_⟩
      · rintro i σ H3 hi ⟨st, y4, y5, y6, rfl, sl, bk⟩
        have k3 := Go.keepT d bk.g
        have hpc3 := sqt_keep k3 hpc
        have hpq3 := sqt_keep k3 hpq
        have hA3 := dpA_keep k3 _ _ (noLs_rw C) hA
        obtain ⟨xr, hxr, dr⟩ := dpA_get hA3 (rowOf_at sl)
        obtain ⟨pr, us, rfl, hpr, hus⟩ := dp_tup dr
        have rk := ok.row (rowOf C st) (List.mem_of_getElem? (rowOf_at sl))
        have rl := dpA_len hus
        rw [List.length_map] at rl
        have r0 := rk.ne
        have r1 := rk.few
        refine ⟨_, rfl, _, rfl, pc, _, _, _, rfl, rfl, hpc3, atI_nat (j := 2) rfl, _, rfl, pq, ys, _, _, rfl, rfl, hpq3, atI_nat hxr, ?_⟩
        refine ⟨S, D, .ref pr, us, rfl, bk.g.1, fun H' g => .inr (.inr ⟨pr, rfl, sqt_keep (Go.keepT bk.g.1 g) hpr⟩), by omega, by omega, fun H4 x hx g4 => ?_⟩
        have bk4 := bk.go d g4
        obtain ⟨j, hj⟩ := List.mem_iff_getElem?.mp hx
        obtain ⟨br, hbr, hy⟩ := dpA_mem hus hj
        have hy4 := dp_keep (Go.keepT bk.g.1 g4) _ _ (dBr_noL br) hy
        obtain ⟨pb, x0, x1, rfl, hpb, hd0', hx1⟩ := br_at hy4
        have brm := List.mem_of_getElem? hbr
        obtain ⟨t1, t2⟩ := rk.to br brm
        have t3 := rk.cm.short br.1 (List.mem_map_of_mem brm)
        refine ⟨pb, _, rfl, hpb, rfl, _, _, rfl, _, _, rfl, _, _, rfl, rfl, ?_⟩
        obtain ⟨zs, bl, hL4, hz, l1, f1⟩ := bk4.l
        have zl := dpA_len hz
        rw [List.length_map] at zl
        refine ⟨_, rfl, .inl ⟨rfl, _, SqL.of hL4⟩, _, rfl, L, zs, _, rfl, rfl, hL4, line6 (by omega), ?_⟩
        refine ⟨br.2.2, _, _, _, rfl, t1, bk4.put (bl := bl ++ [br.1]) d hL4 ?_ (by rw [List.length_append]; show _ + 1 ≤ _; omega) (fun c hc => ?_)⟩
        · rw [List.map_append]
          exact dpA_snoc hz hd0'
        · rcases List.mem_append.mp hc with h | h
          · exact f1 c h
          · rw [List.mem_singleton.mp h]
            exact t3
      · rintro σ H3 ⟨st, y4, y5, y6, rfl, sl, bk⟩
        exact ⟨st, y4, y5, y6, rfl, sl, bk.up m68 (Nat.le_refl _)⟩
    clear bk0
    rintro σ' H1 ⟨st, y4, y5, y6, rfl, sl, bk0⟩
    refine ⟨_, rfl, S, D, 11, rfl, divW_of (by decide) (by decide), bk0.g.1, fun H2 way u0 u1 g2 => ?_⟩
    have bk1 := bk0.go d g2
    clear bk0 g2
    obtain ⟨zs, bl, hL2, hz2, l1, f1⟩ := bk1.l
    have zl := dpA_len hz2
    rw [List.length_map] at zl
    refine ⟨_, rfl, _, rfl, _, _, rfl, .inl ⟨_, SqL.of hL2, rfl⟩, _, _, rfl, rfl, S, D, _, rfl, divW_of (by omega) (by omega), bk1.g.1, fun H3 k k0 k1 g3 => ?_⟩
    obtain ⟨kn, rfl⟩ := Int.eq_ofNat_of_zero_le k0
    have bk2 := bk1.go d g3
    clear bk1 hL2 hz2 l1 f1
    refine ⟨_, rfl, S, D, 4, rfl, divW_of (by decide) (by decide), bk2.g.1, fun H4 n4 n40 n41 g4 => ?_⟩
    have bk3 := bk2.go d g4
    clear bk2
    refine ⟨_, rfl, by omega, by omega, fun M hM => lc_range (lo := 0) (n := n4.toNat) (fun j H' => ∃ ws : List Int, Go S D H4 H' ∧ H' M = some (.lst (ws.map V.int)) ∧ ws.length = j) ⟨[], Go.new bk3.g.1 hM, upd_same, rfl⟩ ?_ ?_⟩
    · rintro j H5 hj ⟨ws, g5, hM5, wl⟩
      have gg := bk3.g.trans g5
      refine ⟨rfl, _, rfl, _, rfl, pc, _, _, _, rfl, rfl, sqt_keep (Go.keepT d gg) hpc, atI_nat (j := 1) rfl, _, _, rfl, rfl, S, D, _, rfl, divW_of (by omega) (by omega), g5.1, fun H6 x x0 x1 g6 => ?_⟩
      have MD := (bk3.g.1.free hM).1
      refine ⟨_, g6.2 _ _ hM5 MD, by rw [List.length_map]; exact line6 (by omega), ws ++ [x], ?_, ?_, ?_⟩
      · exact goU hM bk3.g.1 (g5.trans g6)
      · rw [upd_same, List.map_append]
        rfl
      · rw [List.length_append, wl]
        rfl
    · rintro H5 ⟨ws, g5, hM5, wl⟩
      refine ⟨M, _, rfl, .inl ⟨SqL.of hM5, fun pw hpw => ?_⟩⟩
      have g6 := g5.trans (Go.new (o := .tup (ws.map V.int)) g5.1 hpw)
      have bk4 := bk3.go d g6
      have hw4 : Dp K (upd H5 pw (.tup (ws.map V.int))) (.ref pw) (dI ws) := i_of (SqT.of upd_same)
      have wl4 : ws.length ≤ 3 := by omega
      generalize upd H5 pw (.tup (ws.map V.int)) = H6 at g6 bk4 hw4
      refine ⟨fun σ' H' => ∃ (L : Addr), σ' = [some (.ref D), some (.ref pc), some (.int (st : Int)), some (.ref L), y4, y5, y6, some (.int way), some (.int (kn : Int)), some (.ref pw)] ∧ Bk K S D H H' L 69 3 ∧ Dp K H' (.ref pw) (dI ws), ?_, ?_⟩
      · refine ⟨_, rfl, rfl, _, rfl, ite2 (fun _ => ?_) (fun _ => ⟨L, rfl, bk4.up (by decide) (by decide), hw4⟩)⟩
        obtain ⟨zs, bl, hL, hz, l1, f1⟩ := bk4.l
        have zl := dpA_len hz
        rw [List.length_map] at zl
        refine ⟨_, rfl, _, rfl, _, rfl, L, zs, rfl, SqL.of hL, fun p1 h1 => ?_⟩
        rw [cut_to]
        have s1 := same_new (o := .lst (zs.take kn)) h1
        have e1 := upd_same (a := p1) (o := .lst (zs.take kn)) (H := H6)
        generalize upd H6 p1 (.lst (zs.take kn)) = J1 at *
        refine ⟨_, rfl, z1, fun p2 h2 => ?_⟩
        have s2 := same_new (o := .lst [.ref pw]) h2
        have e2 := upd_same (a := p2) (o := .lst [.ref pw]) (H := J1)
        generalize upd J1 p2 (.lst [.ref pw]) = J2 at *
        refine ⟨p1, p2, _, _, rfl, rfl, s2 _ _ e1, e2, line5 (by rw [List.length_take]; show _ + 1 ≤ _; omega), fun p3 h3 => ?_⟩
        have s3 := same_new (o := .lst (zs.take kn ++ [.ref pw])) h3
        have e3 := upd_same (a := p3) (o := .lst (zs.take kn ++ [.ref pw])) (H := J2)
        generalize upd J2 p3 (.lst (zs.take kn ++ [.ref pw])) = J3 at *
        have s13 := s1.trans (s2.trans s3)
        refine ⟨_, rfl, _, rfl, _, _, rfl, rfl, _, rfl, L, zs, rfl, SqL.of (s13 _ _ hL), fun p4 h4 => ?_⟩
        rw [cut_fr1]
        have s4 := same_new (o := .lst (zs.drop (kn + 1))) h4
        have e4 := upd_same (a := p4) (o := .lst (zs.drop (kn + 1))) (H := J3)
        generalize upd J3 p4 (.lst (zs.drop (kn + 1))) = J4 at *
        refine ⟨p3, p4, _, _, rfl, rfl, s4 _ _ e3, e4, line5 (by simp only [List.length_append, List.length_take, List.length_drop, List.length_cons, List.length_nil]; omega), fun p5 h5 => ?_⟩
        have s14 := s13.trans s4
        have g9 := bk4.g.trans (Go.same bk4.g.1 s14)
        refine ⟨p5, rfl, Bk.new (bl := bl.take kn ++ [ws] ++ bl.drop (kn + 1)) d g9 h5 ?_ (by simp only [List.length_append, List.length_take, List.length_drop, List.length_cons, List.length_nil]; omega) (fun c hc => ?_), dp_same (same_new h5) _ _ (dp_same s14 _ _ hw4)⟩
        · rw [List.map_append, List.map_append, List.map_take, List.map_drop]
          exact dpA_app (dpA_snoc (dpA_take kn (dpA_same s14 _ _ hz)) (dp_same s14 _ _ hw4)) (dpA_drop (kn + 1) (dpA_same s14 _ _ hz))
        · rcases List.mem_append.mp hc with h | h
          · rcases List.mem_append.mp h with h | h
            · exact f1 c (List.mem_of_mem_take h)
            · rw [List.mem_singleton.mp h]
              exact wl4
          · exact f1 c (List.mem_of_mem_drop h)
      clear bk4 hw4
      rintro σ' H7 ⟨L, rfl, bk4, hw4⟩
      refine ⟨fun σ' H' => ∃ (L : Addr), σ' = [some (.ref D), some (.ref pc), some (.int (st : Int)), some (.ref L), y4, y5, y6, some (.int way), some (.int (kn : Int)), some (.ref pw)] ∧ Bk K S D H H' L 69 3 ∧ Dp K H' (.ref pw) (dI ws), ?_, ?_⟩
      · refine ⟨_, rfl, rfl, _, rfl, ite2 (fun _ => ?_) (fun _ => ⟨_, rfl, bk4.up (by decide) (by decide), hw4⟩)⟩
        obtain ⟨zs, bl, hL, hz, l1, f1⟩ := bk4.l
        have zl := dpA_len hz
        rw [List.length_map] at zl
        refine ⟨_, rfl, _, rfl, _, rfl, L, zs, rfl, SqL.of hL, fun p1 h1 => ?_⟩
        rw [cut_to]
        have s1 := same_new (o := .lst (zs.take kn)) h1
        have e1 := upd_same (a := p1) (o := .lst (zs.take kn)) (H := H7)
        generalize upd H7 p1 (.lst (zs.take kn)) = J1 at *
        have s13 := s1
        have e3 := e1
        refine ⟨_, rfl, _, rfl, _, _, rfl, rfl, _, rfl, L, zs, rfl, SqL.of (s13 _ _ hL), fun p4 h4 => ?_⟩
        rw [cut_fr1]
        have s4 := same_new (o := .lst (zs.drop (kn + 1))) h4
        have e4 := upd_same (a := p4) (o := .lst (zs.drop (kn + 1))) (H := J1)
        generalize upd J1 p4 (.lst (zs.drop (kn + 1))) = J4 at *
        refine ⟨p1, p4, _, _, rfl, rfl, s4 _ _ e3, e4, line5 (by simp only [List.length_append, List.length_take, List.length_drop, List.length_cons, List.length_nil]; omega), fun p5 h5 => ?_⟩
        have s14 := s13.trans s4
        have g9 := bk4.g.trans (Go.same bk4.g.1 s14)
        refine ⟨p5, rfl, Bk.new (bl := bl.take kn ++ bl.drop (kn + 1)) d g9 h5 ?_ (by simp only [List.length_append, List.length_take, List.length_drop, List.length_cons, List.length_nil]; omega) (fun c hc => ?_), dp_same (same_new h5) _ _ (dp_same s14 _ _ hw4)⟩
        · rw [List.map_append, List.map_take, List.map_drop]
          exact dpA_app (dpA_take kn (dpA_same s14 _ _ hz)) (dpA_drop (kn + 1) (dpA_same s14 _ _ hz))
        · rcases List.mem_append.mp hc with h | h
          · exact f1 c (List.mem_of_mem_take h)
          · exact f1 c (List.mem_of_mem_drop h)
      clear bk4 hw4
      rintro σ' H8 ⟨L, rfl, bk4, hw4⟩
      refine ⟨fun σ' H' => ∃ (L : Addr), σ' = [some (.ref D), some (.ref pc), some (.int (st : Int)), some (.ref L), y4, y5, y6, some (.int way), some (.int (kn : Int)), some (.ref pw)] ∧ Bk K S D H H' L 70 3 ∧ Dp K H' (.ref pw) (dI ws), ?_, ?_⟩
      · refine ⟨_, rfl, rfl, _, rfl, ite2 (fun _ => ?_) (fun _ => ⟨_, rfl, bk4.up (by decide) (by decide), hw4⟩)⟩
        obtain ⟨zs, bl, hL, hz, l1, f1⟩ := bk4.l
        have zl := dpA_len hz
        rw [List.length_map] at zl
        refine ⟨_, rfl, _, rfl, _, rfl, L, zs, rfl, SqL.of hL, fun p1 h1 => ?_⟩
        rw [cut_to]
        have s1 := same_new (o := .lst (zs.take kn)) h1
        have e1 := upd_same (a := p1) (o := .lst (zs.take kn)) (H := H8)
        generalize upd H8 p1 (.lst (zs.take kn)) = J1 at *
        refine ⟨_, rfl, z1, fun p2 h2 => ?_⟩
        have s2 := same_new (o := .lst [.ref pw]) h2
        have e2 := upd_same (a := p2) (o := .lst [.ref pw]) (H := J1)
        generalize upd J1 p2 (.lst [.ref pw]) = J2 at *
        refine ⟨p1, p2, _, _, rfl, rfl, s2 _ _ e1, e2, line5 (by rw [List.length_take]; show _ + 1 ≤ _; omega), fun p3 h3 => ?_⟩
        have s3 := same_new (o := .lst (zs.take kn ++ [.ref pw])) h3
        have e3 := upd_same (a := p3) (o := .lst (zs.take kn ++ [.ref pw])) (H := J2)
        generalize upd J2 p3 (.lst (zs.take kn ++ [.ref pw])) = J3 at *
        have s13 := s1.trans (s2.trans s3)
        refine ⟨_, rfl, _, rfl, _, rfl, L, zs, rfl, SqL.of (s13 _ _ hL), fun p4 h4 => ?_⟩
        rw [cut_fro]
        have s4 := same_new (o := .lst (zs.drop kn)) h4
        have e4 := upd_same (a := p4) (o := .lst (zs.drop kn)) (H := J3)
        generalize upd J3 p4 (.lst (zs.drop kn)) = J4 at *
        refine ⟨p3, p4, _, _, rfl, rfl, s4 _ _ e3, e4, line5 (by simp only [List.length_append, List.length_take, List.length_drop, List.length_cons, List.length_nil]; omega), fun p5 h5 => ?_⟩
        have s14 := s13.trans s4
        have g9 := bk4.g.trans (Go.same bk4.g.1 s14)
        refine ⟨p5, rfl, Bk.new (bl := bl.take kn ++ [ws] ++ bl.drop kn) d g9 h5 ?_ (by simp only [List.length_append, List.length_take, List.length_drop, List.length_cons, List.length_nil]; omega) (fun c hc => ?_), dp_same (same_new h5) _ _ (dp_same s14 _ _ hw4)⟩
        · rw [List.map_append, List.map_append, List.map_take, List.map_drop]
          exact dpA_app (dpA_snoc (dpA_take kn (dpA_same s14 _ _ hz)) (dp_same s14 _ _ hw4)) (dpA_drop kn (dpA_same s14 _ _ hz))
        · rcases List.mem_append.mp hc with h | h
          · rcases List.mem_append.mp h with h | h
            · exact f1 c (List.mem_of_mem_take h)
            · rw [List.mem_singleton.mp h]
              exact wl4
          · exact f1 c (List.mem_of_mem_drop h)
      clear bk4 hw4
      rintro σ' H9 ⟨L, rfl, bk4, hw4⟩
      clear hw4
      refine ⟨fun σ' H' => σ' = [some (.ref D), some (.ref pc), some (.int (st : Int)), some (.ref L), y4, y5, y6, some (.int way), some (.int (kn : Int)), some (.ref pw)] ∧ Bk K S D H H' L 70 4, ?_, ?_⟩
      · refine ⟨_, rfl, rfl, _, rfl, ite2 (fun _ => ?_) (fun _ => ite2 (fun h => (nomatch (show false = true from h))) (fun _ => ⟨rfl, bk4.up (Nat.le_refl _) (by decide)⟩))⟩
        obtain ⟨zs, bl, hL, hz, l1, f1⟩ := bk4.l
        have zl := dpA_len hz
        rw [List.length_map] at zl
        refine ⟨_, rfl, _, rfl, _, _, rfl, .inl ⟨_, SqL.of hL, rfl⟩, _, _, rfl, rfl, _, rfl, ite2 (fun hk => ?_) (fun _ => ⟨rfl, bk4.up (Nat.le_refl _) (by decide)⟩)⟩
        have hk' : kn < zs.length := by
          have := of_decide_eq_true hk
          omega
        have hkb : bl[kn]? = some (bl[kn]'(by omega)) := List.getElem?_eq_getElem _
        generalize bl[kn]'(by omega) = c at hkb
        have cl := f1 c (List.mem_of_getElem? hkb)
        obtain ⟨x, hx, dx⟩ := dpA_get hz hkb
        refine ⟨_, rfl, _, rfl, L, zs, _, _, rfl, rfl, SqL.of hL, atI_nat hx, _, rfl, _, rfl, pc, _, _, _, rfl, rfl, sqt_keep (Go.keepT d bk4.g) hpc, atI_nat (j := 1) rfl, S, D, _, rfl, divW_of (by omega) (by omega), bk4.g.1, fun HA v v0 v1 gA => ⟨z1, fun pt hpt => ?_⟩⟩
        have gB := gA.trans (Go.new (o := .tup [.int v]) gA.1 hpt)
        have hpt1 : Dp K (upd HA pt (.tup [.int v])) (.ref pt) (dI [v]) := i_of (SqT.of upd_same)
        generalize upd HA pt (.tup [.int v]) = HB at gB hpt1
        have dxB := dp_keep (Go.keepT bk4.g.1 gB) _ _ (dI_noL c) dx
        refine catA_mono (cat_W dxB hpt1 (by rw [List.length_map]; show _ + 1 ≤ _; omega)) fun v9 HC hh => ?_
        obtain ⟨sC, dC⟩ := hh
        rw [← List.map_append] at dC
        have gC := gB.trans (Go.same gB.1 sC)
        have bkC := bk4.go d gC
        have hLC := gC.2 _ _ hL (d.free bk4.n).1
        have hzC := dpA_keep (Go.keepT bk4.g.1 gC) _ _ (noLs_bl bl) hz
        refine ⟨_, rfl, _, rfl, L, zs, _, kn, rfl, rfl, hLC, Evl.ixN_nat hk', rfl, bkC.put (bl := bl.set kn (c ++ [v])) d hLC ?_ (by rw [List.length_set]; exact l1) (fun e he => ?_)⟩
        · rw [List.map_set]
          exact dpA_set dC kn hzC
        · rcases List.mem_or_eq_of_mem_set he with h | h
          · have := f1 e h
            omega
          · rw [h, List.length_append]
            show _ + 1 ≤ _
            omega
      clear bk4
      rintro σ' HA ⟨rfl, bk4⟩
      refine ⟨fun σ' H' => σ' = [some (.ref D), some (.ref pc), some (.int (st : Int)), some (.ref L), y4, y5, y6, some (.int way), some (.int (kn : Int)), some (.ref pw)] ∧ Bk K S D H H' L 70 4, ?_, ?_⟩
      · refine ⟨_, rfl, rfl, _, rfl, ite2 (fun _ => ?_) (fun _ => ite2 (fun h => (nomatch (show false = true from h))) (fun _ => ⟨rfl, bk4⟩))⟩
        obtain ⟨zs, bl, hL, hz, l1, f1⟩ := bk4.l
        have zl := dpA_len hz
        rw [List.length_map] at zl
        refine ⟨_, rfl, _, rfl, _, _, rfl, .inl ⟨_, SqL.of hL, rfl⟩, _, _, rfl, rfl, _, rfl, ite2 (fun hk => ?_) (fun _ => ⟨rfl, bk4⟩)⟩
        have hk' : kn < zs.length := by
          have := of_decide_eq_true hk
          omega
        have hkb : bl[kn]? = some (bl[kn]'(by omega)) := List.getElem?_eq_getElem _
        generalize bl[kn]'(by omega) = c at hkb
        have cl := f1 c (List.mem_of_getElem? hkb)
        obtain ⟨x, hx, dx⟩ := dpA_get hz hkb
        obtain ⟨px, rfl, hpx⟩ := i_at dx
        obtain ⟨c2, ec, l2⟩ := cut_ints c none (some (-1))
        have fin : ∀ (c3 : List Int) (v9 : V) (HC : Hp), c3.length ≤ c.length → Same HA HC → Dp K HC v9 (dI c3) → Bk K S D H (upd HC L (.lst (zs.set kn v9))) L 70 4 := fun c3 v9 HC l3 s d3 => by
          have gC := Go.same bk4.g.1 s
          refine (bk4.go d gC).put (bl := bl.set kn c3) d (s _ _ hL) ?_ (by rw [List.length_set]; exact l1) (fun e he => ?_)
          · rw [List.map_set]
            exact dpA_set d3 kn (dpA_same s _ _ hz)
          · rcases List.mem_or_eq_of_mem_set he with h | h
            · exact f1 e h
            · rw [h]
              omega
        refine ⟨_, rfl, _, rfl, L, zs, _, _, rfl, rfl, SqL.of hL, atI_nat hx, _, rfl, _, rfl, px, _, rfl, hpx, fun _ => ?_, fun _ p hp => ?_⟩
        · exact ⟨_, rfl, _, rfl, L, zs, _, kn, rfl, rfl, hL, Evl.ixN_nat hk', rfl, fin c _ _ (Nat.le_refl _) (Same.refl _) dx⟩
        · rw [ec]
          have sp := same_new (o := .tup (c2.map V.int)) hp
          exact ⟨_, rfl, _, rfl, L, zs, _, kn, rfl, rfl, sp _ _ hL, Evl.ixN_nat hk', rfl, fin c2 _ _ l2 sp (i_of (SqT.of upd_same))⟩
      clear bk4
      rintro σ' HB ⟨rfl, bk4⟩
      refine ⟨fun σ' H' => σ' = [some (.ref D), some (.ref pc), some (.int (st : Int)), some (.ref L), y4, y5, y6, some (.int way), some (.int (kn : Int)), some (.ref pw)] ∧ Bk K S D H H' L 71 4, ?_, ?_⟩
      · refine ⟨_, rfl, rfl, _, rfl, ite2 (fun _ => ?_) (fun _ => ⟨rfl, bk4.up (by decide) (Nat.le_refl _)⟩)⟩
        obtain ⟨zs, bl, hL, hz, l1, f1⟩ := bk4.l
        have zl := dpA_len hz
        rw [List.length_map] at zl
        refine ⟨_, rfl, .inl ⟨rfl, _, SqL.of hL⟩, _, rfl, _, rfl, _, rfl, pc, _, _, _, rfl, rfl, sqt_keep (Go.keepT d bk4.g) hpc, atI_nat (j := 1) rfl, z3, fun lq hq => ?_⟩
        have lqD := (bk4.g.1.free hq).1
        have e0' := upd_same (H := HB) (a := lq) (o := .lst [.int (-1), .int b, .int 1000000])
        have g0 := Go.new (o := .lst [.int (-1), .int b, .int 1000000]) bk4.g.1 hq
        refine ⟨S, D, .ref lq, [.int (-1), .int b, .int 1000000], rfl, g0.1, fun H' g => .inr (.inl ⟨lq, rfl, SqL.of (g.2 _ _ e0' lqD)⟩), by show 0 < 3; decide, by show 3 ≤ 100000; decide, fun HC x hx gC => ⟨z1, fun pt hpt => ?_⟩⟩
        obtain ⟨z, rfl⟩ : ∃ z, x = V.int z := by
          rcases List.mem_cons.mp hx with rfl | hx
          · exact ⟨_, rfl⟩
          rcases List.mem_cons.mp hx with rfl | hx
          · exact ⟨_, rfl⟩
          exact ⟨_, List.mem_singleton.mp hx⟩
        have g1' := (g0.trans gC).trans (Go.new (o := .tup [.int z]) gC.1 hpt)
        have dP : Dp K (upd HC pt (.tup [.int z])) (.ref pt) (dI [z]) := i_of (SqT.of upd_same)
        generalize upd HC pt (.tup [.int z]) = HE at g1' dP
        have hLE := g1'.2 _ _ hL (d.free bk4.n).1
        refine ⟨L, zs, _, rfl, rfl, hLE, line6 (by omega), rfl, (bk4.go d g1').put (bl := bl ++ [[z]]) d hLE ?_ (by rw [List.length_append]; show _ + 1 ≤ _; omega) (fun e he => ?_)⟩
        · rw [List.map_append]
          exact dpA_snoc (dpA_keep (Go.keepT bk4.g.1 g1') _ _ (noLs_bl bl) hz) dP
        · rcases List.mem_append.mp he with h | h
          · exact f1 e h
          · rw [List.mem_singleton.mp h]
            show 1 ≤ 4
            decide
      clear bk4
      rintro σ' HC ⟨rfl, bk4⟩
      obtain ⟨zs, bl, hL, hz, l1, f1⟩ := bk4.l
      refine ⟨_, rfl, L, zs, rfl, .inl ⟨SqL.of hL, fun pf hpf => ?_⟩⟩
      exact q _ (.ref pf) bl (bk4.g.trans (Go.new bk4.g.1 hpf)) (.tup (SqT.of upd_same) (dpA_same (same_new hpf) _ _ hz)) (by omega)
end
end Mt
namespace Mt
open PySem PySem.Spec PyProof.Rows L2
def TbOk (H : Hp) (x : V) : Prop := ∃ (p : Addr) (zs : List V) (ps : List Pr), x = .ref p ∧ H p = some (.tup zs) ∧ PrAs H zs ps ∧ ps.length ≤ 2500
def BlOk (K : PySem.W.Frag) (H : Hp) (x : V) : Prop := ∃ bl : List (List Int), Dp K H x (.tuple (bl.map dI)) ∧ bl.length ≤ 1000
theorem TbOk.nt {H : Hp} {L : Addr} {o o2 : HO} {x : V} (nt : NT o2) (hd : H L = some o2) (h : TbOk H x) : TbOk (upd H L o) x := by
  obtain ⟨p, zs, ps, rfl, hp, a, l⟩ := h
  refine ⟨p, zs, ps, rfl, ?_, a.nt nt hd, l⟩
  rw [upd_ne fun k => ?_]
  · exact hp
  · rw [k, hd] at hp
    exact nt.1 _ (Option.some.inj hp)
theorem TbOk.go {S D : Addr} {H H' : Hp} {x : V} (d : DrawAt S D H) (g : Go S D H H') (h : TbOk H x) : TbOk H' x := by
  obtain ⟨p, zs, ps, rfl, hp, a, l⟩ := h
  refine ⟨p, zs, ps, rfl, g.2 _ _ hp fun k => ?_, a.imp fun _ _ => PrA.go d g, l⟩
  obtain ⟨_, _, _, _, hD⟩ := d.at_
  rw [k, hD] at hp
  cases hp
theorem BlOk.keep {K : PySem.W.Frag} {H H' : Hp} {x : V} (k : KeepT H H') (h : BlOk K H x) : BlOk K H' x := by
  obtain ⟨bl, a, l⟩ := h
  exact ⟨bl, dp_keep k _ _ (noLs_I bl) a, l⟩
section
variable {P : Program} {w : World} {K : PySem.W.Frag} {mg : Str → Option Value} {base : Heap}
theorem ok_law (T : Txt K mg) (D_judge_holds : Kept P w K mg base 2 "judge_holds" ["chain", "watch", "pairs"] (spHolds K)) (D_judge_breaks : Kept P w K mg base 3 "judge_breaks" ["chain", "watch", "blocks"] (spJBreaks K)) (D__law_begin : Kept P w K mg base 1 "_law_begin" ["script"] (spBegin K)) (D__law_draw : Kept P w K mg base 1 "_law_draw" ["d", "many"] spDraw) (D__law_pop : Kept P w K mg base 2 "_law_pop" ["d", "row"] spPop) (D__law_pool : Kept P w K mg base 1 "_law_pool" [] spPool) (D__law_some_watch : Kept P w K mg base 4 "_law_some_watch" ["d", "marks", "most"] (spSWatch K)) (D__law_some_chain : Kept P w K mg base 5 "_law_some_chain" ["d", "marks", "most"] (spSomeC K)) (D__law_spared : Kept P w K mg base 3 "_law_spared" ["d", "chain", "watch"] (spSpared K)) (D__law_is_bool : Kept P w K mg base 1 "_law_is_bool" ["told", "due"] spIsBool) (D__law_closed : Kept P w K mg base 2 "_law_closed" ["chain", "watch", "pairs"] (spHolds K)) (D__law_broken_by : Kept P w K mg base 2 "_law_broken_by" ["chain", "watch", "blocks"] (spJBreaks K)) (D__law_table : Kept P w K mg base 3 "_law_table" ["d", "chain", "watch"] (spTable K)) (D__law_blocks : Kept P w K mg base 3 "_law_blocks" ["d", "chain"] (spBlocksD K)) {f : Addr} {fd : FuncData} (F : FnP K "law" s_law f fd) : FnOk P w K mg base CX0 6 f fd ["script"] (spLaw K) := by
  refine F.ok sc_law (fun vs H Q E h => ?_) (fun cdv A outer s H vs Q E hr h => ?_)
  · obtain ⟨a, ns, rfl, _⟩ := h
    rfl
  · obtain ⟨a, ns, rfl, hS, hl, q⟩ := h
    refine ⟨_, PSs.nox (pss_cons (ps_set (i := 1) sc_law.nd rfl (Or.inr rfl) (pe_d D__law_begin (hr.mono (by decide)) (by rfl) (pa_cons (pv 0) pa_nil)))
      (pss_cons (ps_set (i := 2) sc_law.nd rfl (Or.inr rfl) (pe_d0 D__law_pool (hr.mono (by decide)) (by rfl)))
      (pss_cons (ps_setLc (i := 3) (own := [("k", 4)]) (g := (gName 4)) (tt := tYes) rfl sc_law.nd rfl rfl (sw_true rfl rfl rfl (by decide +kernel)) (pi_range1 (by rfl) T.b_range (pa_cons (pe_op op_add pe_int (pe_d D__law_draw (hr.mono (by decide)) (by rfl) (pa_cons (pv 1) (pa_cons pe_int pa_nil)))) pa_nil)) (blkOk_by (N := N_law) (sc := defScope s_law) (by decide +kernel)) (fun _ _ _ _ _ => (pg_name (i := 4) sc_law.nd rfl (Or.inl rfl))) (fun _ _ _ _ _ => pts_nil) (fun _ _ _ _ _ => (pe_d D__law_pop (hr.mono (by decide)) (by rfl) (pa_cons (pv 1) (pa_cons (pv 2) pa_nil)))))
      (pss_cons (ps_set (i := 5) sc_law.nd rfl (Or.inr rfl) (pe_d D__law_some_chain (hr.mono (by decide)) (by rfl) (pa_cons (pv 1) (pa_cons (pv 3) (pa_cons pe_int pa_nil)))))
      (pss_cons (ps_set (i := 6) sc_law.nd rfl (Or.inr rfl) (pe_d D__law_spared (hr.mono (by decide)) (by rfl) (pa_cons (pv 1) (pa_cons (pv 5) (pa_cons (pe_d D__law_some_watch (hr.mono (by decide)) (by rfl) (pa_cons (pv 1) (pa_cons (pv 3) (pa_cons pe_int pa_nil)))) pa_nil)))))
      (pss_cons (ps_setLc (i := 7) (own := [("k", 4)]) (g := (gName 4)) (tt := tYes) rfl sc_law.nd rfl rfl (sw_true rfl rfl rfl (by decide +kernel)) (pi_range1 (by rfl) T.b_range (pa_cons pe_int pa_nil)) (blkOk_by (N := N_law) (sc := defScope s_law) (by decide +kernel)) (fun _ _ _ _ _ => (pg_name (i := 4) sc_law.nd rfl (Or.inl rfl))) (fun _ _ _ _ _ => pts_nil) (fun _ _ _ _ _ => (pe_d D__law_table (hr.mono (by decide)) (by rfl) (pa_cons (pv 1) (pa_cons (pv 5) (pa_cons (pv 6) pa_nil))))))
      (pss_cons (ps_setLc (i := 8) (own := [("k", 4)]) (g := (gName 4)) (tt := tYes) rfl sc_law.nd rfl rfl (sw_true rfl rfl rfl (by decide +kernel)) (pi_range1 (by rfl) T.b_range (pa_cons pe_int pa_nil)) (blkOk_by (N := N_law) (sc := defScope s_law) (by decide +kernel)) (fun _ _ _ _ _ => (pg_name (i := 4) sc_law.nd rfl (Or.inl rfl))) (fun _ _ _ _ _ => pts_nil) (fun _ _ _ _ _ => (pe_d D__law_blocks (hr.mono (by decide)) (by rfl) (pa_cons (pv 1) (pa_cons (pv 5) pa_nil)))))
      (pss_cons (ps_for PassesOwn.never rfl (pi_range1 (by rfl) T.b_range (pa_cons pe_int pa_nil)) (pg_name (i := 9) sc_law.nd rfl (Or.inl rfl)) (pss_one (ps_for PassesOwn.never rfl (pi_range1 (by rfl) T.b_range (pa_cons pe_int pa_nil)) (pg_name (i := 4) sc_law.nd rfl (Or.inl rfl)) (pss_cons (ps_if (pt_not (pt_val (pe_d D__law_is_bool (hr.mono (by decide)) (by rfl) (pa_cons (pe_d D_judge_holds (hr.mono (by decide)) (by rfl) (pa_cons (pv 5) (pa_cons (pv 6) (pa_cons (pe_ix ix_list (pv 7) (pv 4) (fun _ _ => rfl)) pa_nil)))) (pa_cons (pe_d D__law_closed (hr.mono (by decide)) (by rfl) (pa_cons (pv 5) (pa_cons (pv 6) (pa_cons (pe_ix ix_list (pv 7) (pv 4) (fun _ _ => rfl)) pa_nil)))) pa_nil))))) (pss_one (ps_ret pe_bl)) pss_nil)
      (pss_one (ps_if (pt_not (pt_val (pe_d D__law_is_bool (hr.mono (by decide)) (by rfl) (pa_cons (pe_d D_judge_breaks (hr.mono (by decide)) (by rfl) (pa_cons (pv 5) (pa_cons (pv 6) (pa_cons (pe_ix ix_list (pv 8) (pv 4) (fun _ _ => rfl)) pa_nil)))) (pa_cons (pe_d D__law_broken_by (hr.mono (by decide)) (by rfl) (pa_cons (pv 5) (pa_cons (pv 6) (pa_cons (pe_ix ix_list (pv 8) (pv 4) (fun _ _ => rfl)) pa_nil)))) pa_nil))))) (pss_one (ps_ret pe_bl)) pss_nil))))))
      (pss_one (ps_ret pe_bl)))))))))), ?_⟩
    refine ⟨_, rfl, a, ns, rfl, hS, hl, fun S D H1 s1 D0 d => ?_⟩
    refine ⟨rfl, fun Nm hNm => ?_⟩
    have d2 := d.new (o := .lst (POOL.map V.str)) hNm
    have NmD := (d.free hNm).1
    have NmS := (d.free hNm).2
    have hN2 := upd_same (H := H1) (a := Nm) (o := .lst (POOL.map V.str))
    generalize upd H1 Nm (.lst (POOL.map V.str)) = H2 at d2 hN2
    refine ⟨_, rfl, S, D, 3, rfl, divW_of (by decide) (by decide), d2, fun H3 x x0 x1 g3 => ⟨_, _, rfl, rfl, ?_⟩⟩
    have hN3 := g3.2 _ _ hN2 NmD
    refine ⟨_, rfl, by omega, by omega, fun Lm hLm => lc_range (lo := 0) (n := (2 + x).toNat) (fun j H' => ∃ nms ms : List Str, DrawAt S D H' ∧ H' Nm = some (.lst (nms.map V.str)) ∧ H' Lm = some (.lst (ms.map V.str)) ∧ nms.length + j = 60 ∧ ms.length = j)
      ⟨POOL, [], g3.1.new hLm, same_new hLm _ _ hN3, upd_same, by rw [pool_len], rfl⟩ ?_ ?_⟩
    · rintro j H4 hj ⟨nms, ms, d4, hN4, hM4, hl4, hm4⟩
      have LmD := (g3.1.free hLm).1
      have LmS := (g3.1.free hLm).2
      have LmN : Lm ≠ Nm := (ne_of_none hN3 hLm).symm
      refine ⟨rfl, _, rfl, _, rfl, S, D, Nm, nms.map V.str, rfl, d4, NmD, hN4, by rw [List.length_map]; omega, by rw [List.length_map]; omega, fun H5 jx x g5 hx => ?_⟩
      rw [List.getElem?_map] at hx
      obtain ⟨z, hz, rfl⟩ := Option.map_eq_some_iff.mp hx
      have hjx := (List.getElem?_eq_some_iff.mp hz).1
      rw [list_of_map_erase]
      have hM5 := g5.2 _ _ hM4 LmD
      refine ⟨_, by rw [upd_ne LmN]; exact hM5, by rw [List.length_map]; exact line6 (by omega), nms.eraseIdx jx, ms ++ [z], (g5.1.upd NmD NmS).upd LmD LmS, by rw [upd_ne LmN.symm, upd_same], by rw [upd_same, List.map_append]; rfl, ?_, by rw [List.length_append, List.length_singleton, hm4]⟩
      rw [List.length_eraseIdx_of_lt hjx]
      omega
    · rintro H4 ⟨nms, ms, d4, hN4, hM4, hl4, hm4⟩
      have LmD := (g3.1.free hLm).1
      refine ⟨_, rfl, _, rfl, S, D, Lm, 20, ms, rfl, d4, LmD, hM4, by omega, by omega, by decide, by decide, fun H5 vc b C g5 hC ok => ?_⟩
      have hM5 := g5.2 _ _ hM4 LmD
      refine ⟨_, rfl, _, rfl, _, rfl, _, rfl, S, D, Lm, 4, ms, rfl, g5.1, LmD, hM5, by omega, by omega, by decide, by decide, fun H6 vw0 W0 g6 hW0 okw0 => ?_⟩
      have hC6 := dp_keep (Go.keepT g5.1 g6) _ _ (dChn_noL b C) hC
      refine ⟨S, D, vc, vw0, b, C, W0, rfl, g6.1, hC6, ok, hW0, okw0, fun H7 vw W g7 hW okw => ?_⟩
      have hC7 := dp_keep (Go.keepT g6.1 g7) _ _ (dChn_noL b C) hC6
      refine ⟨_, rfl, by decide, by decide, fun Lt hLt => lc_range (lo := 0) (n := 3) (fun j H' => ∃ zs : List V, Go S D H7 H' ∧ H' Lt = some (.lst zs) ∧ (∀ z ∈ zs, TbOk H' z) ∧ zs.length = j) ⟨[], Go.new g7.1 hLt, upd_same, fun _ h => absurd h List.not_mem_nil, rfl⟩ ?_ ?_⟩
      · rintro j H8 hj ⟨zs, g8, hT8, ok8, zl⟩
        have LtD := (g7.1.free hLt).1
        have k8 := Go.keepT g7.1 g8
        refine ⟨rfl, _, rfl, _, rfl, _, rfl, S, D, vc, vw, b, C, W, rfl, g8.1, dp_keep k8 _ _ (dChn_noL b C) hC7, ok, dp_keep k8 _ _ (dWt_noL W) hW, okw, fun H9 p ys ps g9 hp hps l => ?_⟩
        have hT9 := g9.2 _ _ hT8 LtD
        refine ⟨zs, hT9, line6 (by omega), zs ++ [.ref p], goU hLt g7.1 (g8.trans g9), upd_same, fun z hz => ?_, by rw [List.length_append, zl]; rfl⟩
        refine TbOk.nt (nt_lst _) hT9 ?_
        rcases List.mem_append.mp hz with h | h
        · exact (ok8 z h).go g8.1 g9
        · rw [List.mem_singleton.mp h]
          exact ⟨p, ys, ps, rfl, hp, hps, l⟩
      · rintro H8 ⟨ts, g8, hT8, ok8, tl⟩
        have LtD := (g7.1.free hLt).1
        have k8 := Go.keepT g7.1 g8
        have hC8 := dp_keep k8 _ _ (dChn_noL b C) hC7
        have hW8 := dp_keep k8 _ _ (dWt_noL W) hW
        refine ⟨_, rfl, by decide, by decide, fun Lr hLr => lc_range (lo := 0) (n := 3) (fun j H' => ∃ zs : List V, Go S D H8 H' ∧ H' Lr = some (.lst zs) ∧ (∀ z ∈ zs, BlOk K H' z) ∧ zs.length = j) ⟨[], Go.new g8.1 hLr, upd_same, fun _ h => absurd h List.not_mem_nil, rfl⟩ ?_ ?_⟩
        · rintro j H9 hj ⟨zs, g9, hT9, ok9, zl⟩
          have LrD := (g8.1.free hLr).1
          have k9 := Go.keepT g8.1 g9
          refine ⟨rfl, _, rfl, _, rfl, S, D, vc, b, C, rfl, g9.1, dp_keep k9 _ _ (dChn_noL b C) hC8, ok, fun HA v bl gA hv l => ?_⟩
          have hTA := gA.2 _ _ hT9 LrD
          refine ⟨zs, hTA, line6 (by omega), zs ++ [v], goU hLr g8.1 (g9.trans gA), upd_same, fun z hz => ?_, by rw [List.length_append, zl]; rfl⟩
          refine BlOk.keep (keepT_nt (nt_lst _) hTA) ?_
          rcases List.mem_append.mp hz with h | h
          · exact (ok9 z h).keep (Go.keepT g9.1 gA)
          · rw [List.mem_singleton.mp h]
            exact ⟨bl, hv, l⟩
        · rintro H9 ⟨rs, g9, hR9, ok9, rl⟩
          have LrD := (g8.1.free hLr).1
          have k9 := Go.keepT g8.1 g9
          have hC9 := dp_keep k9 _ _ (dChn_noL b C) hC8
          have hW9 := dp_keep k9 _ _ (dWt_noL W) hW8
          have hT9 := g9.2 _ _ hT8 LtD
          have okT9 := fun z hz => (ok8 z hz).go g8.1 g9
          refine ⟨_, rfl, by decide, by decide, for_range (lo := 0) (n := 2) (fun i σ H' => ∃ (y4 y9 : Option V), σ = [some (.ref a), some (.ref D), some (.ref Nm), some (.ref Lm), y4, some vc, some vw, some (.ref Lt), some (.ref Lr), y9] ∧ Same H9 H') ⟨_, _, rfl, Same.refl _⟩ ?_ ?_⟩
          · rintro i σ HA hi ⟨y4, y9, rfl, sA⟩
            refine ⟨_, rfl, by decide, by decide, for_range (lo := 0) (n := 3) (fun j σ H' => ∃ (y4 : Option V), σ = [some (.ref a), some (.ref D), some (.ref Nm), some (.ref Lm), y4, some vc, some vw, some (.ref Lt), some (.ref Lr), some (.int (0 + (i : Int)))] ∧ Same H9 H') ⟨_, rfl, sA⟩ ?_ ?_⟩
            · rintro j σ HB hj ⟨y4, rfl, sB⟩
              have hTB := sB _ _ hT9
              have hRB := sB _ _ hR9
              have ej : ts[j]? = some (ts[j]'(by omega)) := List.getElem?_eq_getElem _
              have er : rs[j]? = some (rs[j]'(by omega)) := List.getElem?_eq_getElem _
              generalize ts[j]'(by omega) = tx at ej
              generalize rs[j]'(by omega) = rx at er
              obtain ⟨pp, xs, ps, rfl, hpp, hps, pl⟩ := okT9 tx (List.mem_of_getElem? ej)
              obtain ⟨bl, hbl, bl1⟩ := ok9 rx (List.mem_of_getElem? er)
              refine ⟨_, rfl, _, rfl, _, rfl, _, rfl, Lt, ts, _, _, rfl, rfl, SqL.of hTB, (by rw [Int.zero_add]; exact atI_nat ej), ?_⟩
              refine ⟨vc, vw, pp, b, C, W, xs, ps, rfl, dp_same sB _ _ hC9, ok, dp_same sB _ _ hW9, okw, SqT.of (sB _ _ hpp), hps.same sB, by omega, fun HC sC => ?_⟩
              have s9C := sB.trans sC
              refine ⟨_, rfl, _, rfl, _, rfl, _, rfl, Lt, ts, _, _, rfl, rfl, SqL.of (s9C _ _ hT9), (by rw [Int.zero_add]; exact atI_nat ej), ?_⟩
              refine ⟨vc, vw, pp, b, C, W, xs, ps, rfl, dp_same s9C _ _ hC9, ok, dp_same s9C _ _ hW9, okw, SqT.of (s9C _ _ hpp), hps.same s9C, by omega, fun HD sD => ?_⟩
              have s9D := s9C.trans sD
              refine ⟨_, _, rfl, ?_⟩
              rw [beq_self_eq_true]
              refine ⟨_, rfl, ite2 (fun h => (nomatch (show false = true from h))) (fun _ => ?_)⟩
              refine ⟨_, rfl, _, rfl, _, rfl, _, rfl, Lr, rs, _, _, rfl, rfl, SqL.of (s9D _ _ hR9), (by rw [Int.zero_add]; exact atI_nat er), ?_⟩
              refine ⟨vc, vw, rx, b, C, W, bl, rfl, dp_same s9D _ _ hC9, ok, dp_same s9D _ _ hW9, okw, dp_same s9D _ _ hbl, bl1, fun HE sE => ?_⟩
              have s9E := s9D.trans sE
              refine ⟨_, rfl, _, rfl, _, rfl, _, rfl, Lr, rs, _, _, rfl, rfl, SqL.of (s9E _ _ hR9), (by rw [Int.zero_add]; exact atI_nat er), ?_⟩
              refine ⟨vc, vw, rx, b, C, W, bl, rfl, dp_same s9E _ _ hC9, ok, dp_same s9E _ _ hW9, okw, dp_same s9E _ _ hbl, bl1, fun HF sF => ?_⟩
              have s9F := s9E.trans sF
              refine ⟨_, _, rfl, ?_⟩
              rw [beq_self_eq_true]
              exact ⟨_, rfl, ite2 (fun h => (nomatch (show false = true from h))) (fun _ => ⟨_, rfl, s9F⟩)⟩
            · rintro σ HB ⟨y4, rfl, sB⟩
              exact ⟨_, _, rfl, sB⟩
          · rintro σ HA ⟨y4, y9, rfl, sA⟩
            exact q _
end
end Mt
namespace Mt
open PySem PySem.Spec PyProof.Rows L2
def dd_branches_along : He.DefD := ⟨("branches_along", none), "branches_along", "branches_along", defArgs s_branches_along, defBody s_branches_along, defScope s_branches_along, [], []⟩
def dd_place_behind : He.DefD := ⟨("place_behind", none), "place_behind", "place_behind", defArgs s_place_behind, defBody s_place_behind, defScope s_place_behind, [], []⟩
def dd_judge_holds : He.DefD := ⟨("judge_holds", none), "judge_holds", "judge_holds", defArgs s_judge_holds, defBody s_judge_holds, defScope s_judge_holds, [], []⟩
def dd_judge_breaks : He.DefD := ⟨("judge_breaks", none), "judge_breaks", "judge_breaks", defArgs s_judge_breaks, defBody s_judge_breaks, defScope s_judge_breaks, [], []⟩
def dd__law_begin : He.DefD := ⟨("_law_begin", none), "_law_begin", "_law_begin", defArgs s__law_begin, defBody s__law_begin, defScope s__law_begin, [], []⟩
def dd__law_draw : He.DefD := ⟨("_law_draw", none), "_law_draw", "_law_draw", defArgs s__law_draw, defBody s__law_draw, defScope s__law_draw, [], []⟩
def dd__law_pick : He.DefD := ⟨("_law_pick", none), "_law_pick", "_law_pick", defArgs s__law_pick, defBody s__law_pick, defScope s__law_pick, [], []⟩
def dd__law_pop : He.DefD := ⟨("_law_pop", none), "_law_pop", "_law_pop", defArgs s__law_pop, defBody s__law_pop, defScope s__law_pop, [], []⟩
def dd__law_rare : He.DefD := ⟨("_law_rare", none), "_law_rare", "_law_rare", defArgs s__law_rare, defBody s__law_rare, defScope s__law_rare, [], []⟩
def dd__law_shuffled : He.DefD := ⟨("_law_shuffled", none), "_law_shuffled", "_law_shuffled", defArgs s__law_shuffled, defBody s__law_shuffled, defScope s__law_shuffled, [], []⟩
def dd__law_pool : He.DefD := ⟨("_law_pool", none), "_law_pool", "_law_pool", defArgs s__law_pool, defBody s__law_pool, defScope s__law_pool, [], []⟩
def dd__law_words : He.DefD := ⟨("_law_words", none), "_law_words", "_law_words", defArgs s__law_words, defBody s__law_words, defScope s__law_words, [], []⟩
def dd__law_watch_step : He.DefD := ⟨("_law_watch_step", none), "_law_watch_step", "_law_watch_step", defArgs s__law_watch_step, defBody s__law_watch_step, defScope s__law_watch_step, [], []⟩
def dd__law_drawn_watch : He.DefD := ⟨("_law_drawn_watch", none), "_law_drawn_watch", "_law_drawn_watch", defArgs s__law_drawn_watch, defBody s__law_drawn_watch, defScope s__law_drawn_watch, [], []⟩
def dd__law_some_watch : He.DefD := ⟨("_law_some_watch", none), "_law_some_watch", "_law_some_watch", defArgs s__law_some_watch, defBody s__law_some_watch, defScope s__law_some_watch, [], []⟩
def dd__law_ladder : He.DefD := ⟨("_law_ladder", none), "_law_ladder", "_law_ladder", defArgs s__law_ladder, defBody s__law_ladder, defScope s__law_ladder, [], []⟩
def dd__law_wide_shown : He.DefD := ⟨("_law_wide_shown", none), "_law_wide_shown", "_law_wide_shown", defArgs s__law_wide_shown, defBody s__law_wide_shown, defScope s__law_wide_shown, [], []⟩
def dd__law_wide_chain : He.DefD := ⟨("_law_wide_chain", none), "_law_wide_chain", "_law_wide_chain", defArgs s__law_wide_chain, defBody s__law_wide_chain, defScope s__law_wide_chain, [], []⟩
def dd__law_some_chain : He.DefD := ⟨("_law_some_chain", none), "_law_some_chain", "_law_some_chain", defArgs s__law_some_chain, defBody s__law_some_chain, defScope s__law_some_chain, [], []⟩
def dd__law_met_pairs : He.DefD := ⟨("_law_met_pairs", none), "_law_met_pairs", "_law_met_pairs", defArgs s__law_met_pairs, defBody s__law_met_pairs, defScope s__law_met_pairs, [], []⟩
def dd__law_spared : He.DefD := ⟨("_law_spared", none), "_law_spared", "_law_spared", defArgs s__law_spared, defBody s__law_spared, defScope s__law_spared, [], []⟩
def dd__law_is_bool : He.DefD := ⟨("_law_is_bool", none), "_law_is_bool", "_law_is_bool", defArgs s__law_is_bool, defBody s__law_is_bool, defScope s__law_is_bool, [], []⟩
def dd__law_closed : He.DefD := ⟨("_law_closed", none), "_law_closed", "_law_closed", defArgs s__law_closed, defBody s__law_closed, defScope s__law_closed, [], []⟩
def dd__law_broken_by : He.DefD := ⟨("_law_broken_by", none), "_law_broken_by", "_law_broken_by", defArgs s__law_broken_by, defBody s__law_broken_by, defScope s__law_broken_by, [], []⟩
def dd__law_table : He.DefD := ⟨("_law_table", none), "_law_table", "_law_table", defArgs s__law_table, defBody s__law_table, defScope s__law_table, [], []⟩
def dd__law_blocks : He.DefD := ⟨("_law_blocks", none), "_law_blocks", "_law_blocks", defArgs s__law_blocks, defBody s__law_blocks, defScope s__law_blocks, [], []⟩
def dd_law : He.DefD := ⟨("law", none), "law", "law", defArgs s_law, defBody s_law, defScope s_law, [], []⟩
def dd_wi : He.DefD := ⟨("Watcher", some "__init__"), "__init__", "Watcher.__init__", defArgs s_wi, defBody s_wi, defScope s_wi, [], []⟩
def dd_wc : He.DefD := ⟨("Watcher", some "__call__"), "__call__", "Watcher.__call__", defArgs s_wc, defBody s_wc, defScope s_wc, [], []⟩
/-- the property, and its getter -/
def paW (K : PySem.W.Frag) : Addr := He.ma K (He.ga K "Watcher") "broken"
def gaW (K : PySem.W.Frag) : Addr := match PySem.W.recIn K (paW K) "property" with
  | some (.ref g :: _) => g
  | _ => 0
def dd_wb : He5.DefA := ⟨gaW, "broken", "Watcher.broken", defArgs s_wb, defBody s_wb, defScope s_wb, [], []⟩
/-! the head's words, and one def at an address of one's own -/
abbrev AlN : Type := He.AlD × (Bool × He.FnW)
def obsN (n : Nat) (fa : List He.Fa) (fn : List He.DefD) (ex : PySem.W.Frag → Bool) (d : He5.DefA) (g : Addr → Option Obj) : AlN := (He.obsDG n fa fn g, (ex (He.frG g (He.asD g n)) && d.ok (He.frG g (He.asD g n)), He5.fnA (He.frG g (He.asD g n)) (d.at_ (He.frG g (He.asD g n)))))
def SaysN (fa : List He.Fa) (fn : List He.DefD) (ex : PySem.W.Frag → Bool) (d : He5.DefA) (K : PySem.W.Frag) : Prop := He.SaysD fa fn K ∧ (ex K && d.ok K) = true ∧ He5.fnA K (d.at_ K) = d.val
def hookN (n : Nat) (fa : List He.Fa) (fn : List He.DefD) (ex : PySem.W.Frag → Bool) (d : He5.DefA) : PySem.W.Hook where
  α := AlN
  obs := fun s => obsN n fa fn ex d s.heap.get?
  val := fun _ => (He.valD fn, (true, d.val))
  says := fun _ h => ∃ K : PySem.W.Frag, K.In h ∧ SaysN fa fn ex d K
  of := fun _ _ e => ⟨_, He.frG_in, congrArg (fun z : AlN => z.1) e, congrArg (fun z : AlN => z.2.1) e, congrArg (fun z : AlN => z.2.2) e⟩
  keeps := fun _ _ _ ⟨K, hK, c⟩ k => ⟨K, PySem.W.Frag.In.keeps hK k, c⟩
theorem obsN_eq {n : Nat} {fa : List He.Fa} {fn : List He.DefD} {ex : PySem.W.Frag → Bool} {d : He5.DefA} {g : Addr → Option Obj} {s : Shared} (h : ∀ a, g a = s.heap.get? a) : obsN n fa fn ex d g = (hookN n fa fn ex d).obs s := by
  have e : g = s.heap.get? := funext h
  rw [e] <;> rfl
def dds : List He.DefD := [dd_branches_along, dd_place_behind, dd_judge_holds, dd_judge_breaks, dd__law_begin, dd__law_draw, dd__law_pick, dd__law_pop, dd__law_rare, dd__law_shuffled, dd__law_pool, dd__law_words, dd__law_watch_step, dd__law_drawn_watch, dd__law_some_watch, dd__law_ladder, dd__law_wide_shown, dd__law_wide_chain, dd__law_some_chain, dd__law_met_pairs, dd__law_spared, dd__law_is_bool, dd__law_closed, dd__law_broken_by, dd__law_table, dd__law_blocks, dd_law, dd_wi, dd_wc]
def fas : List He.Fa := [.glo "branches_along", .glo "place_behind", .glo "judge_holds", .glo "judge_breaks", .glo "_law_begin", .glo "_law_draw", .glo "_law_pick", .glo "_law_pop", .glo "_law_rare", .glo "_law_shuffled", .glo "_law_pool", .glo "_law_words", .glo "_law_watch_step", .glo "_law_drawn_watch", .glo "_law_some_watch", .glo "_law_ladder", .glo "_law_wide_shown", .glo "_law_wide_chain", .glo "_law_some_chain", .glo "_law_met_pairs", .glo "_law_spared", .glo "_law_is_bool", .glo "_law_closed", .glo "_law_broken_by", .glo "_law_table", .glo "_law_blocks", .glo "law", .free "int", .free "abs", .free "len", .free "isinstance", .free "bool", .free "tuple", .free "list", .free "range", .free "sorted", .free "min", .glo "Watcher", .cls "Watcher", .noat "Watcher" "watch", .noat "Watcher" "here", .noat "Watcher" "has_broken", .mkr "Watcher", .meth "Watcher" "__call__"]
def exM (K : PySem.W.Frag) : Bool := PySem.W.fnIn K (He.ma K (He.ga K "Watcher") "__call__") && (He.eqO (PySem.W.findIn K (.ref (He.ga K "Watcher")) "broken") (some (some (.ref (paW K)))) && (He.eqO (PySem.W.specialIn K (.ref (paW K)) "__get__") (some (some (.builtin "property.__get__"))) && (decide (PySem.W.takesIn K (.ref (paW K)) = some true) && (match PySem.W.recIn K (paW K) "property" with
  | some (.ref _ :: _) => true
  | _ => false))))
theorem rec_of {K : PySem.W.Frag} (h : (match PySem.W.recIn K (paW K) "property" with
  | some (.ref _ :: _) => true
  | _ => false) = true) : ∃ rest, PySem.W.recIn K (paW K) "property" = some (.ref (gaW K) :: rest) := by
  unfold gaW
  split at h
  · rename_i g r e
    rw [e]
    exact ⟨r, rfl⟩
  · cases h
abbrev R : PySem.W.OpenRow := PySem.W.OpenLaw.row PySem.Challenge.rw_meantrace_k75_claims_judged
abbrev hk : PySem.W.Hook := hookN 6 fas dds exM dd_wb
def ob (s : PySem.W.SharedT) : AlN := obsN 6 fas dds exM dd_wb (HandSHeadRun.getT s)
theorem ob_eq (s : PySem.W.SharedT) : ob s = hk.obs s.abs := obsN_eq (HandSHeadRun.getT_eq s)
def names : List PySem.Str := (["branches_along", "place_behind", "Watcher", "judge_holds", "judge_breaks", "_law_begin", "_law_draw", "_law_pick", "_law_pop", "_law_rare", "_law_shuffled", "_law_pool", "_law_words", "_law_watch_step", "_law_drawn_watch", "_law_some_watch", "_law_ladder", "_law_wide_shown", "_law_wide_chain", "_law_some_chain", "_law_met_pairs", "_law_spared", "_law_is_bool", "_law_closed", "_law_broken_by"] : List PySem.Str) ++ (["_law_table", "_law_blocks"] : List PySem.Str)
theorem run (w : World) : HandSHeadRun.RunEq R (PySem.W.view R.prog [31]) hk ob 3000 names w := by
  intro os; kernel_rfl
theorem facts {P : Program} {w : World} {K : PySem.W.Frag} {h : Heap} {mg : Str → Option Value} {f : Addr} (X : K.In h) (G : h.Ns mainGlobals mg) (hfa : mg ("law" : Str) = some (.ref f)) (c : SaysN fas dds exM dd_wb K) :
    ∃ fd : FuncData, (∀ (s : Shared) (v : Value), BindsTo s fd ⟨[v], []⟩ [("script", v)]) ∧ ∀ base : Heap, K.In base → base.Ns mainGlobals mg → FnOk P w K mg base CX0 6 f fd ["script"] (spLaw K) := by
  obtain ⟨fd, F⟩ := c.1.def_ 26 (d := dd_law) rfl
  have e := hfa.symm.trans (He.glo_ok X G (c.1.fact 26 (f := .glo "law") rfl))
  cases e
  have T : Txt K mg := ⟨He.free_ok X G (c.1.fact 27 (f := .free "int") rfl), He.free_ok X G (c.1.fact 28 (f := .free "abs") rfl), He.free_ok X G (c.1.fact 29 (f := .free "len") rfl), He.free_ok X G (c.1.fact 30 (f := .free "isinstance") rfl), He.free_ok X G (c.1.fact 31 (f := .free "bool") rfl), He.free_ok X G (c.1.fact 32 (f := .free "tuple") rfl), He.free_ok X G (c.1.fact 33 (f := .free "list") rfl), He.free_ok X G (c.1.fact 34 (f := .free "range") rfl), He.free_ok X G (c.1.fact 35 (f := .free "sorted") rfl), He.free_ok X G (c.1.fact 36 (f := .free "min") rfl)⟩
  have b := FunD.bindsA (ps := ["script"]) F fun _ _ _ _ _ _ us hl => match us, hl with | [_], _ => rfl
  refine ⟨fd, fun s v => b s [v] rfl, fun base _ _ => ?_⟩
  have D_branches_along : Kept P w K mg base 1 "branches_along" ["rows", "state", "blocks"] (spAlongG K) := kept_of (st := s_branches_along) X G (c.1.def_ 0 (d := dd_branches_along) rfl) (c.1.fact 0 (f := .glo "branches_along") rfl) (fun _ _ _ _ _ _ us hl => match us, hl with | [_, _, _], _ => rfl) (fun f fd F => ok_branches_along T F)
  have D_place_behind : Kept P w K mg base 1 "place_behind" ["watch", "place", "shown"] (spPlace K) := kept_of (st := s_place_behind) X G (c.1.def_ 1 (d := dd_place_behind) rfl) (c.1.fact 1 (f := .glo "place_behind") rfl) (fun _ _ _ _ _ _ us hl => match us, hl with | [_, _, _], _ => rfl) (fun f fd F => ok_place_behind T F)
  have D__law_begin : Kept P w K mg base 1 "_law_begin" ["script"] (spBegin K) := kept_of (st := s__law_begin) X G (c.1.def_ 4 (d := dd__law_begin) rfl) (c.1.fact 4 (f := .glo "_law_begin") rfl) (fun _ _ _ _ _ _ us hl => match us, hl with | [_], _ => rfl) (fun f fd F => ok__law_begin T F)
  have D__law_draw : Kept P w K mg base 1 "_law_draw" ["d", "many"] spDraw := kept_of (st := s__law_draw) X G (c.1.def_ 5 (d := dd__law_draw) rfl) (c.1.fact 5 (f := .glo "_law_draw") rfl) (fun _ _ _ _ _ _ us hl => match us, hl with | [_, _], _ => rfl) (fun f fd F => ok__law_draw T F)
  have D__law_pool : Kept P w K mg base 1 "_law_pool" [] spPool := kept_of (st := s__law_pool) X G (c.1.def_ 10 (d := dd__law_pool) rfl) (c.1.fact 10 (f := .glo "_law_pool") rfl) (fun _ _ _ _ _ _ us hl => match us, hl with | [], _ => rfl) (fun f fd F => ok__law_pool T F)
  have D__law_watch_step : Kept P w K mg base 1 "_law_watch_step" ["watch", "state", "shown"] (spPlace K) := kept_of (st := s__law_watch_step) X G (c.1.def_ 12 (d := dd__law_watch_step) rfl) (c.1.fact 12 (f := .glo "_law_watch_step") rfl) (fun _ _ _ _ _ _ us hl => match us, hl with | [_, _, _], _ => rfl) (fun f fd F => ok__law_watch_step T F)
  have D__law_is_bool : Kept P w K mg base 1 "_law_is_bool" ["told", "due"] spIsBool := kept_of (st := s__law_is_bool) X G (c.1.def_ 21 (d := dd__law_is_bool) rfl) (c.1.fact 21 (f := .glo "_law_is_bool") rfl) (fun _ _ _ _ _ _ us hl => match us, hl with | [_, _], _ => rfl) (fun f fd F => ok__law_is_bool T F)
  have D_judge_holds : Kept P w K mg base 2 "judge_holds" ["chain", "watch", "pairs"] (spHolds K) := kept_of (st := s_judge_holds) X G (c.1.def_ 2 (d := dd_judge_holds) rfl) (c.1.fact 2 (f := .glo "judge_holds") rfl) (fun _ _ _ _ _ _ us hl => match us, hl with | [_, _, _], _ => rfl) (fun f fd F => ok_judge_holds T D_place_behind F)
  have D__law_pick : Kept P w K mg base 2 "_law_pick" ["d", "row"] (spPick K) := kept_of (st := s__law_pick) X G (c.1.def_ 6 (d := dd__law_pick) rfl) (c.1.fact 6 (f := .glo "_law_pick") rfl) (fun _ _ _ _ _ _ us hl => match us, hl with | [_, _], _ => rfl) (fun f fd F => ok__law_pick T D__law_draw F)
  have D__law_pop : Kept P w K mg base 2 "_law_pop" ["d", "row"] spPop := kept_of (st := s__law_pop) X G (c.1.def_ 7 (d := dd__law_pop) rfl) (c.1.fact 7 (f := .glo "_law_pop") rfl) (fun _ _ _ _ _ _ us hl => match us, hl with | [_, _], _ => rfl) (fun f fd F => ok__law_pop T D__law_draw F)
  have D__law_rare : Kept P w K mg base 2 "_law_rare" ["d", "many"] spRare := kept_of (st := s__law_rare) X G (c.1.def_ 8 (d := dd__law_rare) rfl) (c.1.fact 8 (f := .glo "_law_rare") rfl) (fun _ _ _ _ _ _ us hl => match us, hl with | [_, _], _ => rfl) (fun f fd F => ok__law_rare T D__law_draw F)
  have D__law_shuffled : Kept P w K mg base 2 "_law_shuffled" ["d", "row"] (spShufP K) := kept_of (st := s__law_shuffled) X G (c.1.def_ 9 (d := dd__law_shuffled) rfl) (c.1.fact 9 (f := .glo "_law_shuffled") rfl) (fun _ _ _ _ _ _ us hl => match us, hl with | [_, _], _ => rfl) (fun f fd F => ok__law_shuffled T D__law_draw F)
  have D__law_words : Kept P w K mg base 2 "_law_words" ["d", "base", "many"] (spWords K) := kept_of (st := s__law_words) X G (c.1.def_ 11 (d := dd__law_words) rfl) (c.1.fact 11 (f := .glo "_law_words") rfl) (fun _ _ _ _ _ _ us hl => match us, hl with | [_, _, _], _ => rfl) (fun f fd F => ok__law_words T D__law_draw F)
  have D__law_met_pairs : Kept P w K mg base 2 "_law_met_pairs" ["chain", "watch", "starts"] (spMet K) := kept_of (st := s__law_met_pairs) X G (c.1.def_ 19 (d := dd__law_met_pairs) rfl) (c.1.fact 19 (f := .glo "_law_met_pairs") rfl) (fun _ _ _ _ _ _ us hl => match us, hl with | [_, _, _], _ => rfl) (fun f fd F => ok__law_met_pairs T D__law_watch_step F)
  have D__law_closed : Kept P w K mg base 2 "_law_closed" ["chain", "watch", "pairs"] (spHolds K) := kept_of (st := s__law_closed) X G (c.1.def_ 22 (d := dd__law_closed) rfl) (c.1.fact 22 (f := .glo "_law_closed") rfl) (fun _ _ _ _ _ _ us hl => match us, hl with | [_, _, _], _ => rfl) (fun f fd F => ok__law_closed T D__law_watch_step F)
  have D__law_broken_by : Kept P w K mg base 2 "_law_broken_by" ["chain", "watch", "blocks"] (spJBreaks K) := kept_of (st := s__law_broken_by) X G (c.1.def_ 23 (d := dd__law_broken_by) rfl) (c.1.fact 23 (f := .glo "_law_broken_by") rfl) (fun _ _ _ _ _ _ us hl => match us, hl with | [_, _, _], _ => rfl) (fun f fd F => ok__law_broken_by T D__law_watch_step F)
  obtain ⟨cx, cd⟩ := He.ba c.2.1
  obtain ⟨x1, cx⟩ := He.ba cx
  obtain ⟨x2, cx⟩ := He.ba cx
  obtain ⟨x3, cx⟩ := He.ba cx
  obtain ⟨x4, x5⟩ := He.ba cx
  have WX : WTx K (He.ga K "Watcher") := ⟨He.cls_ok (c.1.fact 38 (f := .cls "Watcher") rfl), He.noat_ok (c.1.fact 39 (f := .noat "Watcher" "watch") rfl), He.noat_ok (c.1.fact 40 (f := .noat "Watcher" "here") rfl), He.noat_ok (c.1.fact 41 (f := .noat "Watcher" "has_broken") rfl)⟩
  obtain ⟨fdI, FI⟩ := c.1.def_ 27 (d := dd_wi) rfl
  obtain ⟨fdC, FC⟩ := c.1.def_ 28 (d := dd_wc) rfl
  obtain ⟨fdB, FB⟩ := He5.DefA.funD (d := dd_wb) c.2.2 cd
  have mC := He.meth_ok (c.1.fact 43 (f := .meth "Watcher" "__call__") rfl)
  have bC : Binds K fdC ["self", "shown"] [] := FunD.bindsN (ps := ["self", "shown"]) FC fun _ _ _ _ _ _ us hl => match us, hl with | [_, _], _ => rfl
  have okC := ok_wc (P := P) (w := w) (mg := mg) (base := base) WX D_place_behind FC
  have Wc : Wch P w K mg base (He.ga K "Watcher") (He.ma K (He.ga K "Watcher") "__init__") (He.ma K (He.ga K "Watcher") "__call__") (paW K) (gaW K) fdI fdB :=
    { mgC := He.glo_ok X G (c.1.fact 37 (f := .glo "Watcher") rfl), cl := WX.cl, mk_ := He.mkr_ok (c.1.fact 42 (f := .mkr "Watcher") rfl), fI_ := ok_wi WX FI,
      bI := FunD.bindsN (ps := ["self", "watch"]) FI fun _ _ _ _ _ _ us hl => match us, hl with | [_, _], _ => rfl,
      call := ⟨mC.1, mC.2, x1⟩,
      fC_ := fun A outer s H us vs Q E hr e0 r hs => (FnOk.raw okC bC .nil) A outer s H us vs Q E hr e0 r (by show spWC K (He.ga K "Watcher") (vs ++ []) H Q E; rw [List.append_nil]; exact hs),
      pr := ⟨He.eqO_ok x2, He.eqO_ok x3, of_decide_eq_true x4, rec_of x5⟩,
      fB_ := ok_wb WX FB,
      bB := FunD.bindsN (ps := ["self"]) FB fun _ _ _ _ _ _ us hl => match us, hl with | [_], _ => rfl }
  have D_judge_breaks : Kept P w K mg base 3 "judge_breaks" ["chain", "watch", "blocks"] (spJBreaks K) := kept_of (st := s_judge_breaks) X G (c.1.def_ 3 (d := dd_judge_breaks) rfl) (c.1.fact 3 (f := .glo "judge_breaks") rfl) (fun _ _ _ _ _ _ us hl => match us, hl with | [_, _, _], _ => rfl) (fun f fd F => ok_judge_breaks T D_branches_along Wc F)
  have D__law_drawn_watch : Kept P w K mg base 3 "_law_drawn_watch" ["d", "marks", "many"] (spDWatch K) := kept_of (st := s__law_drawn_watch) X G (c.1.def_ 13 (d := dd__law_drawn_watch) rfl) (c.1.fact 13 (f := .glo "_law_drawn_watch") rfl) (fun _ _ _ _ _ _ us hl => match us, hl with | [_, _, _], _ => rfl) (fun f fd F => ok__law_drawn_watch T D__law_draw D__law_pop D__law_rare F)
  have D__law_ladder : Kept P w K mg base 3 "_law_ladder" ["d", "base", "states", "marks"] (spLadder K) := kept_of (st := s__law_ladder) X G (c.1.def_ 15 (d := dd__law_ladder) rfl) (c.1.fact 15 (f := .glo "_law_ladder") rfl) (fun _ _ _ _ _ _ us hl => match us, hl with | [_, _, _, _], _ => rfl) (fun f fd F => ok__law_ladder T D__law_draw D__law_pick D__law_words F)
  have D__law_wide_shown : Kept P w K mg base 3 "_law_wide_shown" ["d", "marks"] (spShown K) := kept_of (st := s__law_wide_shown) X G (c.1.def_ 16 (d := dd__law_wide_shown) rfl) (c.1.fact 16 (f := .glo "_law_wide_shown") rfl) (fun _ _ _ _ _ _ us hl => match us, hl with | [_, _], _ => rfl) (fun f fd F => ok__law_wide_shown T D__law_pick F)
  have D__law_spared : Kept P w K mg base 3 "_law_spared" ["d", "chain", "watch"] (spSpared K) := kept_of (st := s__law_spared) X G (c.1.def_ 20 (d := dd__law_spared) rfl) (c.1.fact 20 (f := .glo "_law_spared") rfl) (fun _ _ _ _ _ _ us hl => match us, hl with | [_, _, _], _ => rfl) (fun f fd F => ok__law_spared T D__law_draw D__law_met_pairs F)
  have D__law_table : Kept P w K mg base 3 "_law_table" ["d", "chain", "watch"] (spTable K) := kept_of (st := s__law_table) X G (c.1.def_ 24 (d := dd__law_table) rfl) (c.1.fact 24 (f := .glo "_law_table") rfl) (fun _ _ _ _ _ _ us hl => match us, hl with | [_, _, _], _ => rfl) (fun f fd F => ok__law_table T D__law_draw D__law_pick D__law_shuffled D__law_met_pairs F)
  have D__law_blocks : Kept P w K mg base 3 "_law_blocks" ["d", "chain"] (spBlocksD K) := kept_of (st := s__law_blocks) X G (c.1.def_ 25 (d := dd__law_blocks) rfl) (c.1.fact 25 (f := .glo "_law_blocks") rfl) (fun _ _ _ _ _ _ us hl => match us, hl with | [_, _], _ => rfl) (fun f fd F => ok__law_blocks T D__law_draw D__law_pick D__law_rare F)
  have D__law_some_watch : Kept P w K mg base 4 "_law_some_watch" ["d", "marks", "most"] (spSWatch K) := kept_of (st := s__law_some_watch) X G (c.1.def_ 14 (d := dd__law_some_watch) rfl) (c.1.fact 14 (f := .glo "_law_some_watch") rfl) (fun _ _ _ _ _ _ us hl => match us, hl with | [_, _, _], _ => rfl) (fun f fd F => ok__law_some_watch T D__law_draw D__law_drawn_watch F)
  have D__law_wide_chain : Kept P w K mg base 4 "_law_wide_chain" ["d", "base", "states", "marks"] (spWChain K) := kept_of (st := s__law_wide_chain) X G (c.1.def_ 17 (d := dd__law_wide_chain) rfl) (c.1.fact 17 (f := .glo "_law_wide_chain") rfl) (fun _ _ _ _ _ _ us hl => match us, hl with | [_, _, _, _], _ => rfl) (fun f fd F => ok__law_wide_chain T D__law_draw D__law_words D__law_wide_shown F)
  have D__law_some_chain : Kept P w K mg base 5 "_law_some_chain" ["d", "marks", "most"] (spSomeC K) := kept_of (st := s__law_some_chain) X G (c.1.def_ 18 (d := dd__law_some_chain) rfl) (c.1.fact 18 (f := .glo "_law_some_chain") rfl) (fun _ _ _ _ _ _ us hl => match us, hl with | [_, _, _], _ => rfl) (fun f fd F => ok__law_some_chain T D__law_draw D__law_rare D__law_ladder D__law_wide_chain F)
  exact ok_law T D_judge_holds D_judge_breaks D__law_begin D__law_draw D__law_pop D__law_pool D__law_some_watch D__law_some_chain D__law_spared D__law_is_bool D__law_closed D__law_broken_by D__law_table D__law_blocks F
end Mt
open PySem PySem.W PySem.Calls PyProof.Rows
set_option maxHeartbeats 0 in
theorem PySem.Challenge.cw_meantrace_k75_claims_judged_holds : PySem.Challenge.rw_meantrace_k75_claims_judged.Holds := by
  w_on; o_law
  refine HandSHeadRun.head_any (r := OpenLaw.row PySem.Challenge.rw_meantrace_k75_claims_judged) (q := view (OpenLaw.row PySem.Challenge.rw_meantrace_k75_claims_judged).prog [31]) (H := Mt.hk) (ob := Mt.ob) (M := 3000) (loose := Mt.names) (d := HandSHeadRun.topDef (OpenLaw.row PySem.Challenge.rw_meantrace_k75_claims_judged).prog 31) (kwd := []) Mt.ob_eq
    (by kernel_rfl) (fun s => by kernel_rfl) Mt.run (by kernel_rfl) (by kernel_rfl) (by kernel_rfl) (by rfl) (by first | assumption | decide +kernel) (by decide +kernel) ⟨rfl, rfl, rfl, rfl, rfl, by decide +kernel⟩ ?hw ?hc
  case hw => w_witness2
  case hc =>
    refine L2.walk_ofE (l := PySem.Challenge.rw_meantrace_k75_claims_judged) (n := 63) (k := 6) (x := "script") (CX := L2.CX0) rfl (by decide) (by kernel_rfl) ⟨rfl, by decide, by decide⟩ ?F (fun _ _ _ _ z => z)
    intro w mg fa h Y G hmg0
    obtain ⟨K, KX, c⟩ := Y
    have hmg : mg ("law" : PySem.Str) = some (.ref fa) := by
      have e : (HandSHeadRun.topDef (OpenLaw.row PySem.Challenge.rw_meantrace_k75_claims_judged).prog 31).name = ("law" : PySem.Str) := by kernel_rfl
      rw [← e]
      exact hmg0
    obtain ⟨fd, hb, hF⟩ := Mt.facts (P := (PySem.Challenge.rw_meantrace_k75_claims_judged).prog) (w := w) KX G hmg c
    exact ⟨K, fd, Mt.spLaw K, KX, hb, fun H a ns hl hO hS => ⟨a, ns, rfl, hS, hl, fun _ => rfl⟩, hF⟩
