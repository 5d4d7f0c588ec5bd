import PyProof.Rows.All
import Wide.All
import OpenK.AllK
import Wide.FinOn
import KE.KStateDown
import HandS.ForMost
import HandS.Wide
import HandS.IsInst
import HandS.Walk
import HandS.Style
import HandS.Evl
import HandS.StrMore
import HandS.Exc
import HandS.WordsExc
import HandS.Defaults
import HandS.Head0
import HandS.Head1
import HandS.Head2
import HandS.HeadEnd
import HandS.HeadHook1
import HandS.HeadHook2
import HandS.Gcd
import HandS.Head3
import HandS.Star
import HandS.RaiseMore
import HandS.AnyAll
import HandS.Conv
import HandS.More
import HandS.Small
import HandS.HeadHook3
import HandS.HeadHook4
import HandS.HeadWalk
import HandS.EndTab
import PyProof.GenCompT
import PyProof.TupleOfGen
import PyProof.WalksPairs
import KE.KTupSum
import KE.DataMinMax
import HandS.SortKw
import HandS.TupAny
import PySem.Challenge.RW_meantrace_k33_gauge_tallies
set_option Elab.async false
set_option linter.all false
set_option maxRecDepth 100000
/-! Our own words over the hand layer: defs of the top by name, the draws' state, heaps that go on. -/
namespace Mt
open PySem PySem.Spec PyProof.Rows L2
section
variable {P : Program} {w : World} {K : PySem.W.Frag} {mg : Str → Option Value} {base : Heap}
abbrev FnP (K : PySem.W.Frag) (x : Str) (st : Stmt) (f : Addr) (fd : FuncData) : Prop := FunD K x x (defArgs st) (defBody st) (defScope st) [] [] f fd
/-- a def that keeps its promise -/
def Kept (P : Program) (w : World) (K : PySem.W.Frag) (mg : Str → Option Value) (base : Heap) (k : Nat) (x : Str) (ps : List Str) (sp : Sp) : Prop :=
  ∃ f fd, FnOk P w K mg base CX0 k f fd ps sp ∧ mg x = some (.ref f) ∧ PySem.W.keepIn K (.ref f) = true ∧ Binds K fd ps []
/-- what the head tells: facts by names, defs, one more word of one's own -/
abbrev AlM : Type := He.AlD × Bool
def obsM (n : Nat) (fa : List He.Fa) (fn : List He.DefD) (ex : PySem.W.Frag → Bool) (g : Addr → Option Obj) : AlM := (He.obsDG n fa fn g, ex (He.frG g (He.asD g n)))
def SaysM (fa : List He.Fa) (fn : List He.DefD) (ex : PySem.W.Frag → Bool) (K : PySem.W.Frag) : Prop := He.SaysD fa fn K ∧ ex K = true
def hookM (n : Nat) (fa : List He.Fa) (fn : List He.DefD) (ex : PySem.W.Frag → Bool) : PySem.W.Hook where
  α := AlM
  obs := fun s => obsM n fa fn ex s.heap.get?
  val := fun _ => (He.valD fn, true)
  says := fun _ h => ∃ K : PySem.W.Frag, K.In h ∧ SaysM fa fn ex K
  of := fun _ _ e => ⟨_, He.frG_in, congrArg (fun z : AlM => z.1) e, congrArg (fun z : AlM => z.2) e⟩
  keeps := fun _ _ _ ⟨K, hK, c⟩ k => ⟨K, PySem.W.Frag.In.keeps hK k, c⟩
theorem obsM_eq {n : Nat} {fa : List He.Fa} {fn : List He.DefD} {ex : PySem.W.Frag → Bool} {g : Addr → Option Obj} {s : Shared} (h : ∀ a, g a = s.heap.get? a) : obsM n fa fn ex g = (hookM n fa fn ex).obs s := by
  have e : g = s.heap.get? := funext h
  rw [e] <;> rfl
theorem kept_of {h : Heap} (X : K.In h) (G : h.Ns mainGlobals mg) {x : Str} {ps : List Str} {st : Stmt} {k : Nat} {sp : Sp}
    (hd : ∃ fd, FnP K x st (He.ga K x) fd) (hg : (He.Fa.glo x).ok K = true)
    (hb : ∀ (kV doc pm : Value) (an : Option Addr) (cdv ct : Value) (us : List Value), us.length = ps.length → bindArgs (PySem.W.fnOf x x (defArgs st) (defBody st) (defScope st) .none kV doc pm an cdv ct) ⟨us, []⟩ = pure (ps.zip us))
    (ok : ∀ f fd, FnP K x st f fd → FnOk P w K mg base CX0 k f fd ps sp) : Kept P w K mg base k x ps sp := by
  obtain ⟨fd, F⟩ := hd
  exact ⟨_, fd, ok _ fd F, He.glo_ok X G hg, F.kp, F.bindsN hb⟩
end
section
variable {X : Cx}
theorem pe_d {k : Nat} {x : Str} {ps : List Str} {sp : Sp} {e : Expr} {es : List Expr} {t : TA} {p pos : Pos} (D : Kept X.prog X.w X.K X.mg X.base k x ps sp) (hr : Room k X.A) (hg : Gl X x) (ha : PA X (e :: es) t)
    (hdb : (x == ("__debug__" : Str)) = false := by decide) (he : starEach (e :: es) X.env = (false, eval e X.env) :: starEach es X.env := by rfl) (hpl : (backTo pos (starEach es X.env)).any (·.1) = false := by rfl) :
    PE X (.Call (.Name x p) (e :: es) [] pos) (tCall sp [] E0 t) := by
  obtain ⟨f, fd, F, g, kp, b⟩ := D
  exact pe_call F hr hg g kp b .nil pass0 ha hdb he hpl
theorem pe_d0 {k : Nat} {x : Str} {ps : List Str} {sp : Sp} {p pos : Pos} (D : Kept X.prog X.w X.K X.mg X.base k x ps sp) (hr : Room k X.A) (hg : Gl X x) (hdb : (x == ("__debug__" : Str)) = false := by decide) :
    PE X (.Call (.Name x p) [] [] pos) (tCall sp [] E0 tNil) := by
  obtain ⟨f, fd, F, g, kp, b⟩ := D
  exact pe_call0 F hr hg g kp b .nil pass0 hdb
/-- a text of the module; an object of the module -/
theorem pe_gs {x z : Str} {pos : Pos} (h : ∃ t, X.mg x = some (.str z t)) (hg : Gl X x) (hd : (x == ("__debug__" : Str)) = false := by decide) : PE X (.Name x pos) (tC (.str z)) := by
  obtain ⟨t, h⟩ := h
  exact pe_glob hg h ⟨_, rfl⟩ hd
/-- xs[i] op= e reads xs[i] -/
theorem get_list : PGet X (rIxL X.K) := by
  intro pins s σ H o i ov iv Q I ro ri h
  obtain ⟨p, xs, i, z, rfl, rfl, hq, he, q⟩ := h
  cases ro
  obtain ⟨t, rfl⟩ := ri
  obtain ⟨its, r, pl, hz⟩ := I.list hq
  obtain ⟨j, h1, h2, h3, h4, h5⟩ := atI_get he
  obtain ⟨w, ew, rw'⟩ := r.get h2
  have hl := r.length
  have hn := line63
  have fin : EP X pins σ Q w s := ⟨z, H, I, rw', q⟩
  by_cases h0 : 0 ≤ i
  · have hj : i.toNat = j := by
      rw [seqIndex_of h0 h5] at h1
      exact Option.some.inj h1
    exact wpAny_mono (wpAny_getItem_list (Q := fun r s' => r = w ∧ EP X pins σ Q r s') pl.isList h0 (by omega) (by rw [hj]; simpa using ew) ⟨rfl, fin⟩) (fun _ _ q => q.2) (fun _ _ q => q)
  · have hj : (i + (its.toArray.size : Int)).toNat = j := by
      rw [seqIndex_neg (by omega) h4] at h1
      rw [List.size_toArray, ← hl]
      exact Option.some.inj h1
    exact wpAny_mono (wpAny_getItem_list_neg (Q := fun r s' => r = w ∧ EP X pins σ Q r s') pl.isList (by omega) (by rw [List.size_toArray] <;> omega) (by omega) (by rw [hj]; simpa using ew) ⟨rfl, fin⟩) (fun _ _ q => q.2) (fun _ _ q => q)
end

/-! ### the draws: [cells, place, rest, seed] at D -/
structure DrawAt (S D : Addr) (H : Hp) : Prop where
  ne : S ≠ D
  cells : ∃ cs : List Int, H S = some (.lst (cs.map V.int))
  at_ : ∃ i r c : Int, 0 ≤ i ∧ H D = some (.lst [.ref S, .int i, .int r, .int c])
/-- all else that is tracked stays -/
def Keep (D : Addr) (H H' : Hp) : Prop := ∀ b o, H b = some o → b ≠ D → H' b = some o
def Go (S D : Addr) (H H' : Hp) : Prop := DrawAt S D H' ∧ Keep D H H'
theorem Keep.refl {D : Addr} {H : Hp} : Keep D H H := fun _ _ h _ => h
theorem Keep.trans {D : Addr} {H H1 H2 : Hp} (a : Keep D H H1) (b : Keep D H1 H2) : Keep D H H2 := fun x o h n => b x o (a x o h n) n
theorem Go.trans {S D : Addr} {H H1 H2 : Hp} (a : Go S D H H1) (b : Go S D H1 H2) : Go S D H H2 := ⟨b.1, a.2.trans b.2⟩
theorem Keep.set {D : Addr} {H H' : Hp} {o : HO} (k : Keep D H H') : Keep D H (upd H' D o) := fun b u h n => by
  rw [upd_ne n]
  exact k b u h n
theorem DrawAt.set {S D : Addr} {H : Hp} (d : DrawAt S D H) {i r c : Int} (h : 0 ≤ i) : DrawAt S D (upd H D (.lst [.ref S, .int i, .int r, .int c])) :=
  ⟨d.ne, d.cells.imp fun cs h => by rw [upd_ne d.ne]; exact h, ⟨i, r, c, h, upd_same⟩⟩
theorem DrawAt.new {S D p : Addr} {H : Hp} {o : HO} (d : DrawAt S D H) (h : H p = none) : DrawAt S D (upd H p o) := by
  obtain ⟨cs, h1⟩ := d.cells
  obtain ⟨i, r, c, h0, h2⟩ := d.at_
  exact ⟨d.ne, ⟨cs, by rw [upd_ne (ne_of_none h1 h)]; exact h1⟩, ⟨i, r, c, h0, by rw [upd_ne (ne_of_none h2 h)]; exact h2⟩⟩
theorem Keep.new {D p : Addr} {H : Hp} {o : HO} (h : H p = none) : Keep D H (upd H p o) := fun b u e _ => by
  rw [upd_ne (ne_of_none e h)]
  exact e
theorem Go.new {S D p : Addr} {H : Hp} {o : HO} (d : DrawAt S D H) (h : H p = none) : Go S D H (upd H p o) := ⟨d.new h, Keep.new h⟩
theorem Go.same {S D : Addr} {H H' : Hp} (d : DrawAt S D H) (h : Same H H') : Go S D H H' := by
  obtain ⟨cs, h1⟩ := d.cells
  obtain ⟨i, r, c, h0, h2⟩ := d.at_
  exact ⟨⟨d.ne, ⟨cs, h _ _ h1⟩, ⟨i, r, c, h0, h _ _ h2⟩⟩, fun b o e _ => h b o e⟩
theorem Go.refl {S D : Addr} {H : Hp} (d : DrawAt S D H) : Go S D H H := ⟨d, Keep.refl⟩
/-- a fresh place stays fresh when looked at from behind -/
theorem DrawAt.free {S D p : Addr} {H : Hp} (d : DrawAt S D H) (h : H p = none) : p ≠ D ∧ p ≠ S := by
  obtain ⟨cs, h1⟩ := d.cells
  obtain ⟨i, r, c, h0, h2⟩ := d.at_
  exact ⟨(ne_of_none h2 h).symm, (ne_of_none h1 h).symm⟩
theorem Go.free {S D p : Addr} {H H' : Hp} (g : Go S D H H') (d : DrawAt S D H) (h : H' p = none) : H p = none := by
  cases q : H p with
  | none => rfl
  | some o =>
    by_cases e : p = D
    · exact absurd e (g.1.free h).1
    · rw [g.2 p o q e] at h
      cases h
def spDraw : Sp := fun vs H Q _ => ∃ (S D : Addr) (many : Int), vs = [.ref D, .int many] ∧ CDivW 0 many ∧ DrawAt S D H ∧ ∀ H' v, 0 ≤ v → v < many → Go S D H H' → Q (.int v) H'
end Mt
/-! ### tuple(b for a, b in rows): rows a tuple of pairs -/
namespace GT
open PySem PySem.Spec PyProof.Rows L2
theorem letGo_tupiter {prog : Program} {w : World} {A : Around} {E : Value → Shared → Prop} {s : Shared} {elts : List Expr} {x1} {pos : Pos} {I l T : Addr} {i : Nat} {Q : Unit → Shared → Prop} (hit : s.heap.IsTupleIter I l i) (hQ : Q () s) :
    wpAny (model prog w) A (letOwnedTupleGo (.Tuple elts x1 pos) (.ref I) (.ref T)) Q E s := by
  obtain ⟨o, ho, hc, hd⟩ := hit
  unfold letOwnedTupleGo
  refine wpAny_bind (wpAny_load ho ?_)
  rw [hc, hd]
  show wpAny _ A (if (["enumerate", "zip", "dict_itemiterator", "dict_reverseitemiterator", "odict_iterator", "itertools.zip_longest", "itertools.pairwise"].contains "tuple_iterator" &&
      (#[.ref l, .int i 0] : Array Value)[0]? == some (rawInt T)) = true then _ else _) Q E s
  rw [if_neg (by
    intro h
    rw [show (["enumerate", "zip", "dict_itemiterator", "dict_reverseitemiterator", "odict_iterator", "itertools.zip_longest", "itertools.pairwise"].contains "tuple_iterator") = false from by decide, Bool.false_and] at h
    cases h)]
  exact wpAny_pure hQ
theorem tupOfTuples {prog : Program} {w : World} {A : Around} (hh : A.handled = none) (I ax : Addr) (hne : ax ≠ I) (items : Array Value) (Ts : Nat → Addr) (vals : Nat → Array Value)
    (hit : ∀ j, j < items.size → items[j]? = some (.ref (Ts j))) (hTI : ∀ j, j < items.size → Ts j ≠ I) :
    WalksU prog w A I (I :: ax :: (List.range items.size).map Ts) [I] items.size (fun j v => v = vals j)
      (fun j h => h.IsTupleIter I ax j ∧ h.IsTuple ax items ∧ ∀ k, k < items.size → h.IsTuple (Ts k) (vals k))
      (fun j T h => (j < items.size ∧ T = Ts j) ∧ h.IsTupleIter I ax (j + 1) ∧ h.IsTuple ax items ∧ ∀ k, k < items.size → h.IsTuple (Ts k) (vals k)) where
  sub := fun b hb => by simp at hb; simp [hb]
  frame := fun _ _ _ st hk => ⟨st.1.at fun o e => hk I (by simp) o e, st.2.1.at fun o e => hk ax (by simp) o e,
    fun k hk' => (st.2.2 k hk').at fun o e => hk (Ts k) (List.mem_cons_of_mem _ (List.mem_cons_of_mem _ (List.mem_map.mpr ⟨k, List.mem_range.mpr hk', rfl⟩))) o e⟩
  item := fun i s Q E hi st hQ => by
    refine wpAny_pyNext_tuple_item st.1 st.2.1 (x := .ref (Ts i)) (hit i hi) fun h' hit' hs' => ?_
    have tup : ∀ k, k < items.size → h'.IsTuple (Ts k) (vals k) := fun k hk' => (st.2.2 k hk').extBut hs'.extBut (hTI k hk')
    exact hQ (Ts i) (vals i) h' s.toks rfl (tup i hi) ⟨⟨hi, rfl⟩, hit', st.2.1.extBut hs'.extBut hne, tup⟩ fun b o hb e => hs'.extBut b o (fun h => hb (by simp [h])) e
  go := fun _ _ _ _ _ s Q _ hm hQ => letGo_tupiter hm.2.1 (hQ s.heap hm.2 fun _ _ _ e => e)
  apart := fun j T _ hm hmem => by
    rcases List.mem_cons.mp hmem with e | e
    · exact hTI j hm.1.1 (hm.1.2 ▸ e)
    · cases e
  done := fun s Q E st hQ => wpAny_pyNext_tuple_end hh st.1 st.2.1 (by simp) fun h' he' => hQ h' s.toks fun b o hb e => he' b o (fun h => hb (by simp [h])) e
  self := fun _ _ _ _ st hQ => wpAny_pyIter_tupleiter st.1 hQ
/-- the scope of the expression: two names -/
structure GenS2 (env : Env) (scope : Scope) (xa xb : Str) : Prop where
  kind : scope.kind = .function
  co : scope.isCoroutine = false
  cell : ∀ y ∈ scope.names, y.2 ≠ .cell
  dot : scope.names.lookup (".0" : Str) = some NameKind.local
  la : scope.names.lookup xa = some .local
  lb : scope.names.lookup xb = some .local
  ne : xa ≠ xb
  free : ∀ y ∈ scope.names, y.2 = .free → ∃ c, env.cells.lookup y.1 = some c
/-- each a pair, its second part -/
def Prs (K : PySem.W.Frag) (H : Hp) (ps : List Addr) (bs : List V) : Prop := ps.length = bs.length ∧ ∀ (i : Nat) (p : Addr), ps[i]? = some p → ∃ a b, bs[i]? = some b ∧ SqT K H p [a, b]
theorem vals_of {bs : List V} {us : List Value} (hl : bs.length = us.length) (h : ∀ (i : Nat) b u, bs[i]? = some b → us[i]? = some u → RelV b u) : Vals bs us := by
  induction bs generalizing us with
  | nil =>
    cases us with
    | nil => exact .nil
    | cons u r => cases hl
  | cons b r ih =>
    cases us with
    | nil => cases hl
    | cons u q => exact .cons (h 0 b u rfl rfl) (ih (by simpa using hl) fun i b' u' e1 e2 => h (i + 1) b' u' (by simpa using e1) (by simpa using e2))
section
variable {X : Cx} {pins : List (Addr × Obj)} {σ : L2.St} {H : Hp} {s : Shared}
def ReadyP (X : Cx) (pins : List (Addr × Obj)) (σ : L2.St) (H1 : Hp) (P : Addr) (bs : List V) (g : Addr) (s5 : Shared) : Prop :=
  ∃ (fp wr : List Addr) (G : Array GenState → Array GenState → Prop) (F : Nat → Value → Prop) (St : Nat → Shared → Prop),
    WalksS X.prog X.w X.A.in1.in1.in1 g fp wr G bs.length F St ∧ St 0 s5 ∧ (∀ b ∈ fp, b < s5.heap.objs.size) ∧ g ∈ fp ∧ (∀ i s9, St i s9 → s9.TypeIs (.ref g) "generator") ∧
    (∀ j v, F j v → ∃ b, bs[j]? = some b ∧ RelV b v) ∧
    ∀ s', Moved wr G s5 s' → ∃ H2, GxR.Tabbed P H1 H2 ∧ Inv X pins σ H2 s'
theorem gen_prs {c P : Addr} {iter : Expr} {xa xb : Str} {pa pb pt pe gpos : Pos} {kt : Nat} {scope : Scope} {te : TE} {k : Nat} {Q' : Value → Shared → Prop} {R : List V → Hp → Prop}
    (hr : Room k X.A) (TB : GxR.TabB X.base X.mg c P) (hcode : X.env.code = .ref c) (S : GenS2 X.env scope xa xb) (hi : PE X iter te) (hdb : (xb == ("__debug__" : Str)) = false)
    (hs : ∀ v, genFold iter X.env v = pure v) (I : Inv X pins σ H s) (h : te σ H fun v H1 => ∃ (yl : Addr) (ps : List Addr) (bs : List V), v = .ref yl ∧ SqT X.K H1 yl (ps.map V.ref) ∧ Prs X.K H1 ps bs ∧ GxR.TabG H1 P ∧ R bs H1)
    (hQ : ∀ bs H1 g s5, R bs H1 → ReadyP X pins σ H1 P bs g s5 → Q' (.ref g) s5) :
    wpAny (model X.prog X.w) X.A (eval (.GeneratorExp (.Name xb pe) [⟨.Tuple [.Name xa pa, .Name xb pb] kt pt, iter, [], 0⟩] scope gpos) X.env) Q' X.xe s := by
  refine wpAny_GeneratorExp_walksQT hr.hd S.co (closure_ok S.free) S.cell S.dot S.la S.lb S.ne S.kind (by have := hr.dp; omega) ?_ hs
  refine thn (hi.run pins s σ H _ I h) fun xv s1 ⟨v, H1, I1, r1, q1⟩ => ?_
  obtain ⟨yl, ps, bs, rfl, hyl, ⟨hpl, hpr⟩, ⟨pts, hP, ht⟩, q1⟩ := q1
  obtain rfl : xv = Value.ref yl := r1
  obtain ⟨its, rv, hIT, hz⟩ := I1.tuple hyl
  have hlen : its.length = bs.length := by rw [← rv.length, List.length_map, hpl]
  -- the items
  have hx : ∀ i : Nat, ∃ z : Addr × Value × Value, i < its.length → its[i]? = some (.ref z.1) ∧ s1.heap.IsTuple z.1 #[z.2.1, z.2.2] ∧ ∃ b, bs[i]? = some b ∧ RelV b z.2.2 := fun i => by
    by_cases hi2 : i < its.length
    · obtain ⟨p, hp⟩ : ∃ p, ps[i]? = some p := ⟨ps[i]'(by omega), List.getElem?_eq_getElem _⟩
      have hb : (ps.map V.ref)[i]? = some (V.ref p) := by rw [List.getElem?_map, hp] <;> rfl
      obtain ⟨u, hu, ru⟩ := rv.get hb
      cases ru
      obtain ⟨a, b, hb2, hq⟩ := hpr i p hp
      obtain ⟨us, r2, t2, _⟩ := I1.tuple hq
      obtain ⟨u1, u2, rfl, ra, rb⟩ := Vals.two r2
      exact ⟨(p, u1, u2), fun _ => ⟨hu, t2, b, hb2, rb⟩⟩
    · exact ⟨(0, .none, .none), fun z => absurd z hi2⟩
  have hx2 := fun i => Classical.choose_spec (hx i)
  generalize hf : (fun i => Classical.choose (hx i)) = f at hx2
  have hx3 : ∀ i, i < its.length → its[i]? = some (.ref (f i).1) ∧ s1.heap.IsTuple (f i).1 #[(f i).2.1, (f i).2.2] ∧ ∃ b, bs[i]? = some b ∧ RelV b (f i).2.2 := fun i hi2 => by
    have := hx2 i hi2
    rw [← hf]
    exact this
  clear hx2 hf hx
  refine wpAny_pyIter_tuple hIT ?_
  generalize ho : ({ cls := .type "tuple_iterator", data := .fields #[.ref yl, .int 0 0] } : Obj) = o
  have hitr : (s1.heap.push o).IsTupleIter s1.heap.objs.size yl 0 := by
    subst ho
    exact ⟨_, Heap.get?_push_size _ rfl, rfl, rfl⟩
  have hylt : yl < s1.heap.objs.size := by
    obtain ⟨_, e, _⟩ := _root_.id hIT
    exact Heap.lt_size e
  have hTlt : ∀ i, i < its.length → (f i).1 < s1.heap.objs.size := fun i hi2 => by
    obtain ⟨_, ⟨_, e, _⟩, _⟩ := hx3 i hi2
    exact Heap.lt_size e
  have hPs : s1.heap.get? P = some { cls := .none, data := .fields pts } := I1.hok P _ hP
  have hPlt : P < s1.heap.objs.size := Heap.lt_size hPs
  have hP2 : (s1.heap.push o).get? P = some { cls := .none, data := .fields pts } := Heap.get?_push_of_some _ hPs
  have cd : PySem.W.CodeHd (s1.heap.push o) c P := TB.code.keeps fun b u e => Heap.get?_push_of_some _ (I1.bk b u e)
  have lim2 : (s1.heap.push o).NoLimit := I1.nolimit.push o
  have cont : ∀ (code : Value) (h3 : Heap) (tk : Nat) (ps' : Array Value), Heap.ExtBut P (s1.heap.push o) h3 → (s1.heap.push o).objs.size ≤ h3.objs.size → h3.get? P = some { cls := .none, data := .fields ps' } → (∃ more, ps' = pts ++ more) → TriplesOk ps'.toList →
      wpAny (model X.prog X.w) X.A (builtinsFor X.env.globals X.env.builtins) (fun bi s₄ =>
        ∃ Ia fp wr n₀ Pt St₀ Mid pz F, Value.ref s1.heap.objs.size = .ref Ia ∧ (∀ A' : Around, A'.handled = none → WalksU X.prog X.w A' Ia fp wr n₀ Pt St₀ Mid) ∧ (∀ i vals, Pt i vals → ∃ va vb, vals = #[va, vb]) ∧ St₀ 0 s₄.heap ∧ (∀ b ∈ fp, b < s₄.heap.objs.size) ∧ s₄.heap.NoLimit ∧ cStatics ∉ wr ∧
          (∀ href : Heap, (∀ b o, s₄.heap.get? b = some o → href.get? b = some o) →
            QuietGenT X.prog X.w (genEnv scope (cloFrom X.env.cells scope.names []) s₄.heap.objs.size code bi X.env) xa xb [] (.Name xb pe) (List.range s₄.heap.objs.size) wr Pt pz F href) ∧
          (∀ a h₅ tk gs, gs.bare = true → s₄.heap.objs.size < a → h₅.objs.size = a + 1 → (∀ b o, s₄.heap.get? b = some o → h₅.get? b = some o) →
            WalksS X.prog X.w X.A.in4 a (a :: s₄.heap.objs.size :: List.range s₄.heap.objs.size) (s₄.heap.objs.size :: wr) (GenOnlyQ s₄.gens.size) (passing pz n₀ 0).length
              (fun j y => ∃ i, (passing pz n₀ 0)[j]? = some i ∧ F i y) (GenAt X.prog X.w X.A.in4 a s₄.gens.size s₄.heap.objs.size (List.range s₄.heap.objs.size) wr pz n₀ F) →
            GenAt X.prog X.w X.A.in4 a s₄.gens.size s₄.heap.objs.size (List.range s₄.heap.objs.size) wr pz n₀ F 0 { s₄ with gens := s₄.gens.push gs, toks := tk, heap := h₅ } →
            Q' (.ref a) { s₄ with gens := s₄.gens.push gs, toks := tk, heap := h₅ })) X.xe { s1 with heap := h3, toks := tk } := by
    intro code h3 tk ps' hx hsz hP3 hmore ht3
    obtain ⟨bm, ob, e1, e2, e3, e4, e5, e6, e7, e8⟩ := TB.bm
    have hcP : cStatics ≠ P := fun e => by
      obtain ⟨_, hns, _⟩ := I1.nolimit
      obtain ⟨o', es, ep, ho, hd, _⟩ := hns
      rw [e, hPs] at ho
      cases ho
      cases hd
    have hcl : cStatics < s1.heap.objs.size := let ⟨_, hns, _⟩ := I1.nolimit; hns.lt
    have sz2 : (s1.heap.push o).objs.size = s1.heap.objs.size + 1 := Heap.size_push ..
    have keep3 : ∀ b u, b ≠ P → s1.heap.get? b = some u → h3.get? b = some u := fun b u hb e => hx b u hb (Heap.get?_push_of_some _ e)
    refine wpAny_builtinsFor (m := X.mg) (by rw [I1.ok.glob]; exact ((I1.mod.glob.keeps I1.bk).push o).extBut hx TB.gP) e1 e2 (keep3 _ _ e4 (I1.bk _ _ e5)) e6 e7 e8 ?_
    have tupP : ∀ {t : Addr} {xs : Array Value}, s1.heap.IsTuple t xs → t ≠ P := fun {t xs} ht z => by
      obtain ⟨_, e, hc1, n, hd1⟩ := ht
      rw [z, hPs] at e
      cases e
      cases hd1
    have tup3 : ∀ {t : Addr} {xs : Array Value}, s1.heap.IsTuple t xs → h3.IsTuple t xs := fun {t xs} ht => ht.at fun u e => keep3 _ _ (tupP ht) e
    have hItr3 : h3.IsTupleIter s1.heap.objs.size yl 0 := hitr.at fun u e => hx _ u (Nat.ne_of_gt hPlt) e
    have hsi : its.toArray.size = its.length := List.size_toArray ..
    refine ⟨s1.heap.objs.size, s1.heap.objs.size :: yl :: (List.range its.toArray.size).map (fun i => (f i).1), [s1.heap.objs.size], its.toArray.size, (fun i v => i < its.toArray.size ∧ v = #[(f i).2.1, (f i).2.2]), _, _, (fun _ => true),
      (fun i y => ∃ b, bs[i]? = some b ∧ RelV b y), rfl, (fun A' hA => (tupOfTuples hA s1.heap.objs.size yl (Nat.ne_of_lt hylt) its.toArray (fun i => (f i).1) (fun i => #[(f i).2.1, (f i).2.2]) (fun j hj => ?_) (fun j hj => ?_)).bound), ?_, ⟨hItr3, tup3 hIT, fun k hk => tup3 (hx3 k (by omega)).2.1⟩, ?_, lim2.extBut hx hcP, ?_, ?_, ?_⟩
    · rw [List.getElem?_toArray]
      exact (hx3 j (by omega)).1
    · exact Nat.ne_of_lt (hTlt j (by omega))
    · intro i vals hv
      exact ⟨_, _, hv.2⟩
    · intro b hb
      have e9 : s1.heap.objs.size + 1 ≤ h3.objs.size := by omega
      rcases List.mem_cons.mp hb with z | z
      · rw [z]
        exact e9
      · rcases List.mem_cons.mp z with z | z
        · rw [z]
          exact Nat.lt_of_lt_of_le hylt (Nat.le_of_succ_le e9)
        · obtain ⟨i, hi2, e⟩ := List.mem_map.mp z
          have := List.mem_range.mp hi2
          rw [← e]
          exact Nat.lt_of_lt_of_le (hTlt i (by omega)) (Nat.le_of_succ_le e9)
    · intro z
      rcases List.mem_cons.mp z with z | z
      · exact Nat.ne_of_lt hcl z
      · cases z
    · intro href hhref
      refine ⟨fun A' E' i va vb s₂ m₂ hA hPv hn hma hmb hk => ?_, fun A' E' i va vb s₂ m₂ hA hPv hp hn hma hmb hk => ?_⟩
      · simp only [List.forIn_nil]
        exact wpAny_pure ⟨rfl, GxR.keeps_refl _⟩
      · obtain ⟨hi2, hv⟩ := hPv
        obtain ⟨_, _, b, hb2, rb⟩ := hx3 i (by omega)
        have ev : vb = (f i).2.2 := by
          have e0 := congrArg (fun z : Array Value => z[1]?) hv
          exact Option.some.inj e0
        refine wpAny_Name (wpAny_loadName_local S.kind S.lb hn hmb ?_) hdb
        rw [ev]
        exact ⟨⟨b, hb2, rb⟩, GxR.keeps_refl _⟩
    · intro g h5 tk5 gs hgb hag hsz5 hk5 W5 hgat
      simp only [GxR.passing_true, List.length_range] at W5
      have hn5 : its.toArray.size = bs.length := by rw [hsi, hlen]
      rw [hn5] at W5 hgat
      refine hQ bs H1 g _ q1 ⟨_, _, _, _, _, W5.in4_3, hgat, ?_, List.mem_cons_self, fun i s9 h9 => ?_, ?_, fun s' hm => ?_⟩
      · intro b hb
        show b < h5.objs.size
        have e5 : h5.objs.size = g + 1 := hsz5
        have h8 : h3.objs.size < g := hag
        rw [e5]
        rcases List.mem_cons.mp hb with z | z
        · rw [z]
          exact Nat.lt_succ_self g
        · rcases List.mem_cons.mp z with z | z
          · rw [z]
            exact Nat.lt_succ_of_lt h8
          · have z2 := List.mem_range.mp z
            have h7 : b < h3.objs.size := z2
            exact Nat.lt_succ_of_lt (Nat.lt_trans h7 h8)
      · obtain ⟨hg9, _⟩ := h9
        exact hg9.typeIs
      · intro j v hv
        obtain ⟨i, hij, b, hb2, rb⟩ := hv
        obtain ⟨hj, ej⟩ := List.getElem?_eq_some_iff.mp hij
        rw [List.getElem_range] at ej
        subst ej
        exact ⟨b, hb2, rb⟩
      · obtain ⟨more, em⟩ := hmore
        have nwr : ∀ b u, s1.heap.get? b = some u → b ∉ h3.objs.size :: [s1.heap.objs.size] := fun b u e hb => by
          have hl := Heap.lt_size e
          rcases List.mem_cons.mp hb with z | z
          · rw [z] at hl
            have h9 : (h3.objs.size : Nat) < s1.heap.objs.size := hl
            omega
          · rcases List.mem_cons.mp z with z | z
            · rw [z] at hl
              exact Nat.lt_irrefl _ hl
            · cases z
        have J := GxR.inv_tab (more := more) (h' := s'.heap) (g' := s'.gens) (d' := s'.drawn) (t' := s'.toks) I1 hP (fun b u hb e => hm.heap b u (nwr b u e) (hk5 b u (keep3 b u hb e)))
          (by rw [← em]; exact hm.heap P _ (nwr P _ hPs) (hk5 P _ hP3)) (AllBare.movedS (I1.bare.push hgb) hm)
        rw [GxR.sh_eta s1 s' hm.os] at J
        refine ⟨upd H1 P (.tbl (pts ++ more)), ⟨⟨pts ++ more, upd_same, by rw [← em]; exact ht3⟩, fun b hb => upd_ne hb⟩, J⟩
  refine ⟨lim2, ?_⟩
  cases hf : codeAmong gpos pts.toList with
  | none =>
    refine wpAny_genexprCodeX hcode (cd.code hP2 ht) (cd.tab hP2) hf fun c' h' tk hx hge hlt hco' _ htab' _ => ?_
    obtain ⟨o1, vs, f1, tf, fl, tg, inF, tx, tt, op, _, _, _, _, _, _, _, _, _, htr, _⟩ := hco'
    exact cont _ h' tk _ hx (Nat.le_trans hge (Nat.le_of_lt hlt)) htab'.2 ⟨_, rfl⟩ htr
  | some cv =>
    refine wpAny_genexprCode_hit hcode (cd.code hP2 ht) hf ?_
    exact cont cv (s1.heap.push o) s1.toks pts (Heap.ExtBut.refl _ _) (Nat.le_refl _) hP2 ⟨#[], by simp⟩ ht
def tTupG (K : PySem.W.Frag) (P : Addr) (te : TE) : TE := fun σ H Q => te σ H fun v H1 => ∃ (yl : Addr) (ps : List Addr) (bs : List V), v = .ref yl ∧ SqT K H1 yl (ps.map V.ref) ∧ Prs K H1 ps bs ∧ GxR.TabG H1 P ∧ bs.length ≤ sizeLine ∧
  ∀ H2 q, GxR.Tabbed P H1 H2 → H2 q = none → Q (.ref q) (upd H2 q (.tup bs))
theorem pe_tupG {c P : Addr} {iter : Expr} {xa xb : Str} {p pa pb pt pe pos gpos : Pos} {kt : Nat} {scope : Scope} {te : TE} {k : Nat}
    (hr : Room k X.A) (hg : Gl X "tuple") (hm : X.mg "tuple" = none) (hv : bootBuiltins "tuple" = some (.type "tuple")) (TB : GxR.TabB X.base X.mg c P) (hcode : X.env.code = .ref c) (S : GenS2 X.env scope xa xb) (hi : PE X iter te)
    (hs : ∀ v, genFold iter X.env v = pure v) (hdb : (xb == ("__debug__" : Str)) = false := by decide)
    (he : starEach [.GeneratorExp (.Name xb pe) [⟨.Tuple [.Name xa pa, .Name xb pb] kt pt, iter, [], 0⟩] scope gpos] X.env = (false, eval (.GeneratorExp (.Name xb pe) [⟨.Tuple [.Name xa pa, .Name xb pb] kt pt, iter, [], 0⟩] scope gpos) X.env) :: starEach [] X.env := by rfl) :
    PE X (.Call (.Name "tuple" p) [.GeneratorExp (.Name xb pe) [⟨.Tuple [.Name xa pa, .Name xb pb] kt pt, iter, [], 0⟩] scope gpos] [] pos) (tTupG X.K P te) := by
  refine ⟨fun pins s σ H Q I h => ?_⟩
  refine wpAny_Call_Name_kw (ld_blt I hg hm hv ?_)
  refine PyProof.Rows.callWith_type1 ?_ he (by rfl)
  rw [he]
  show wpAny _ _ (spliced ((false, eval (.GeneratorExp (.Name xb pe) [⟨.Tuple [.Name xa pa, .Name xb pb] kt pt, iter, [], 0⟩] scope gpos) X.env) :: backTo pos (starEach [] X.env))) _ _ s
  refine Calls.spliced_cons (gen_prs (R := fun bs H1 => bs.length ≤ sizeLine ∧ ∀ H2 q, GxR.Tabbed P H1 H2 → H2 q = none → Q (.ref q) (upd H2 q (.tup bs))) hr TB hcode S hi hdb hs I h fun bs H1 g s5 hR hG => ?_)
  refine Calls.spliced_nil ?_
  obtain ⟨fp, wr, G, F, St, W, hst, hfp, hgm, hT, hval, hinv⟩ := hG
  obtain ⟨hz, hR⟩ := hR
  refine call_tuple_gen (hsz := hz) W hT hst hfp hgm fun s' acc hm hacc => ?_
  obtain ⟨H2, ht, J⟩ := hinv s' hm
  have hva : Vals bs acc.toList := vals_of (hacc.1.symm.trans (Array.length_toList (xs := acc)).symm) fun i b u e1 e2 => by
    obtain ⟨b', e3, r⟩ := hval i u (hacc.2 i u (by rw [← Array.getElem?_toList]; exact e2))
    rw [e1] at e3
    cases e3
    exact r
  have J2 : Inv X pins σ (upd H2 s'.heap.objs.size (.tup bs)) { s' with heap := s'.heap.push { cls := .type "tuple", data := .seq acc } } :=
    J.laid (t' := s'.toks) (fun b o e => Heap.get?_push_of_some _ e) (Nat.le_refl _) (show ObjOk X.prog X.w _ _ _ (.tup bs) from ⟨hz, acc.toList, hva, by simpa using IsTup.new s'.heap acc⟩)
  exact ⟨.ref s'.heap.objs.size, _, J2, rfl, hR _ _ ht (J.hok.fresh (Nat.le_refl _))⟩
end
end GT
/-! ### tuple(elt for x in rows): rows a tuple, elt reads x and names from outside -/
namespace GT
open PySem PySem.Spec PyProof.Rows L2
section
variable {X : Cx} {pins : List (Addr × Obj)} {σ : L2.St} {H : Hp} {s : Shared}
/-- what the element gives: of each of xs the one of bs at its place; nothing else is changed -/
def EltG (X : Cx) (σ : L2.St) (P : Addr) (x : Str) (scope : Scope) (elt : Expr) (H1 : Hp) (xs bs : List V) : Prop := ∀ (pins : List (Addr × Obj)) (s1 : Shared), Inv X pins σ H1 s1 →
  ∀ (L : Addr) (code : Value) (bi : Addr) (A' : Around) (E' : Value → Shared → Prop) (i : Nat) (x0 : V) (v : Value) (s2 : Shared) (m2 : Str → Option Value), xs[i]? = some x0 → RelV x0 v → s2.heap.Ns L m2 → m2 x = some v →
    (∀ b o, b ≠ P → s1.heap.get? b = some o → s2.heap.get? b = some o) →
    wpAny (model X.prog X.w) A' (eval elt (genEnv scope (cloFrom X.env.cells scope.names []) L code bi X.env)) (fun y s3 => (∃ b, bs[i]? = some b ∧ RelV b y) ∧ Keeps s2 s3) E' s2
theorem gen_one {c P : Addr} {elt iter : Expr} {x : Str} {px gpos : Pos} {scope : Scope} {te : TE} {k : Nat} {Q' : Value → Shared → Prop} {R : List V → Hp → Prop}
    (hr : Room k X.A) (TB : GxR.TabB X.base X.mg c P) (hcode : X.env.code = .ref c) (S : GxR.GenS X.env scope x) (hi : PE X iter te)
    (hs : ∀ v, genFold iter X.env v = pure v) (I : Inv X pins σ H s) (h : te σ H fun v H1 => ∃ (yl : Addr) (xs bs : List V), v = .ref yl ∧ SqT X.K H1 yl xs ∧ xs.length = bs.length ∧ EltG X σ P x scope elt H1 xs bs ∧ GxR.TabG H1 P ∧ R bs H1)
    (hQ : ∀ bs H1 g s5, R bs H1 → ReadyP X pins σ H1 P bs g s5 → Q' (.ref g) s5) :
    wpAny (model X.prog X.w) X.A (eval (.GeneratorExp elt [⟨.Name x px, iter, [], 0⟩] scope gpos) X.env) Q' X.xe s := by
  refine wpAny_GeneratorExp_walksQ hr.hd S.co (closure_ok S.free) S.cell S.dot S.loc S.kind (by have := hr.dp; omega) ?_ hs
  refine thn (hi.run pins s σ H _ I h) fun xv s1 ⟨v, H1, I1, r1, q1⟩ => ?_
  obtain ⟨yl, xs, bs, rfl, hyl, hpl, hel, ⟨pts, hP, ht⟩, q1⟩ := q1
  obtain rfl : xv = Value.ref yl := r1
  obtain ⟨its, rv, hIT, hz⟩ := I1.tuple hyl
  have hlen : its.length = bs.length := by rw [← rv.length, hpl]
  have hat : ∀ (i : Nat) (v : Value), its.toArray[i]? = some v → ∃ x0, xs[i]? = some x0 ∧ RelV x0 v := fun i v hv => by
    have hv2 : its[i]? = some v := by simpa using hv
    have hi2 : i < its.length := (List.getElem?_eq_some_iff.mp hv2).1
    obtain ⟨x0, h0⟩ : ∃ x0, xs[i]? = some x0 := ⟨xs[i]'(by omega), List.getElem?_eq_getElem _⟩
    obtain ⟨u, hu, ru⟩ := rv.get h0
    rw [hv2] at hu
    cases hu
    exact ⟨x0, h0, ru⟩
  refine wpAny_pyIter_tuple hIT ?_
  generalize ho : ({ cls := .type "tuple_iterator", data := .fields #[.ref yl, .int 0 0] } : Obj) = o
  have hitr : (s1.heap.push o).IsTupleIter s1.heap.objs.size yl 0 := by
    subst ho
    exact ⟨_, Heap.get?_push_size _ rfl, rfl, rfl⟩
  have hylt : yl < s1.heap.objs.size := by
    obtain ⟨_, e, _⟩ := _root_.id hIT
    exact Heap.lt_size e
  have hPs : s1.heap.get? P = some { cls := .none, data := .fields pts } := I1.hok P _ hP
  have hPlt : P < s1.heap.objs.size := Heap.lt_size hPs
  have hP2 : (s1.heap.push o).get? P = some { cls := .none, data := .fields pts } := Heap.get?_push_of_some _ hPs
  have cd : PySem.W.CodeHd (s1.heap.push o) c P := TB.code.keeps fun b u e => Heap.get?_push_of_some _ (I1.bk b u e)
  have lim2 : (s1.heap.push o).NoLimit := I1.nolimit.push o
  have cont : ∀ (code : Value) (h3 : Heap) (tk : Nat) (ps' : Array Value), Heap.ExtBut P (s1.heap.push o) h3 → (s1.heap.push o).objs.size ≤ h3.objs.size → h3.get? P = some { cls := .none, data := .fields ps' } → (∃ more, ps' = pts ++ more) → TriplesOk ps'.toList →
      wpAny (model X.prog X.w) X.A (builtinsFor X.env.globals X.env.builtins) (fun bi s₄ =>
        ∃ Ia fp wr n₀ Pf St₀ pz F, Value.ref s1.heap.objs.size = .ref Ia ∧ (∀ A' : Around, A'.handled = none → Walks X.prog X.w A' Ia fp wr n₀ Pf St₀) ∧ St₀ 0 s₄.heap ∧ (∀ b ∈ fp, b < s₄.heap.objs.size) ∧ s₄.heap.NoLimit ∧ cStatics ∉ wr ∧
          (∀ href : Heap, (∀ b o, s₄.heap.get? b = some o → href.get? b = some o) →
            QuietGen X.prog X.w (genEnv scope (cloFrom X.env.cells scope.names []) s₄.heap.objs.size code bi X.env) x [] elt (List.range s₄.heap.objs.size) wr Pf pz F href) ∧
          (∀ a h₅ tk gs, gs.bare = true → s₄.heap.objs.size < a → h₅.objs.size = a + 1 → (∀ b o, s₄.heap.get? b = some o → h₅.get? b = some o) →
            WalksS X.prog X.w X.A.in4 a (a :: s₄.heap.objs.size :: List.range s₄.heap.objs.size) (s₄.heap.objs.size :: wr) (GenOnlyQ s₄.gens.size) (passing pz n₀ 0).length
              (fun j y => ∃ i, (passing pz n₀ 0)[j]? = some i ∧ F i y) (GenAt X.prog X.w X.A.in4 a s₄.gens.size s₄.heap.objs.size (List.range s₄.heap.objs.size) wr pz n₀ F) →
            GenAt X.prog X.w X.A.in4 a s₄.gens.size s₄.heap.objs.size (List.range s₄.heap.objs.size) wr pz n₀ F 0 { s₄ with gens := s₄.gens.push gs, toks := tk, heap := h₅ } →
            Q' (.ref a) { s₄ with gens := s₄.gens.push gs, toks := tk, heap := h₅ })) X.xe { s1 with heap := h3, toks := tk } := by
    intro code h3 tk ps' hx hsz hP3 hmore ht3
    obtain ⟨bm, ob, e1, e2, e3, e4, e5, e6, e7, e8⟩ := TB.bm
    have hcP : cStatics ≠ P := fun e => by
      obtain ⟨_, hns, _⟩ := I1.nolimit
      obtain ⟨o', es, ep, ho, hd, _⟩ := hns
      rw [e, hPs] at ho
      cases ho
      cases hd
    have hcl : cStatics < s1.heap.objs.size := let ⟨_, hns, _⟩ := I1.nolimit; hns.lt
    have sz2 : (s1.heap.push o).objs.size = s1.heap.objs.size + 1 := Heap.size_push ..
    have keep3 : ∀ b u, b ≠ P → s1.heap.get? b = some u → h3.get? b = some u := fun b u hb e => hx b u hb (Heap.get?_push_of_some _ e)
    refine wpAny_builtinsFor (m := X.mg) (by rw [I1.ok.glob]; exact ((I1.mod.glob.keeps I1.bk).push o).extBut hx TB.gP) e1 e2 (keep3 _ _ e4 (I1.bk _ _ e5)) e6 e7 e8 ?_
    have tupP : ∀ {t : Addr} {xs : Array Value}, s1.heap.IsTuple t xs → t ≠ P := fun {t xs} ht z => by
      obtain ⟨_, e, hc1, n, hd1⟩ := ht
      rw [z, hPs] at e
      cases e
      cases hd1
    have tup3 : ∀ {t : Addr} {xs : Array Value}, s1.heap.IsTuple t xs → h3.IsTuple t xs := fun {t xs} ht => ht.at fun u e => keep3 _ _ (tupP ht) e
    have hItr3 : h3.IsTupleIter s1.heap.objs.size yl 0 := hitr.at fun u e => hx _ u (Nat.ne_of_gt hPlt) e
    have hsi : its.toArray.size = its.length := List.size_toArray ..
    refine ⟨s1.heap.objs.size, [s1.heap.objs.size, yl], [s1.heap.objs.size], its.toArray.size, (fun i v => its.toArray[i]? = some v), (fun i h => h.IsTupleIter s1.heap.objs.size yl i ∧ h.IsTuple yl its.toArray), (fun _ => true),
      (fun i y => ∃ b, bs[i]? = some b ∧ RelV b y), rfl, (fun A' hA => Walks.tuple hA _ _ (Nat.ne_of_lt hylt) _), ⟨hItr3, tup3 hIT⟩, ?_, lim2.extBut hx hcP, ?_, ?_, ?_⟩
    · intro b hb
      have e9 : s1.heap.objs.size + 1 ≤ h3.objs.size := by omega
      rcases List.mem_cons.mp hb with z | z
      · rw [z]
        exact e9
      · rcases List.mem_cons.mp z with z | z
        · rw [z]
          exact Nat.lt_of_lt_of_le hylt (Nat.le_of_succ_le e9)
        · cases z
    · intro z
      rcases List.mem_cons.mp z with z | z
      · exact Nat.ne_of_lt hcl z
      · cases z
    · intro href hhref
      refine ⟨fun A' E' i v s₂ m₂ hA hPv hn hm hk => ?_, fun A' E' i v s₂ m₂ hA hPv hp hn hm hk => ?_⟩
      · simp only [List.forIn_nil]
        exact wpAny_pure ⟨rfl, GxR.keeps_refl _⟩
      · obtain ⟨x0, h0, ru⟩ := hat i v hPv
        refine hel pins s1 I1 _ code _ A' E' i x0 v s₂ m₂ h0 ru hn hm fun b o hb e => ?_
        have hl := Heap.lt_size e
        have h9 : b < h3.objs.size := by
          have : s1.heap.objs.size ≤ h3.objs.size := by omega
          exact Nat.lt_of_lt_of_le hl this
        refine hk b (List.mem_range.mpr h9) (fun z => ?_) o (hhref b o (keep3 b o hb e))
        rcases List.mem_cons.mp z with z | z
        · rw [z] at hl
          exact Nat.lt_irrefl _ hl
        · cases z
    · intro g h5 tk5 gs hgb hag hsz5 hk5 W5 hgat
      simp only [GxR.passing_true, List.length_range] at W5
      have hn5 : its.toArray.size = bs.length := by rw [hsi, hlen]
      rw [hn5] at W5 hgat
      refine hQ bs H1 g _ q1 ⟨_, _, _, _, _, W5.in4_3, hgat, ?_, List.mem_cons_self, fun i s9 h9 => ?_, ?_, fun s' hm => ?_⟩
      · intro b hb
        show b < h5.objs.size
        have e5 : h5.objs.size = g + 1 := hsz5
        have h8 : h3.objs.size < g := hag
        rw [e5]
        rcases List.mem_cons.mp hb with z | z
        · rw [z]
          exact Nat.lt_succ_self g
        · rcases List.mem_cons.mp z with z | z
          · rw [z]
            exact Nat.lt_succ_of_lt h8
          · have z2 := List.mem_range.mp z
            have h7 : b < h3.objs.size := z2
            exact Nat.lt_succ_of_lt (Nat.lt_trans h7 h8)
      · obtain ⟨hg9, _⟩ := h9
        exact hg9.typeIs
      · intro j v hv
        obtain ⟨i, hij, b, hb2, rb⟩ := hv
        obtain ⟨hj, ej⟩ := List.getElem?_eq_some_iff.mp hij
        rw [List.getElem_range] at ej
        subst ej
        exact ⟨b, hb2, rb⟩
      · obtain ⟨more, em⟩ := hmore
        have nwr : ∀ b u, s1.heap.get? b = some u → b ∉ h3.objs.size :: [s1.heap.objs.size] := fun b u e hb => by
          have hl := Heap.lt_size e
          rcases List.mem_cons.mp hb with z | z
          · rw [z] at hl
            have h9 : (h3.objs.size : Nat) < s1.heap.objs.size := hl
            omega
          · rcases List.mem_cons.mp z with z | z
            · rw [z] at hl
              exact Nat.lt_irrefl _ hl
            · cases z
        have J := GxR.inv_tab (more := more) (h' := s'.heap) (g' := s'.gens) (d' := s'.drawn) (t' := s'.toks) I1 hP (fun b u hb e => hm.heap b u (nwr b u e) (hk5 b u (keep3 b u hb e)))
          (by rw [← em]; exact hm.heap P _ (nwr P _ hPs) (hk5 P _ hP3)) (AllBare.movedS (I1.bare.push hgb) hm)
        rw [GxR.sh_eta s1 s' hm.os] at J
        refine ⟨upd H1 P (.tbl (pts ++ more)), ⟨⟨pts ++ more, upd_same, by rw [← em]; exact ht3⟩, fun b hb => upd_ne hb⟩, J⟩
  refine ⟨lim2, ?_⟩
  cases hf : codeAmong gpos pts.toList with
  | none =>
    refine wpAny_genexprCodeX hcode (cd.code hP2 ht) (cd.tab hP2) hf fun c' h' tk hx hge hlt hco' _ htab' _ => ?_
    obtain ⟨o1, vs, f1, tf, fl, tg, inF, tx, tt, op, _, _, _, _, _, _, _, _, _, htr, _⟩ := hco'
    exact cont _ h' tk _ hx (Nat.le_trans hge (Nat.le_of_lt hlt)) htab'.2 ⟨_, rfl⟩ htr
  | some cv =>
    refine wpAny_genexprCode_hit hcode (cd.code hP2 ht) hf ?_
    exact cont cv (s1.heap.push o) s1.toks pts (Heap.ExtBut.refl _ _) (Nat.le_refl _) hP2 ⟨#[], by simp⟩ ht
def tTup1 (X : Cx) (P : Addr) (x : Str) (scope : Scope) (elt : Expr) (te : TE) : TE := fun σ H Q => te σ H fun v H1 => ∃ (yl : Addr) (xs bs : List V), v = .ref yl ∧ SqT X.K H1 yl xs ∧ xs.length = bs.length ∧ EltG X σ P x scope elt H1 xs bs ∧ GxR.TabG H1 P ∧ bs.length ≤ sizeLine ∧
  ∀ H2 q, GxR.Tabbed P H1 H2 → H2 q = none → Q (.ref q) (upd H2 q (.tup bs))
theorem pe_tup1 {c P : Addr} {elt iter : Expr} {x : Str} {p px pos gpos : Pos} {scope : Scope} {te : TE} {k : Nat}
    (hr : Room k X.A) (hg : Gl X "tuple") (hm : X.mg "tuple" = none) (hv : bootBuiltins "tuple" = some (.type "tuple")) (TB : GxR.TabB X.base X.mg c P) (hcode : X.env.code = .ref c) (S : GxR.GenS X.env scope x) (hi : PE X iter te)
    (hs : ∀ v, genFold iter X.env v = pure v) 
    (he : starEach [.GeneratorExp elt [⟨.Name x px, iter, [], 0⟩] scope gpos] X.env = (false, eval (.GeneratorExp elt [⟨.Name x px, iter, [], 0⟩] scope gpos) X.env) :: starEach [] X.env := by rfl) :
    PE X (.Call (.Name "tuple" p) [.GeneratorExp elt [⟨.Name x px, iter, [], 0⟩] scope gpos] [] pos) (tTup1 X P x scope elt te) := by
  refine ⟨fun pins s σ H Q I h => ?_⟩
  refine wpAny_Call_Name_kw (ld_blt I hg hm hv ?_)
  refine PyProof.Rows.callWith_type1 ?_ he (by rfl)
  rw [he]
  show wpAny _ _ (spliced ((false, eval (.GeneratorExp elt [⟨.Name x px, iter, [], 0⟩] scope gpos) X.env) :: backTo pos (starEach [] X.env))) _ _ s
  refine Calls.spliced_cons (gen_one (R := fun bs H1 => bs.length ≤ sizeLine ∧ ∀ H2 q, GxR.Tabbed P H1 H2 → H2 q = none → Q (.ref q) (upd H2 q (.tup bs))) hr TB hcode S hi hs I h fun bs H1 g s5 hR hG => ?_)
  refine Calls.spliced_nil ?_
  obtain ⟨fp, wr, G, F, St, W, hst, hfp, hgm, hT, hval, hinv⟩ := hG
  obtain ⟨hz, hR⟩ := hR
  refine call_tuple_gen (hsz := hz) W hT hst hfp hgm fun s' acc hm hacc => ?_
  obtain ⟨H2, ht, J⟩ := hinv s' hm
  have hva : Vals bs acc.toList := vals_of (hacc.1.symm.trans (Array.length_toList (xs := acc)).symm) fun i b u e1 e2 => by
    obtain ⟨b', e3, r⟩ := hval i u (hacc.2 i u (by rw [← Array.getElem?_toList]; exact e2))
    rw [e1] at e3
    cases e3
    exact r
  have J2 : Inv X pins σ (upd H2 s'.heap.objs.size (.tup bs)) { s' with heap := s'.heap.push { cls := .type "tuple", data := .seq acc } } :=
    J.laid (t' := s'.toks) (fun b o e => Heap.get?_push_of_some _ e) (Nat.le_refl _) (show ObjOk X.prog X.w _ _ _ (.tup bs) from ⟨hz, acc.toList, hva, by simpa using IsTup.new s'.heap acc⟩)
  exact ⟨.ref s'.heap.objs.size, _, J2, rfl, hR _ _ ht (J.hok.fresh (Nat.le_refl _))⟩
end
end GT
/-! ### the element x[y]: y from outside, an int -/
namespace GT
open PySem PySem.Spec PyProof.Rows L2
theorem cell_at {h h' : Heap} {P c : Addr} {u : Value} {pts : Array Value} (hP : h.get? P = some { cls := .none, data := .fields pts }) (k : ∀ b o, b ≠ P → h.get? b = some o → h'.get? b = some o) (hc : h.IsCell c (some u)) : h'.IsCell c (some u) := by
  obtain ⟨o, ho, hd⟩ := hc
  refine ⟨o, k c o (fun e => ?_) ho, hd⟩
  rw [e, hP] at ho
  cases ho
  cases hd
/-- an int of outside, read within -/
theorem ld_out {X : Cx} {pins : List (Addr × Obj)} {σ : L2.St} {H1 : Hp} {s1 s2 : Shared} {P L : Addr} {pts : Array Value} {code : Value} {bi : Addr} {scope : Scope} {y : Str} {iy : Nat} {g : Int} {py : Pos} {A' : Around} {E' Q : Value → Shared → Prop}
    (I : Inv X pins σ H1 s1) (hP : H1 P = some (.tbl pts)) (hk : scope.kind = .function) (hly : scope.names.lookup y = some .free) (hyd : (y == ("__debug__" : Str)) = false) (hyc : (y == ("__classdict__" : Str)) = false)
    (hcl : ∀ c, X.env.cells.lookup y = some c → (cloFrom X.env.cells scope.names []).lookup y = some c) (hN : X.N[iy]? = some y) (hv : X.env.scope.names.lookup y = some .cell) (hσ : σ[iy]? = some (some (.int g)))
    (hk2 : ∀ b o, b ≠ P → s1.heap.get? b = some o → s2.heap.get? b = some o) (h : ∀ t, Q (.int g t) s2) : wpAny (model X.prog X.w) A' (eval (.Name y py) (genEnv scope (cloFrom X.env.cells scope.names []) L code bi X.env)) Q E' s2 := by
  obtain ⟨m, _, hl⟩ := I.loc
  obtain ⟨u, ru, lk⟩ := hl iy y (.int g) hN hσ (.inr (.inl hv))
  obtain ⟨t, rfl⟩ := ru
  rcases lk with ⟨e, _⟩ | ⟨_, c, hc, hcell⟩
  · have e2 : X.env.scope.names.lookup y = some .local := e
    rw [hv] at e2
    cases e2
  · have hc2 := cell_at (I.hok P _ hP) hk2 hcell
    have hl2 := hcl c hc
    generalize cloFrom X.env.cells scope.names [] = cl at *
    have e1 : (genEnv scope cl L code bi X.env).kindOf y = some .free := hly
    have e2 : (genEnv scope cl L code bi X.env).scope.kind = .function := hk
    have e3 : (genEnv scope cl L code bi X.env).cells.lookup y = some c := hl2
    exact wpAny_Name (wpAny_loadName_free e2 e1 e3 hc2 (h t) hyc) hyd
theorem elt_ix {X : Cx} {σ : L2.St} {P : Addr} {x y : Str} {iy : Nat} {g : Int} {scope : Scope} {H1 : Hp} {xs bs : List V} {pts : Array Value} {px py p3 : Pos} (hP : H1 P = some (.tbl pts))
    (hk : scope.kind = .function) (hlx : scope.names.lookup x = some .local) (hxd : (x == ("__debug__" : Str)) = false) (hly : scope.names.lookup y = some .free) (hyd : (y == ("__debug__" : Str)) = false) (hyc : (y == ("__classdict__" : Str)) = false)
    (hcl : ∀ c, X.env.cells.lookup y = some c → (cloFrom X.env.cells scope.names []).lookup y = some c) (hN : X.N[iy]? = some y) (hv : X.env.scope.names.lookup y = some .cell) (hσ : σ[iy]? = some (some (.int g)))
    (hpl : PlainIx (.Name y py)) (h : ∀ (i : Nat) (x0 : V), xs[i]? = some x0 → ∃ (t : Addr) (row : List V) (b : V), x0 = V.ref t ∧ SqT X.K H1 t row ∧ atI row g = some b ∧ bs[i]? = some b) : EltG X σ P x scope (.Subscript (.Name x px) (.Name y py) p3) H1 xs bs := by
  intro pins s1 I L code bi A' E' i x0 v s2 m2 h0 ru hn hm hk2
  obtain ⟨t, row, b, rfl, hT, hat, hb⟩ := h i x0 h0
  obtain rfl : v = Value.ref t := ru
  obtain ⟨its, rv, pl, hz⟩ := I.tuple hT
  have hPs := I.hok P _ hP
  have tP : t ≠ P := fun e => by
    obtain ⟨o, ho, hc, n, hd⟩ := pl
    rw [e, hPs] at ho
    cases ho
    cases hd
  have pl2 : IsTup s2.heap t its.toArray := by
    obtain ⟨o, ho, r⟩ := pl
    exact ⟨o, hk2 t o tP ho, r⟩
  refine Subscript_ (wpAny_Name (wpAny_loadName_local hk hlx hn hm ?_) hxd)
  refine ld_out I hP hk hly hyd hyc hcl hN hv hσ hk2 fun tk => ?_
  obtain ⟨j, h1, h2, h3, h4, h5⟩ := atI_get hat
  obtain ⟨w, ew, rw'⟩ := rv.get h2
  have hl := rv.length
  have hn63 := line63
  exact subscriptTail_builtinR (x := w) pl2.typeIs slot_tuple_getitem.lookup
    (getItem_tuple (j := j) (Q := fun r s' => r = w ∧ ((∃ b, bs[i]? = some b ∧ RelV b r) ∧ Keeps s2 s')) pl2 (by omega) (by omega) (by rw [List.size_toArray, ← hl]; exact h1) (by simpa using ew) ⟨rfl, ⟨b, hb, rw'⟩, GxR.keeps_refl _⟩) (hpl _ _)
end GT
namespace Mt
open PySem PySem.Spec PyProof.Rows L2
def topS (i : Nat) : Stmt := PySem.Challenge.pw_meantrace_k33_gauge_tallies.main.body.getD i (.Pass ⟨0, 0, 0, 0⟩)
abbrev s_tally_of : Stmt := topS 1
abbrev N_tally_of : List Str := ["values", "squares", "worth", "least", "greatest"]
theorem sc_tally_of : FnScope N_tally_of ["values"] (defScope s_tally_of) := ⟨rfl, rfl, rfl, by decide +kernel, rfl, by decide +kernel, by decide +kernel⟩
abbrev s_joined : Stmt := topS 2
abbrev N_joined : List Str := ["tally", "other", "sums", "at", "ends", "row", "least", "greatest"]
theorem sc_joined : FnScope N_joined ["tally", "other"] (defScope s_joined) := ⟨rfl, rfl, rfl, by decide +kernel, rfl, by decide +kernel, by decide +kernel⟩
abbrev s_gauge_tally : Stmt := topS 3
abbrev N_gauge_tally : List Str := ["frames", "gauge", "a", "b", "frame"]
theorem sc_gauge_tally : FnScope N_gauge_tally ["frames", "gauge", "a", "b"] (defScope s_gauge_tally) := ⟨rfl, rfl, rfl, by decide +kernel, rfl, by decide +kernel, by decide +kernel⟩
abbrev s__law_begin : Stmt := topS 5
abbrev N__law_begin : List Str := ["script", "cell"]
theorem sc__law_begin : FnScope N__law_begin ["script"] (defScope s__law_begin) := ⟨rfl, rfl, rfl, by decide +kernel, rfl, by decide +kernel, by decide +kernel⟩
abbrev s__law_draw : Stmt := topS 6
abbrev N__law_draw : List Str := ["d", "many", "found", "size", "cell"]
theorem sc__law_draw : FnScope N__law_draw ["d", "many"] (defScope s__law_draw) := ⟨rfl, rfl, rfl, by decide +kernel, rfl, by decide +kernel, by decide +kernel⟩
abbrev s__law_rare : Stmt := topS 7
abbrev N__law_rare : List Str := ["d", "many"]
theorem sc__law_rare : FnScope N__law_rare ["d", "many"] (defScope s__law_rare) := ⟨rfl, rfl, rfl, by decide +kernel, rfl, by decide +kernel, by decide +kernel⟩
abbrev s__law_is_int : Stmt := topS 8
abbrev N__law_is_int : List Str := ["thing"]
theorem sc__law_is_int : FnScope N__law_is_int ["thing"] (defScope s__law_is_int) := ⟨rfl, rfl, rfl, by decide +kernel, rfl, by decide +kernel, by decide +kernel⟩
abbrev s__law_column : Stmt := topS 9
abbrev N__law_column : List Str := ["d", "many", "kind", "column", "k"]
theorem sc__law_column : FnScope N__law_column ["d", "many"] (defScope s__law_column) := ⟨rfl, rfl, rfl, by decide +kernel, rfl, by decide +kernel, by decide +kernel⟩
abbrev s__law_tally : Stmt := topS 10
abbrev N__law_tally : List Str := ["row", "total", "squares", "least", "most", "value"]
theorem sc__law_tally : FnScope N__law_tally ["row"] (defScope s__law_tally) := ⟨rfl, rfl, rfl, by decide +kernel, rfl, by decide +kernel, by decide +kernel⟩
abbrev s__law_same : Stmt := topS 11
abbrev N__law_same : List Str := ["told", "due", "part"]
theorem sc__law_same : FnScope N__law_same ["told", "due"] (defScope s__law_same) := ⟨rfl, rfl, rfl, by decide +kernel, rfl, by decide +kernel, by decide +kernel⟩
abbrev s__law_gauge_holds : Stmt := topS 12
abbrev N__law_gauge_holds : List Str := ["frames", "column", "g", "many", "told", "a", "b", "cuts", "c"]
theorem sc__law_gauge_holds : FnScope N__law_gauge_holds ["frames", "column", "g"] (defScope s__law_gauge_holds) := ⟨rfl, rfl, rfl, by decide +kernel, rfl, by decide +kernel, by decide +kernel⟩
abbrev s_law : Stmt := topS 13
abbrev N_law : List Str := ["script", "d", "many", "size", "columns", "k", "frames", "column", "asked", "g"]
theorem sc_law : FnScope N_law ["script"] (defScope s_law) := ⟨rfl, rfl, rfl, by decide +kernel, rfl, by decide +kernel, by decide +kernel⟩
/-- the code object of gauge_tally and its table -/
abbrev BC (K : PySem.W.Frag) : Addr := (He.cT K ("gauge_tally", none)).1
abbrev BP (K : PySem.W.Frag) : Addr := (He.cT K ("gauge_tally", none)).2
structure Txt (w : World) (K : PySem.W.Frag) (mg : Str → Option Value) : Prop where
  b_int : mg "int" = none
  b_abs : mg "abs" = none
  b_len : mg "len" = none
  b_isinstance : mg "isinstance" = none
  b_bool : mg "bool" = none
  b_tuple : mg "tuple" = none
  b_list : mg "list" = none
  b_range : mg "range" = none
  b_sum : mg "sum" = none
  b_min : mg "min" = none
  b_max : mg "max" = none
  b_all : mg "all" = none
theorem upd_upd {H : Hp} {p : Addr} {a b : HO} : upd (upd H p a) p b = upd H p b := by
  funext x
  unfold upd
  split <;> rfl
theorem take_map_succ {α β : Type} {f : α → β} {l : List α} {i : Nat} {c : α} (h : l[i]? = some c) : (l.take i).map f ++ [f c] = (l.take (i + 1)).map f := by
  rw [List.take_add_one, h, List.map_append]
  rfl
theorem divW_of {n : Int} (h : 0 < n) (h2 : n < 2 ^ 64) : CDivW 0 n := wide_div h (b := 64) (by omega) (by decide) (by decide)
theorem getV {ns : List Int} {i : Nat} {x : V} (h : (ns.map V.int)[i]? = some x) : ∃ z, x = .int z ∧ ns[i]? = some z := by
  rw [List.getElem?_map] at h
  cases e : ns[i]? with
  | none =>
    rw [e] at h
    cases h
  | some z =>
    rw [e] at h
    exact ⟨z, (Option.some.inj h).symm, rfl⟩
def spBegin (K : PySem.W.Frag) : Sp := fun vs H Q _ => ∃ (a : Addr) (ns : List Int), vs = [.ref a] ∧ SqL K H a (ns.map V.int) ∧ ns.length ≤ 63 ∧ ∀ S D H', Same H H' → H D = none → DrawAt S D H' → Q (.ref D) H'
/-- a text or a list, what it holds -/
def Row (K : PySem.W.Frag) (H : Hp) (v : V) (xs : List V) : Prop := (∃ z : Str, v = .str z ∧ xs = z.cps.toList.map fun c => .str ⟨#[c]⟩) ∨ ∃ p, v = .ref p ∧ SqL K H p xs
def spPick (K : PySem.W.Frag) : Sp := fun vs H Q _ => ∃ (S D : Addr) (r : V) (xs : List V), vs = [.ref D, r] ∧ DrawAt S D H ∧ (∀ H', Go S D H H' → Row K H' r xs) ∧ 0 < xs.length ∧ xs.length ≤ 100000 ∧ ∀ H' x, x ∈ xs → Go S D H H' → Q x H'

theorem same_new {H : Hp} {p : Addr} {o : HO} (h : H p = none) : Same H (upd H p o) := fun b x e => by
  rw [upd_ne (ne_of_none e h)]
  exact e
/-- a change at a place that H does not know -/
theorem same_mut {H H' : Hp} {p : Addr} {o : HO} (s : Same H H') (h : H p = none) : Same H (upd H' p o) := fun b u e => by
  rw [upd_ne (ne_of_none e h)]
  exact s b u e
theorem iteNT {A B : Prop} (h : B) : if (!true) = true then A else B := iteF h
theorem line5 {n : Nat} (h : n ≤ 100000) : n ≤ sizeLine := Nat.le_trans h (by decide)
theorem line6 {n : Nat} (h : n < 100000) : n < sizeLine := Nat.lt_of_lt_of_le h (by decide)
/-! ### fractions -/
abbrev F2 : Type := Int × Int
def gg (n d : Int) : Nat := Nat.gcd n.natAbs d.natAbs
def fr (n d : Int) : F2 := ((if d < 0 then -n else n) / (gg n d : Int), (if d < 0 then -d else d) / (gg n d : Int))
def add2 (a b : F2) : Int × Int := (a.1 * b.2 + b.1 * a.2, a.2 * b.2)
def sub2 (a b : F2) : Int × Int := (a.1 * b.2 - b.1 * a.2, a.2 * b.2)
def mul2 (a b : F2) : Int × Int := (a.1 * b.1, a.2 * b.2)
def div2 (a b : F2) : Int × Int := (a.1 * b.2, a.2 * b.1)
def frp (x : Int × Int) : F2 := fr x.1 x.2
theorem gg_pos {n d : Int} (h : d ≠ 0) : 0 < gg n d := Nat.gcd_pos_of_pos_right _ (Int.natAbs_pos.mpr h)
theorem gg_le {n d : Int} (h : d ≠ 0) : gg n d ≤ d.natAbs := Nat.gcd_le_right _ (Int.natAbs_pos.mpr h)
/-- in lowest terms, the second at least 1 -/
structure Low (x : F2) : Prop where
  pos : 1 ≤ x.2
  co : Nat.gcd x.1.natAbs x.2.natAbs = 1
theorem fr_low {n d : Int} (h : d ≠ 0) : Low (fr n d) := by
  have g0 := gg_pos (n := n) h
  have gd1 : (gg n d : Int) ∣ d := Int.ofNat_dvd_left.mpr (Nat.gcd_dvd_right _ _)
  have gn1 : (gg n d : Int) ∣ n := Int.ofNat_dvd_left.mpr (Nat.gcd_dvd_left _ _)
  have key : ∀ a b : Int, a.natAbs = n.natAbs → b.natAbs = d.natAbs → 0 < b → Low (a / (gg n d : Int), b / (gg n d : Int)) := fun a b ha hb hp => by
    have g1 : (gg n d : Int) ∣ b := Int.ofNat_dvd_left.mpr (by rw [hb]; exact Nat.gcd_dvd_right _ _)
    have g2 : (gg n d : Int) ∣ a := Int.ofNat_dvd_left.mpr (by rw [ha]; exact Nat.gcd_dvd_left _ _)
    refine ⟨?_, ?_⟩
    · have := Int.ediv_pos_of_pos_of_dvd hp (by omega) g1
      show 1 ≤ b / (gg n d : Int)
      omega
    · show Nat.gcd (a / (gg n d : Int)).natAbs (b / (gg n d : Int)).natAbs = 1
      rw [Int.natAbs_ediv_of_dvd g2, Int.natAbs_ediv_of_dvd g1, ha, hb, Int.natAbs_natCast]
      exact Nat.gcd_div_gcd_div_gcd_of_pos_right (Int.natAbs_pos.mpr h)
  unfold fr
  by_cases hd : d < 0
  · rw [if_pos hd, if_pos hd]
    exact key _ _ (Int.natAbs_neg n) (Int.natAbs_neg d) (by omega)
  · rw [if_neg hd, if_neg hd]
    exact key _ _ rfl rfl (by omega)
theorem low_fr {x : F2} (h : Low x) : fr x.1 x.2 = x := by
  have h1 := h.pos
  unfold fr
  rw [if_neg (by omega), if_neg (by omega)]
  have : gg x.1 x.2 = 1 := h.co
  rw [this]
  show (x.1 / 1, x.2 / 1) = x
  rw [Int.ediv_one, Int.ediv_one]
/-- the size: below 2 ^ k both -/
def Sz (k : Nat) (x : Int × Int) : Prop := x.1.natAbs < 2 ^ k ∧ x.2.natAbs < 2 ^ k
theorem div_small (a : Int) (g : Nat) : (a / (g : Int)).natAbs ≤ a.natAbs := Int.natAbs_ediv_le_natAbs a g
theorem fr_sz {k : Nat} {x : Int × Int} (h : Sz k x) : Sz k (frp x) := by
  have key : ∀ (c : Prop) [Decidable c] (a : Int) (g : Nat), ((if c then -a else a) / (g : Int)).natAbs ≤ a.natAbs := fun c _ a g => by
    split
    · exact Nat.le_trans (div_small _ _) (Nat.le_of_eq (Int.natAbs_neg a))
    · exact div_small _ _
  exact ⟨Nat.lt_of_le_of_lt (key _ _ _) h.1, Nat.lt_of_le_of_lt (key _ _ _) h.2⟩
theorem sz_mul {a b : Int} {j k : Nat} (ha : a.natAbs < 2 ^ j) (hb : b.natAbs < 2 ^ k) : (a * b).natAbs < 2 ^ (j + k) := wide_lt ha hb
theorem sz_add {a b : Int} {k : Nat} (ha : a.natAbs < 2 ^ k) (hb : b.natAbs < 2 ^ k) : (a + b).natAbs < 2 ^ (k + 1) := by
  have := Int.natAbs_add_le a b
  rw [Nat.pow_succ]
  omega
theorem sz_sub {a b : Int} {k : Nat} (ha : a.natAbs < 2 ^ k) (hb : b.natAbs < 2 ^ k) : (a - b).natAbs < 2 ^ (k + 1) := by
  have := sz_add ha (b := -b) (by rw [Int.natAbs_neg]; exact hb)
  rw [Int.sub_eq_add_neg]
  exact this
theorem sz_up {x : Int × Int} {j k : Nat} (h : Sz j x) (hl : j ≤ k) : Sz k x :=
  ⟨Nat.lt_of_lt_of_le h.1 (Nat.pow_le_pow_right (by decide) hl), Nat.lt_of_lt_of_le h.2 (Nat.pow_le_pow_right (by decide) hl)⟩
theorem n_up {a : Int} {j k : Nat} (h : a.natAbs < 2 ^ j) (hl : j ≤ k) : a.natAbs < 2 ^ k := Nat.lt_of_lt_of_le h (Nat.pow_le_pow_right (by decide) hl)
theorem add2_sz {a b : F2} {j k : Nat} (ha : Sz j a) (hb : Sz k b) : Sz (j + k + 1) (add2 a b) :=
  ⟨sz_add (sz_mul ha.1 hb.2) (by rw [Nat.add_comm j k]; exact sz_mul hb.1 ha.2), n_up (sz_mul ha.2 hb.2) (Nat.le_succ _)⟩
theorem sub2_sz {a b : F2} {j k : Nat} (ha : Sz j a) (hb : Sz k b) : Sz (j + k + 1) (sub2 a b) :=
  ⟨sz_sub (sz_mul ha.1 hb.2) (by rw [Nat.add_comm j k]; exact sz_mul hb.1 ha.2), n_up (sz_mul ha.2 hb.2) (Nat.le_succ _)⟩
theorem mul2_sz {a b : F2} {j k : Nat} (ha : Sz j a) (hb : Sz k b) : Sz (j + k + 1) (mul2 a b) := ⟨n_up (sz_mul ha.1 hb.1) (Nat.le_succ _), n_up (sz_mul ha.2 hb.2) (Nat.le_succ _)⟩
theorem div2_sz {a b : F2} {j k : Nat} (ha : Sz j a) (hb : Sz k b) : Sz (j + k + 1) (div2 a b) := ⟨n_up (sz_mul ha.1 hb.2) (Nat.le_succ _), n_up (sz_mul ha.2 hb.1) (Nat.le_succ _)⟩
/-- the sum of a row, from the left -/
def tot : List F2 → F2 → F2
  | [], t => t
  | x :: r, t => tot r (frp (add2 t x))
theorem gg_if (n d : Int) : (if d < 0 then -n else n).natAbs.gcd (if d < 0 then -d else d).natAbs = gg n d := by
  unfold gg
  split <;> simp
theorem low0 : Low (0, 1) := ⟨by decide, by decide⟩
theorem sz0 : Sz 1 (0, 1) := ⟨by decide, by decide⟩
theorem low_frp {x : Int × Int} (h : x.2 ≠ 0) : Low (frp x) := fr_low h
theorem add2_ne {a b : F2} (ha : Low a) (hb : Low b) : (add2 a b).2 ≠ 0 := by
  have h1 := ha.pos
  have h2 := hb.pos
  exact Int.ne_of_gt (Int.mul_pos (by omega) (by omega))
theorem tot_ok : ∀ (fs : List F2) (t : F2) {k : Nat}, Low t → Sz k t → (∀ x ∈ fs, Sz 100 x ∧ Low x) → Sz (k + 101 * fs.length) (tot fs t) ∧ Low (tot fs t)
  | [], t, k, h1, h2, _ => ⟨h2, h1⟩
  | x :: r, t, k, h1, h2, h3 => by
    obtain ⟨a, b⟩ := h3 x (List.mem_cons_self)
    have := tot_ok r (frp (add2 t x)) (k := k + 100 + 1) (low_frp (add2_ne h1 b)) (fr_sz (add2_sz h2 a)) (fun y hy => h3 y (List.mem_cons_of_mem _ hy))
    refine ⟨sz_up this.1 ?_, this.2⟩
    rw [List.length_cons]
    omega
theorem tot_snoc (x : F2) : ∀ (l : List F2) (t : F2), tot (l ++ [x]) t = frp (add2 (tot l t) x)
  | [], _ => rfl
  | y :: r, t => tot_snoc x r (frp (add2 t y))
theorem same_l {K : PySem.W.Frag} {H H' : Hp} {a : Addr} {xs : List V} (e : Same H H') (h : SqL K H a xs) : SqL K H' a xs := e.seq h
theorem same_t {K : PySem.W.Frag} {H H' : Hp} {a : Addr} {xs : List V} (e : Same H H') (h : SqT K H a xs) : SqT K H' a xs := by
  rcases h with (h | ⟨o, h⟩) | h
  · exact .inl (.inl (e _ _ h))
  · exact .inl (.inr ⟨o, e _ _ h⟩)
  · exact .inr h
theorem Paired.at {α β : Type} {R : α → β → Prop} : ∀ {xs : List α} {ys : List β} {i : Nat} {x : α}, Paired R xs ys → xs[i]? = some x → ∃ y, ys[i]? = some y ∧ R x y
  | _, _, _, _, .nil, e => by simp at e
  | _, _, 0, _, .cons r _, e => by
    have e : _ = _ := Option.some.inj e
    subst e
    exact ⟨_, rfl, r⟩
  | _, _, i + 1, x, .cons _ t, e => by
    obtain ⟨y, h1, h2⟩ := Paired.at (i := i) (x := x) t (by simpa using e)
    exact ⟨y, by simpa using h1, h2⟩
def dF (x : Int × Int) : PyData := .tuple [.int x.1, .int x.2]
def dFs (l : List (Int × Int)) : PyData := .list (l.map dF)
theorem dF_sh (x : Int × Int) : SeqAt.shaped (dF x) = true := rfl
theorem dFs_lay : ∀ l : List (Int × Int), PyData.canLayAll0 (l.map dF) = true
  | [] => rfl
  | x :: r => by
    show (PyData.canLay0 (dF x) && PyData.canLayAll0 (r.map dF)) = true
    rw [dFs_lay r]
    rfl
theorem dFs_dep : ∀ l : List (Int × Int), PyData.depthAll (l.map dF) ≤ 1
  | [] => Nat.zero_le _
  | x :: r => by
    show max (PyData.depth (dF x)) (PyData.depthAll (r.map dF)) ≤ 1
    have := dFs_dep r
    have e : PyData.depth (dF x) = 1 := rfl
    omega
theorem dFs_sh (l : List (Int × Int)) : SeqAt.shaped (dFs l) = true := by
  unfold SeqAt.shaped
  rw [Bool.and_eq_true]
  refine ⟨dFs_lay l, decide_eq_true ?_⟩
  show PyData.depthAll (l.map dF) + 1 ≤ 64
  have := dFs_dep l
  omega
theorem dFs_eqv (l : List (Int × Int)) : PyData.eqv (dFs l) (dFs l) = true := SeqAt.eqv_refl _ (dFs_lay l)
theorem dF_eqv (x : Int × Int) : PyData.eqv (dF x) (dF x) = true := SeqAt.eqv_refl _ rfl
/-! ### promises -/
def tupF (x : Int × Int) : HO := .tup [.int x.1, .int x.2]
def spFrac : Sp := fun vs H Q _ => ∃ n d : Int, vs = [.int n, .int d] ∧ d ≠ 0 ∧ Sz 4000 (n, d) ∧ ∀ p, H p = none → Q (.ref p) (upd H p (tupF (fr n d)))
def spBin (K : PySem.W.Frag) (op : F2 → F2 → Int × Int) : Sp := fun vs H Q _ => ∃ (p q : Addr) (a b : F2), vs = [.ref p, .ref q] ∧ H p = some (tupF a) ∧ H q = some (tupF b) ∧ Sz 1900 a ∧ Sz 1900 b ∧ (op a b).2 ≠ 0 ∧ ∀ r, H r = none → Q (.ref r) (upd H r (tupF (frp (op a b))))
def spIsInt : Sp := fun vs H Q _ => ∃ i : Int, vs = [.int i] ∧ Q (.bl true) H
def spIsInts (K : PySem.W.Frag) : Sp := fun vs H Q _ => ∃ (p : Addr) (ns : List Int), vs = [.ref p] ∧ H p = some (.tup (ns.map V.int)) ∧ ns.length ≤ 100 ∧ ∀ H', Same H H' → Q (.bl true) H'
def spIsFrac (K : PySem.W.Frag) : Sp := fun vs H Q _ => ∃ (p : Addr) (x : F2), vs = [.ref p] ∧ H p = some (tupF x) ∧ Low x ∧ Sz 4000 x ∧ ∀ H', Same H H' → Q (.bl true) H'
def spLaw (K : PySem.W.Frag) : Sp := fun vs H Q _ => ∃ (a : Addr) (ns : List Int), vs = [.ref a] ∧ SqL K H a (ns.map V.int) ∧ ns.length ≤ 63 ∧ H (BP K) = some (.tbl #[]) ∧ ∀ H', Q (.bl true) H'
theorem dp_F {K : PySem.W.Frag} {H : Hp} {p : Addr} {x : Int × Int} (h : H p = some (tupF x)) : Dp K H (.ref p) (dF x) := .tup (SqT.of h) (.cons (.int _) (.cons (.int _) .nil))
theorem cut_k (xs : List V) (k : Nat) : cutV xs none (some (k : Int)) = xs.take k := by
  unfold cutV
  rw [HT.sIx_nat, HT.sIx_none]
  show List.take (min k xs.length - 0) (xs.drop 0) = _
  rw [List.drop_zero, Nat.sub_zero, ← List.take_eq_take_min]
theorem cut_3 (xs : List V) : cutV xs none (some 3) = xs.take 3 := cut_k xs 3
theorem all_true {α : Type} (l : List α) : (l.map fun _ => true).all id = true := by
  rw [List.all_map]
  exact List.all_eq_true.mpr fun _ _ => rfl
/-! ### sum, min, max of a tuple of whole numbers, with default= -/
section
variable {X : Cx}
theorem cr_sumT (hc : X.calm = true) : CallR X (.builtin "sum") (fun vs H Q => ∃ (a : Addr) (ns : List Int), vs = [V.ref a] ∧ SqT X.K H a (ns.map V.int) ∧ Q (.int ns.sum) H) := by
  intro pins s σ H vs us Q I r h
  obtain ⟨a, ns, rfl, hs, q⟩ := h
  obtain ⟨its, rv, hl, _⟩ := I.tuple hs
  rw [Vals.ref1 r]
  obtain ⟨xs, e⟩ := rv.ints.allInts.items
  have hn : numsOf (intItems xs).toList = ns := e ▸ rv.ints.numsOf
  rw [nums_intItems] at hn
  rw [e] at hl
  refine PySem.W.ktm_sumG (I.ok.hd hc) hl fun h' tk t' hk => ⟨.int _, H, I.kept hk, ⟨t', rfl⟩, ?_⟩
  rw [preSum_eq, List.take_of_length_le (by simp), hn]
  exact q
theorem al_ints (ns : List Int) : PySem.W.AlikeAll (ns.map PyData.int) := by
  refine ⟨fun x hx y hy => ?_, fun x hx e => ?_⟩
  · obtain ⟨i, _, rfl⟩ := List.mem_map.mp hx
    obtain ⟨j, _, rfl⟩ := List.mem_map.mp hy
    rfl
  · obtain ⟨i, _, rfl⟩ := List.mem_map.mp hx
    cases e
theorem dep_ints : ∀ ns : List Int, PyData.depthAll (ns.map PyData.int) = 0
  | [] => rfl
  | n :: r => by
    show max (PyData.depth (.int n)) (PyData.depthAll (r.map PyData.int)) = 0
    rw [dep_ints r]
    rfl
/-- xs of whole numbers: f of the first and the others, or the default -/
def rExtT (K : PySem.W.Frag) (f : Int → Int → Int) : List V → List V → Hp → VK → Prop := fun vs zs H Q => ∃ (a : Addr) (ns : List Int) (d : V), vs = [.ref a] ∧ zs = [d] ∧ SqT K H a (ns.map V.int) ∧ (ns = [] → Q d H) ∧ ∀ n r, ns = n :: r → Q (.int (r.foldl f n)) H
def rExtL (K : PySem.W.Frag) (f : Int → Int → Int) : List V → List V → Hp → VK → Prop := fun vs zs H Q => ∃ (a : Addr) (ns : List Int) (d : V), vs = [.ref a] ∧ zs = [d] ∧ SqL K H a (ns.map V.int) ∧ (ns = [] → Q d H) ∧ ∀ n r, ns = n :: r → Q (.int (r.foldl f n)) H
theorem cr_minT (hc : X.calm = true) (hu : X.A.units + 64 < cLine) : CallRK X (.builtin "min") [Str.ofString "default"] (rExtT X.K min) := by
  intro pins s σ H vs zs us ws Q I r rz h
  obtain ⟨a, ns, d, rfl, rfl, hs, q0, q⟩ := h
  obtain ⟨its, rv, hl, _⟩ := I.tuple hs
  obtain ⟨w, rfl, rw'⟩ := vals1 rz
  rw [Vals.ref1 r]
  refine PySem.W.min_tuple_default (xs := ns.map PyData.int) (as := []) (I.ok.hd hc) hl (ints_readAll _ rv.ints) (al_ints ns) (by rw [dep_ints]; omega) (fun e h' tk hk => ⟨d, H, I.kept hk, rw', q0 ?_⟩) fun y ys i v h' tk bs e hv rd hk => ?_
  · cases ns with
    | nil => rfl
    | cons n r => cases e
  · cases ns with
    | nil => cases e
    | cons n r =>
      obtain ⟨rfl, rfl⟩ := List.cons.inj (show PyData.int n :: r.map PyData.int = y :: ys from e)
      rw [PySem.W.minD_ints] at rd
      cases rd with
      | int i t => exact ⟨.int _, H, I.kept hk, ⟨t, rfl⟩, q n r rfl⟩
theorem cr_maxT (hc : X.calm = true) (hu : X.A.units + 64 < cLine) : CallRK X (.builtin "max") [Str.ofString "default"] (rExtT X.K max) := by
  intro pins s σ H vs zs us ws Q I r rz h
  obtain ⟨a, ns, d, rfl, rfl, hs, q0, q⟩ := h
  obtain ⟨its, rv, hl, _⟩ := I.tuple hs
  obtain ⟨w, rfl, rw'⟩ := vals1 rz
  rw [Vals.ref1 r]
  refine PySem.W.max_tuple_default (xs := ns.map PyData.int) (as := []) (I.ok.hd hc) hl (ints_readAll _ rv.ints) (al_ints ns) (by rw [dep_ints]; omega) (fun e h' tk hk => ⟨d, H, I.kept hk, rw', q0 ?_⟩) fun y ys i v h' tk bs e hv rd hk => ?_
  · cases ns with
    | nil => rfl
    | cons n r => cases e
  · cases ns with
    | nil => cases e
    | cons n r =>
      obtain ⟨rfl, rfl⟩ := List.cons.inj (show PyData.int n :: r.map PyData.int = y :: ys from e)
      rw [PySem.W.maxD_ints] at rd
      cases rd with
      | int i t => exact ⟨.int _, H, I.kept hk, ⟨t, rfl⟩, q n r rfl⟩
theorem cr_minL (hc : X.calm = true) (hu : X.A.units + 64 < cLine) : CallRK X (.builtin "min") [Str.ofString "default"] (rExtL X.K min) := by
  intro pins s σ H vs zs us ws Q I r rz h
  obtain ⟨a, ns, d, rfl, rfl, hs, q0, q⟩ := h
  obtain ⟨its, rv, hl, _⟩ := I.list hs
  obtain ⟨w, rfl, rw'⟩ := vals1 rz
  rw [Vals.ref1 r]
  refine PySem.W.min_list_default (xs := ns.map PyData.int) (as := []) (I.ok.hd hc) hl.isList (ints_readAll _ rv.ints) (al_ints ns) (by rw [dep_ints]; omega) (fun e h' tk hk => ⟨d, H, I.kept hk, rw', q0 ?_⟩) fun y ys i v h' tk bs e hv rd hk => ?_
  · cases ns with
    | nil => rfl
    | cons n r => cases e
  · cases ns with
    | nil => cases e
    | cons n r =>
      obtain ⟨rfl, rfl⟩ := List.cons.inj (show PyData.int n :: r.map PyData.int = y :: ys from e)
      rw [PySem.W.minD_ints] at rd
      cases rd with
      | int i t => exact ⟨.int _, H, I.kept hk, ⟨t, rfl⟩, q n r rfl⟩
theorem cr_maxL (hc : X.calm = true) (hu : X.A.units + 64 < cLine) : CallRK X (.builtin "max") [Str.ofString "default"] (rExtL X.K max) := by
  intro pins s σ H vs zs us ws Q I r rz h
  obtain ⟨a, ns, d, rfl, rfl, hs, q0, q⟩ := h
  obtain ⟨its, rv, hl, _⟩ := I.list hs
  obtain ⟨w, rfl, rw'⟩ := vals1 rz
  rw [Vals.ref1 r]
  refine PySem.W.max_list_default (xs := ns.map PyData.int) (as := []) (I.ok.hd hc) hl.isList (ints_readAll _ rv.ints) (al_ints ns) (by rw [dep_ints]; omega) (fun e h' tk hk => ⟨d, H, I.kept hk, rw', q0 ?_⟩) fun y ys i v h' tk bs e hv rd hk => ?_
  · cases ns with
    | nil => rfl
    | cons n r => cases e
  · cases ns with
    | nil => cases e
    | cons n r =>
      obtain ⟨rfl, rfl⟩ := List.cons.inj (show PyData.int n :: r.map PyData.int = y :: ys from e)
      rw [PySem.W.maxD_ints] at rd
      cases rd with
      | int i t => exact ⟨.int _, H, I.kept hk, ⟨t, rfl⟩, q n r rfl⟩
end
/-! ### the reckoning -/
def sq (l : List Int) : Int := (l.map fun v => v * v).sum
def aps (c t : Int) (l : List Int) : Int := (l.map fun v => (c * v - t) * (c * v - t)).sum
theorem aps_eq (c t : Int) : ∀ l : List Int, aps c t l = c * c * sq l - 2 * c * t * l.sum + l.length * (t * t)
  | [] => by simp [sq, aps]
  | v :: r => by
    have := aps_eq c t r
    unfold sq aps at *
    simp only [List.map_cons, List.sum_cons, List.length_cons] at *
    rw [this]
    push_cast
    grind
def len (l : List Int) : Int := (l.length : Int)
/-- the numerator of the error, over the number of integers cubed -/
def nn (l : List Int) : Int := sq l * len l - l.sum * l.sum
def AP (l : List Int) : Int := aps (len l) l.sum l
def Q4 (l : List Int) : Int := len l * len l * len l * len l
theorem AP_eq (l : List Int) : AP l = len l * nn l := by
  unfold AP nn
  rw [aps_eq]
  unfold len
  grind
theorem frv {n d : Int} (h : d ≠ 0) : (fr n d).1 * d = n * (fr n d).2 := by
  have g0 : (gg n d : Int) ≠ 0 := by
    have := Nat.gcd_pos_of_pos_right n.natAbs (Int.natAbs_pos.mpr h)
    show ((Nat.gcd n.natAbs d.natAbs : Nat) : Int) ≠ 0
    omega
  obtain ⟨a, ha⟩ : (gg n d : Int) ∣ n := Int.ofNat_dvd_left.mpr (Nat.gcd_dvd_left _ _)
  obtain ⟨b, hb⟩ : (gg n d : Int) ∣ d := Int.ofNat_dvd_left.mpr (Nat.gcd_dvd_right _ _)
  show ((if d < 0 then -n else n) / (gg n d : Int)) * d = n * ((if d < 0 then -d else d) / (gg n d : Int))
  generalize (gg n d : Int) = g at *
  split
  · rw [show -n = g * -a by rw [ha]; grind, show -d = g * -b by rw [hb]; grind, Int.mul_ediv_cancel_left _ g0, Int.mul_ediv_cancel_left _ g0]
    subst ha hb
    grind
  · rw [show n / g = a by rw [ha, Int.mul_ediv_cancel_left _ g0], show d / g = b by rw [hb, Int.mul_ediv_cancel_left _ g0]]
    subst ha hb
    grind
theorem low_uniq {x y : F2} (hx : Low x) (hy : Low y) (e : x.1 * y.2 = y.1 * x.2) : x = y := by
  obtain ⟨a, b⟩ := x
  obtain ⟨c, d⟩ := y
  have b1 : 1 ≤ b := hx.pos
  have d1 : 1 ≤ d := hy.pos
  have e1 : a.natAbs * d.natAbs = c.natAbs * b.natAbs := by
    rw [← Int.natAbs_mul, ← Int.natAbs_mul]
    exact congrArg Int.natAbs e
  have h1 : b.natAbs ∣ d.natAbs := Nat.Coprime.dvd_of_dvd_mul_left (Nat.Coprime.symm hx.co) ⟨c.natAbs, by rw [e1, Nat.mul_comm]⟩
  have h2 : d.natAbs ∣ b.natAbs := Nat.Coprime.dvd_of_dvd_mul_left (Nat.Coprime.symm hy.co) ⟨a.natAbs, by rw [← e1, Nat.mul_comm]⟩
  have h3 := Nat.dvd_antisymm h1 h2
  have h4 : b = d := by omega
  subst h4
  have h5 : a = c := Int.eq_of_mul_eq_mul_right (by omega) (show a * b = c * b from e)
  rw [h5]
theorem key {s t n u1 u2 m1 m2 q1 q2 x1 x2 : Int} (hn : n ≠ 0) (hu : u2 ≠ 0) (hm : m2 ≠ 0) (hq : q2 ≠ 0) (e1 : u1 * n = s * u2) (e2 : m1 * n = t * m2) (e3 : q1 * (m2 * m2) = m1 * m1 * q2) (e4 : x1 * (u2 * q2) = (u1 * q2 - q1 * u2) * x2) :
    x1 * (n * n * n) = n * (s * n - t * t) * x2 := by
  have c : u2 * q2 * (m2 * m2) ≠ 0 := Int.mul_ne_zero (Int.mul_ne_zero hu hq) (Int.mul_ne_zero hm hm)
  refine Int.eq_of_mul_eq_mul_left c ?_
  calc u2 * q2 * (m2 * m2) * (x1 * (n * n * n)) = (x1 * (u2 * q2)) * (m2 * m2) * (n * n * n) := by grind
    _ = (u1 * q2 - q1 * u2) * x2 * (m2 * m2) * (n * n * n) := by rw [e4]
    _ = x2 * (n * n * n) * (u1 * q2 * (m2 * m2) - q1 * (m2 * m2) * u2) := by grind
    _ = x2 * (n * n * n) * (u1 * q2 * (m2 * m2) - m1 * m1 * q2 * u2) := by rw [e3]
    _ = x2 * n * q2 * ((u1 * n) * n * (m2 * m2) - (m1 * n) * (m1 * n) * u2) := by grind
    _ = x2 * n * q2 * ((s * u2) * n * (m2 * m2) - (t * m2) * (t * m2) * u2) := by rw [e1, e2]
    _ = u2 * q2 * (m2 * m2) * (n * (s * n - t * t) * x2) := by grind
def omin : Option Int → Option Int → Option Int
  | none, b => b
  | a, none => a
  | some a, some b => some (min a b)
def loO : List Int → Option Int
  | [] => none
  | x :: r => omin (some x) (loO r)
theorem omin_assoc (a b c : Option Int) : omin a (omin b c) = omin (omin a b) c := by
  cases a <;> cases b <;> cases c <;> simp [omin]
theorem omin_comm (a b : Option Int) : omin a b = omin b a := by
  cases a <;> cases b <;> simp [omin]
  omega
theorem loO_app : ∀ (a b : List Int), loO (a ++ b) = omin (loO a) (loO b)
  | [], b => by cases h : loO b <;> simp [loO, omin, h]
  | x :: r, b => by
    show omin (some x) (loO (r ++ b)) = _
    rw [loO_app r b, omin_assoc]
    rfl
theorem loO_fold : ∀ (r : List Int) (a : Int), omin (some a) (loO r) = some (r.foldl min a)
  | [], a => rfl
  | x :: r, a => by
    show omin (some a) (omin (some x) (loO r)) = some (r.foldl min (min a x))
    rw [omin_assoc]
    exact loO_fold r (min a x)
def omax : Option Int → Option Int → Option Int
  | none, b => b
  | a, none => a
  | some a, some b => some (max a b)
def hiO : List Int → Option Int
  | [] => none
  | x :: r => omax (some x) (hiO r)
theorem omax_assoc (a b c : Option Int) : omax a (omax b c) = omax (omax a b) c := by
  cases a <;> cases b <;> cases c <;> simp [omax]
theorem omax_comm (a b : Option Int) : omax a b = omax b a := by
  cases a <;> cases b <;> simp [omax]
  omega
theorem hiO_app : ∀ (a b : List Int), hiO (a ++ b) = omax (hiO a) (hiO b)
  | [], b => by cases h : hiO b <;> simp [hiO, omax, h]
  | x :: r, b => by
    show omax (some x) (hiO (r ++ b)) = _
    rw [hiO_app r b, omax_assoc]
    rfl
theorem hiO_fold : ∀ (r : List Int) (a : Int), omax (some a) (hiO r) = some (r.foldl max a)
  | [], a => rfl
  | x :: r, a => by
    show omax (some a) (omax (some x) (hiO r)) = some (r.foldl max (max a x))
    rw [omax_assoc]
    exact hiO_fold r (max a x)

/-! ### tallies -/
def Few (ns : List Int) : Prop := ∀ z ∈ ns, z.natAbs ≤ 2 ^ 40
theorem sum_few : ∀ {ns : List Int}, Few ns → ns.sum.natAbs ≤ ns.length * 2 ^ 40
  | [], _ => by simp
  | z :: r, h => by
    have h1 := h z List.mem_cons_self
    have h2 := sum_few (ns := r) fun x hx => h x (List.mem_cons_of_mem _ hx)
    rw [List.sum_cons, List.length_cons]
    omega
theorem sq_few : ∀ {ns : List Int}, Few ns → (sq ns).natAbs ≤ ns.length * 2 ^ 80
  | [], _ => by simp [sq]
  | z :: r, h => by
    have h1 := h z List.mem_cons_self
    have h2 := sq_few (ns := r) fun x hx => h x (List.mem_cons_of_mem _ hx)
    have h3 : (z * z).natAbs ≤ 2 ^ 40 * 2 ^ 40 := by
      rw [Int.natAbs_mul]
      exact Nat.mul_le_mul h1 h1
    have e : sq (z :: r) = z * z + sq r := rfl
    rw [e, List.length_cons]
    omega
theorem Few.app {a b : List Int} (ha : Few a) (hb : Few b) : Few (a ++ b) := fun z hz => (List.mem_append.mp hz).elim (ha z) (hb z)
theorem Few.take {ns : List Int} (h : Few ns) (i : Nat) : Few (ns.take i) := fun z hz => h z (List.mem_of_mem_take hz)
theorem Few.drop {ns : List Int} (h : Few ns) (i : Nat) : Few (ns.drop i) := fun z hz => h z (List.mem_of_mem_drop hz)
theorem few_nil : Few [] := fun _ h => absurd h List.not_mem_nil
theorem few_add {ns : List Int} {z : Int} (h : Few ns) (hz : z.natAbs ≤ 2 ^ 40) : Few (ns ++ [z]) := fun x hx => by
  rcases List.mem_append.mp hx with h1 | h1
  · exact h x h1
  · rw [List.mem_singleton.mp h1]
    exact hz
def vO : Option Int → V
  | none => .non
  | some i => .int i
def dO : Option Int → PyData
  | none => .none
  | some i => .int i
def tal (l : List Int) : List V := [.int (len l), .int l.sum, .int (sq l), vO (loO l), vO (hiO l)]
def dT (l : List Int) : PyData := .tuple [.int (len l), .int l.sum, .int (sq l), dO (loO l), dO (hiO l)]
theorem dp_O {K : PySem.W.Frag} {H : Hp} (o : Option Int) : Dp K H (vO o) (dO o) := by
  cases o with
  | none => exact .non
  | some i => exact .int i
theorem dp_T {K : PySem.W.Frag} {H : Hp} {p : Addr} {l : List Int} (h : H p = some (.tup (tal l))) : Dp K H (.ref p) (dT l) := .tup (SqT.of h) (.cons (.int _) (.cons (.int _) (.cons (.int _) (.cons (dp_O _) (.cons (dp_O _) .nil)))))
theorem dT_lay (l : List Int) : PyData.canLay0 (dT l) = true := by
  unfold dT
  cases loO l <;> cases hiO l <;> rfl
theorem dT_sh (l : List Int) : SeqAt.shaped (dT l) = true := by
  unfold dT
  cases loO l <;> cases hiO l <;> rfl
theorem dT_eqv (l : List Int) : PyData.eqv (dT l) (dT l) = true := SeqAt.eqv_refl _ (dT_lay l)
theorem len_app (a b : List Int) : len (a ++ b) = len a + len b := by
  unfold len
  rw [List.length_append]
  omega
theorem sum_app (a b : List Int) : (a ++ b).sum = a.sum + b.sum := List.sum_append
theorem sq_app (a b : List Int) : sq (a ++ b) = sq a + sq b := by
  unfold sq
  rw [List.map_append, List.sum_append]
theorem tal_comm (a b : List Int) : tal (a ++ b) = tal (b ++ a) := by
  unfold tal
  rw [len_app, len_app, sum_app, sum_app, sq_app, sq_app, loO_app, loO_app, hiO_app, hiO_app, Int.add_comm (len a), Int.add_comm a.sum, Int.add_comm (sq a), omin_comm, omax_comm]
theorem len_pos {l : List Int} (h : l ≠ []) : 0 < len l := by
  have := List.length_pos_iff.mpr h
  unfold len
  omega
theorem loO_none {l : List Int} (h : loO l = none) : l = [] := by
  cases l with
  | nil => rfl
  | cons x r =>
    have : loO (x :: r) = some (r.foldl min x) := loO_fold r x
    rw [this] at h
    cases h
def mn (l : List Int) : F2 := fr l.sum (len l)
def spr (l : List Int) : F2 := frp (sub2 (fr (sq l) (len l)) (frp (mul2 (mn l) (mn l))))
theorem spr_low {l : List Int} (h : l ≠ []) : Low (spr l) := by
  have h0 := len_pos h
  have a := fr_low (n := sq l) (d := len l) (by omega)
  have b := fr_low (n := l.sum) (d := len l) (by omega)
  have c := low_frp (x := mul2 (mn l) (mn l)) (Int.mul_ne_zero (by have := b.pos; show (fr l.sum (len l)).2 ≠ 0; omega) (by have := b.pos; show (fr l.sum (len l)).2 ≠ 0; omega))
  refine low_frp (Int.mul_ne_zero ?_ ?_)
  · have := a.pos
    omega
  · have := c.pos
    omega
theorem spr_eq {l : List Int} (h : l ≠ []) : spr l = fr (AP l) (len l * len l * len l) := by
  have h0 := len_pos h
  have n0 : len l ≠ 0 := by omega
  have n3 : len l * len l * len l ≠ 0 := Int.mul_ne_zero (Int.mul_ne_zero n0 n0) n0
  have a := fr_low (n := sq l) (d := len l) n0
  have b := fr_low (n := l.sum) (d := len l) n0
  have a1 := a.pos
  have b1 := b.pos
  have m2 : (mul2 (mn l) (mn l)).2 ≠ 0 := Int.mul_ne_zero (by show (fr l.sum (len l)).2 ≠ 0; omega) (by show (fr l.sum (len l)).2 ≠ 0; omega)
  have c := low_frp (x := mul2 (mn l) (mn l)) m2
  have c1 := c.pos
  have s2 : (sub2 (fr (sq l) (len l)) (frp (mul2 (mn l) (mn l)))).2 ≠ 0 := Int.mul_ne_zero (by omega) (by omega)
  refine low_uniq (spr_low h) (fr_low n3) ?_
  have e1 := frv (n := sq l) n0
  have e2 := frv (n := l.sum) n0
  have e3 : (frp (mul2 (mn l) (mn l))).1 * ((mn l).2 * (mn l).2) = (mn l).1 * (mn l).1 * (frp (mul2 (mn l) (mn l))).2 := frv m2
  have e4 : (spr l).1 * ((fr (sq l) (len l)).2 * (frp (mul2 (mn l) (mn l))).2) = ((fr (sq l) (len l)).1 * (frp (mul2 (mn l) (mn l))).2 - (frp (mul2 (mn l) (mn l))).1 * (fr (sq l) (len l)).2) * (spr l).2 := frv s2
  have e5 := key n0 (by omega) (by show (fr l.sum (len l)).2 ≠ 0; omega) (by omega) e1 e2 e3 e4
  have e6 := frv (n := AP l) n3
  refine Int.eq_of_mul_eq_mul_right n3 ?_
  have e8 : len l * (sq l * len l - l.sum * l.sum) = AP l := (AP_eq l).symm
  rw [e8] at e5
  clear e1 e2 e3 e4 e8
  generalize fr (AP l) (len l * len l * len l) = y at *
  generalize spr l = x at *
  generalize len l * len l * len l = n at *
  generalize AP l = p at *
  calc x.1 * y.2 * n = (x.1 * n) * y.2 := by grind
    _ = p * x.2 * y.2 := by rw [e5]
    _ = p * y.2 * x.2 := by grind
    _ = y.1 * n * x.2 := by rw [e6]
    _ = y.1 * x.2 * n := by grind
theorem mn_low {l : List Int} (h : l ≠ []) : Low (mn l) := fr_low (by have := len_pos h; omega)
theorem sz_s {l : List Int} (h : l.length ≤ 200) (hf : Few l) : Sz 60 (l.sum, len l) := by
  have := sum_few hf
  refine ⟨?_, ?_⟩
  · show l.sum.natAbs < 2 ^ 60
    omega
  · show (len l).natAbs < 2 ^ 60
    unfold len
    omega
theorem sz_q {l : List Int} (h : l.length ≤ 200) (hf : Few l) : Sz 100 (sq l, len l) := by
  have := sq_few hf
  refine ⟨?_, ?_⟩
  · show (sq l).natAbs < 2 ^ 100
    omega
  · show (len l).natAbs < 2 ^ 100
    unfold len
    omega
theorem mn_sz {l : List Int} (h : l.length ≤ 200) (hf : Few l) : Sz 60 (mn l) := fr_sz (sz_s h hf)
theorem spr_sz {l : List Int} (h : l.length ≤ 200) (hf : Few l) : Sz 300 (spr l) := fr_sz (sz_up (sub2_sz (fr_sz (sz_q h hf)) (fr_sz (mul2_sz (mn_sz h hf) (mn_sz h hf)))) (by decide))
def spRare : Sp := fun vs H Q _ => ∃ (S D : Addr) (m : Int), vs = [.ref D, .int m] ∧ 0 < m ∧ m < 1000 ∧ DrawAt S D H ∧ ∀ H' b, Go S D H H' → Q (.bl b) H'
def spTally (K : PySem.W.Frag) : Sp := fun vs H Q _ => ∃ (a : Addr) (ns : List Int), vs = [.ref a] ∧ SqT K H a (ns.map V.int) ∧ ns.length ≤ 200 ∧ Few ns ∧ ∀ (H' : Hp) (p : Addr), Same H H' → H' p = some (.tup (tal ns)) → Q (.ref p) H'
def spLTally (K : PySem.W.Frag) : Sp := fun vs H Q _ => ∃ (a : Addr) (ns : List Int), vs = [.ref a] ∧ SqL K H a (ns.map V.int) ∧ ns.length ≤ 200 ∧ Few ns ∧ ∀ (H' : Hp) (p : Addr), Same H H' → H' p = some (.tup (tal ns)) → Q (.ref p) H'
def spJoin (K : PySem.W.Frag) : Sp := fun vs H Q _ => ∃ (p q : Addr) (xs ys : List Int), vs = [.ref p, .ref q] ∧ H p = some (.tup (tal xs)) ∧ H q = some (.tup (tal ys)) ∧ ∀ (H' : Hp) (r : Addr), Same H H' → H' r = some (.tup (tal (xs ++ ys))) → Q (.ref r) H'
def spMean (K : PySem.W.Frag) : Sp := fun vs H Q _ => ∃ (p : Addr) (xs : List Int), vs = [.ref p] ∧ H p = some (.tup (tal xs)) ∧ xs.length ≤ 200 ∧ Few xs ∧ ∀ H' : Hp, Same H H' → (xs = [] → Q .non H') ∧ ∀ r, xs ≠ [] → H' r = some (tupF (mn xs)) → Q (.ref r) H'
def spSpread (K : PySem.W.Frag) : Sp := fun vs H Q _ => ∃ (p : Addr) (xs : List Int), vs = [.ref p] ∧ H p = some (.tup (tal xs)) ∧ xs.length ≤ 200 ∧ Few xs ∧ ∀ H' : Hp, Same H H' → (xs = [] → Q .non H') ∧ ∀ r, xs ≠ [] → H' r = some (tupF (spr xs)) → Q (.ref r) H'
def spFigureX : Sp := fun vs H Q _ => ∃ (S D : Addr) (k : Int), vs = [.ref D, .int k] ∧ DrawAt S D H ∧ ∀ H' (z : Int), z.natAbs ≤ 2 ^ 40 → Go S D H H' → Q (.int z) H'
def spLineX : Sp := fun vs H Q _ => ∃ (S D : Addr), vs = [.ref D] ∧ DrawAt S D H ∧ ∀ (H' : Hp) (L : Addr) (ns : List Int), Go S D H H' → H L = none → H' L = some (.lst (ns.map V.int)) → ns.length ≤ 60 → Few ns → Q (.ref L) H'
def spSame (K : PySem.W.Frag) : Sp := fun vs H Q _ => ∃ (p q : Addr) (l : List Int), vs = [.ref p, .ref q] ∧ H p = some (.tup (tal l)) ∧ H q = some (.tup (tal l)) ∧ ∀ H', Same H H' → Q (.bl true) H'
def spHoldsX (K : PySem.W.Frag) : Sp := fun vs H Q _ => ∃ (a : Addr) (ns : List Int), vs = [.ref a] ∧ SqL K H a (ns.map V.int) ∧ ns.length ≤ 200 ∧ Few ns ∧ ∀ H', Same H H' → Q (.bl true) H'
section
variable {P : Program} {w : World} {K : PySem.W.Frag} {mg : Str → Option Value} {base : Heap}
theorem ok__law_draw (T : Txt w K mg) {f : Addr} {fd : FuncData} (F : FnP K "_law_draw" s__law_draw f fd) : FnOk P w K mg base CX0 1 f fd ["d", "many"] spDraw := by
  refine F.ok sc__law_draw (fun vs H Q E h => ?_) (fun cdv A outer s H vs Q E hr h => ?_)
  · obtain ⟨S, D, m, rfl, _⟩ := h
    rfl
  · obtain ⟨S, D, m, rfl, hm, d, q⟩ := h
    obtain ⟨cs, hS⟩ := id d.cells
    obtain ⟨i, r, c, h0, hD⟩ := id d.at_
    have hm0 : 0 < m := hm.1
    refine ⟨_, PSs.nox (pss_cons (ps_if (pt_cmpR op_gt (pe_ix ix_list (pv 0) pe_int (fun _ _ => rfl)) pe_int (nomark _)) (pss_cons (ps_set (i := 2) sc__law_draw.nd rfl (Or.inl rfl) (pe_ix ix_list (pv 0) pe_int (fun _ _ => rfl)))
      (pss_cons (ps_asg (pe_op op_fdivW (pv 2) (pv 1)) (pg_sub (pv 0) pe_int set_list))
      (pss_one (ps_ret (pe_op op_mod (pe_callTy call_int1 (by rfl) T.b_int (by decide +kernel) (pa_cons (pv 2) pa_nil)) (pv 1)))))) pss_nil)
      (pss_cons (ps_set (i := 3) sc__law_draw.nd rfl (Or.inl rfl) pe_int)
      (Evl.pss_cut (ps_if (pt_cmpR op_lt (pe_ix ix_list (pv 0) pe_int (fun _ _ => rfl)) (pe_callB call_len (by rfl) T.b_len (by decide +kernel) (pa_cons (pe_ix ix_list (pv 0) pe_int (fun _ _ => rfl)) pa_nil)) (nomark _)) (pss_cons (ps_set (i := 4) sc__law_draw.nd rfl (Or.inl rfl) (pe_ix ix_list (pe_ix ix_list (pv 0) pe_int (fun _ _ => rfl)) (pe_ix ix_list (pv 0) pe_int (fun _ _ => rfl)) (fun _ _ => rfl)))
      (pss_one (ps_set (i := 3) sc__law_draw.nd rfl (Or.inl rfl) (pe_op op_add (pe_op op_mul pe_int (pe_callB call_abs (by rfl) T.b_abs (by decide +kernel) (pa_cons (pv 4) pa_nil))) (pe_callTy call_int1 (by rfl) T.b_int (by decide +kernel) (pa_cons (pe_cmpR op_lt (pv 4) pe_int (nomark _)) pa_nil)))))) pss_nil)
      (pss_cons (ps_augS (pv 0) pe_int get_list pe_int ip_add set_list)
      (pss_cons (ps_if (pt_cmpR op_ge (pv 3) (pe_op op_mul pe_int (pe_op op_pow pe_int pe_int)) (nomark _)) (pss_cons (ps_set (i := 2) sc__law_draw.nd rfl (Or.inl rfl) (pe_op op_mod (pe_callTy call_int1 (by rfl) T.b_int (by decide +kernel) (pa_cons (pe_op op_fdivW (pv 3) pe_int) pa_nil)) (pe_op op_shl pe_int pe_int)))
      (pss_cons (ps_asg (pe_op op_fdivW (pv 2) (pv 1)) (pg_sub (pv 0) pe_int set_list))
      (pss_one (ps_ret (pe_op op_mod (pe_callTy call_int1 (by rfl) T.b_int (by decide +kernel) (pa_cons (pv 2) pa_nil)) (pv 1)))))) pss_nil)
      (pss_cons (ps_asg (pe_op op_mod (pe_callTy call_int1 (by rfl) T.b_int (by decide +kernel) (pa_cons (pe_op op_add (pe_op op_add (pe_op op_add (pe_op op_mul (pe_ix ix_list (pv 0) pe_int (fun _ _ => rfl)) pe_int) (pe_op op_mul (pe_op op_mod (pe_callTy call_int1 (by rfl) T.b_int (by decide +kernel) (pa_cons (pv 3) pa_nil)) pe_int) pe_int)) (pe_op op_mul (pe_ix ix_list (pv 0) pe_int (fun _ _ => rfl)) pe_int)) pe_int) pa_nil)) pe_int) (pg_sub (pv 0) pe_int set_list))
      (pss_one (ps_ret (pe_op op_mod (pe_callTy call_int1 (by rfl) T.b_int (by decide +kernel) (pa_cons (pe_op op_fdivW (pe_ix ix_list (pv 0) pe_int (fun _ _ => rfl)) pe_int) pa_nil)) (pv 1)))))))))), ?_⟩
    refine ⟨_, rfl, D, _, _, _, rfl, rfl, SqL.of hD, atI_nat (j := 2) rfl, _, _, rfl, rfl, _, rfl, ?_⟩
    refine ite2 (fun e => ?_) (fun e => ?_)
    · refine ⟨_, rfl, D, _, _, _, rfl, rfl, SqL.of hD, atI_nat (j := 2) rfl, ?_⟩
      refine ⟨_, rfl, _, rfl, _, _, rfl, rfl, hm, _, rfl, D, _, _, 2, rfl, rfl, hD, rfl, ?_⟩
      refine ⟨_, rfl, .inl ⟨_, rfl, _, rfl, _, _, rfl, rfl, hm0, ?_⟩⟩
      refine q _ _ (Int.emod_nonneg _ (by omega)) (Int.emod_lt_of_pos _ hm0) ⟨d.set h0, Keep.refl.set⟩
    · refine ⟨fun σ' H' => ∃ (z : Int) (x : Option V), σ' = [some (.ref D), some (.int m), none, some (.int z), x] ∧ H' = H, ?_, ?_⟩
      · refine ⟨_, rfl, D, _, _, _, rfl, rfl, SqL.of hD, atI_nat (j := 1) rfl, ?_⟩
        refine ⟨_, rfl, D, _, _, _, rfl, rfl, SqL.of hD, atI_nat (j := 0) rfl, _, _, rfl, .inl ⟨_, SqL.of hS, rfl⟩, _, _, rfl, rfl, _, rfl, ?_⟩
        refine ite2 (fun e1 => ?_) (fun e1 => ?_)
        · have e2 : i < ((cs.map V.int).length : Int) := of_decide_eq_true e1
          have e3 : i.toNat < (cs.map V.int).length := by omega
          have e4 : i.toNat < cs.length := by rw [List.length_map] at e3; exact e3
          have e5 : (cs.map V.int)[i.toNat]? = some (.int cs[i.toNat]) := by
            rw [List.getElem?_map, List.getElem?_eq_getElem e4]
            rfl
          have e6 : atI (cs.map V.int) i = some (.int cs[i.toNat]) := by
            have := atI_nat (xs := cs.map V.int) e5
            rw [show ((i.toNat : Nat) : Int) = i by omega] at this
            exact this
          refine ⟨_, rfl, D, _, _, _, rfl, rfl, SqL.of hD, atI_nat (j := 0) rfl, ?_⟩
          refine ⟨_, rfl, D, _, _, _, rfl, rfl, SqL.of hD, atI_nat (j := 1) rfl, ?_⟩
          refine ⟨S, _, _, _, rfl, rfl, SqL.of hS, e6, ?_⟩
          refine ⟨_, rfl, _, rfl, _, _, rfl, rfl, .inl ⟨by decide, by decide⟩, ?_⟩
          refine ⟨_, rfl, _, _, rfl, rfl, .inr ⟨_, rfl, _, _, rfl, rfl, ?_⟩⟩
          exact ⟨_, _, rfl, rfl⟩
        · exact ⟨_, _, rfl, rfl⟩
      · rintro σ' H' ⟨z, x, rfl, rfl⟩
        refine ⟨_, rfl, D, _, _, _, rfl, rfl, SqL.of hD, atI_nat (j := 1) rfl, ?_⟩
        refine ⟨_, _, rfl, rfl, D, _, _, 1, rfl, rfl, hD, rfl, ?_⟩
        have hD1 : (upd H' D (.lst [.ref S, .int (i + 1), .int r, .int c])) D = some (.lst [.ref S, .int (i + 1), .int r, .int c]) := upd_same
        have d1 : DrawAt S D (upd H' D (.lst [.ref S, .int (i + 1), .int r, .int c])) := d.set (by omega)
        refine ⟨_, rfl, _, _, rfl, rfl, ⟨by decide, by decide, by decide⟩, _, _, rfl, rfl, .inl ⟨by decide, by decide⟩, _, _, rfl, rfl, _, rfl, ?_⟩
        refine ite2 (fun e1 => ?_) (fun e1 => ?_)
        · refine ⟨_, rfl, _, _, rfl, rfl, ⟨by decide, by decide⟩, .inl ⟨_, rfl, _, _, rfl, rfl, ⟨by decide, by decide, by decide⟩, ?_⟩⟩
          refine ⟨_, _, rfl, rfl, ?_, ?_⟩
          · show (0 : Int) < 1 * 2 ^ (6000 : Int).toNat
            exact Int.mul_pos (by decide) (Int.pow_pos (by decide))
          · refine ⟨_, rfl, _, rfl, _, _, rfl, rfl, hm, _, rfl, D, _, _, 2, rfl, rfl, hD1, rfl, ?_⟩
            refine ⟨_, rfl, .inl ⟨_, rfl, _, rfl, _, _, rfl, rfl, hm0, ?_⟩⟩
            exact q _ _ (Int.emod_nonneg _ (by omega)) (Int.emod_lt_of_pos _ hm0) ⟨d1.set (by omega), Keep.refl.set.set⟩
        · refine ⟨_, rfl, D, _, _, _, rfl, rfl, SqL.of hD1, atI_nat (j := 3) rfl, _, _, rfl, rfl, .inr ⟨by decide, by decide⟩, ?_⟩
          refine ⟨_, rfl, .inl ⟨_, rfl, _, _, rfl, rfl, (by show (0 : Int) < 2147483629; decide), _, _, rfl, rfl, .inr ⟨by decide, by decide⟩, _, _, rfl, rfl, ?_⟩⟩
          refine ⟨_, rfl, D, _, _, _, rfl, rfl, SqL.of hD1, atI_nat (j := 1) rfl, _, _, rfl, rfl, .inr ⟨by decide, by decide⟩, _, _, rfl, rfl, _, _, rfl, rfl, .inl ⟨_, rfl, ?_⟩⟩
          refine ⟨_, _, rfl, rfl, (by show (0 : Int) < 2147483647; decide), _, rfl, D, _, _, 3, rfl, rfl, hD1, rfl, ?_⟩
          refine ⟨_, rfl, D, _, _, _, rfl, rfl, SqL.of upd_same, atI_nat (j := 3) rfl, _, _, rfl, rfl, ⟨by decide, by decide⟩, ?_⟩
          refine .inl ⟨_, rfl, _, rfl, _, _, rfl, rfl, hm0, ?_⟩
          exact q _ _ (Int.emod_nonneg _ (by omega)) (Int.emod_lt_of_pos _ hm0) ⟨d1.set (by omega), Keep.refl.set.set⟩
theorem ok__law_begin (T : Txt w K mg) {f : Addr} {fd : FuncData} (F : FnP K "_law_begin" s__law_begin f fd) : FnOk P w K mg base CX0 1 f fd ["script"] (spBegin K) := by
  refine F.ok sc__law_begin (fun vs H Q E h => ?_) (fun cdv A outer s H vs Q E hr h => ?_)
  · obtain ⟨a, ns, rfl, _⟩ := h
    rfl
  · obtain ⟨a, ns, rfl, hS, hlen, q⟩ := h
    refine ⟨_, PSs.nox (pss_one (ps_ret (pe_lst (pa_cons (pe_lc (own := [("cell", 1)]) (g := (gName 1)) (tt := tYes) rfl sc__law_begin.nd (pi_list (pv 0)) (blkOk_by (N := N__law_begin) (sc := defScope s__law_begin) (by decide +kernel)) (fun _ _ _ _ _ => (pg_name (i := 1) sc__law_begin.nd rfl (Or.inl rfl))) (fun _ _ _ _ _ => pts_nil) (fun _ _ _ _ _ => (pe_callTy call_int1 (by rfl) T.b_int (by decide +kernel) (pa_cons (pv 1) pa_nil)))) (pa_cons pe_int (pa_cons pe_int (pa_cons pe_int pa_nil))))))), ?_⟩
    refine ⟨_, rfl, a, rfl, ⟨_, hS⟩, fun L hL => lc_list (xs := ns.map V.int) (fun i H' => H' = upd H L (.lst ((ns.take i).map V.int))) rfl (fun i H' _ e => ?_) ?_ ?_⟩
    · subst e
      exact (show Same H _ from fun b o h => by rw [upd_ne (ne_of_none h hL)]; exact h).seq hS
    · rintro i x H1 hi rfl
      obtain ⟨z, rfl, hz⟩ := getV hi
      refine ⟨rfl, _, rfl, .inl ⟨_, rfl, _, upd_same, ?_, ?_⟩⟩
      · rw [List.length_map, List.length_take]
        exact Nat.lt_of_le_of_lt (Nat.min_le_right _ _) (small1000 (by omega))
      · rw [upd_upd, take_map_succ (f := V.int) hz]
    · rintro H' rfl
      refine ⟨by show 4 ≤ sizeLine; decide, fun D hD => ?_⟩
      have nLD : D ≠ L := fun e => by
        rw [e, upd_same] at hD
        cases hD
      have hD0 : H D = none := by
        rw [upd_ne nLD] at hD
        exact hD
      refine q L D _ (fun b o h => ?_) hD0 ⟨fun e => nLD e.symm, ⟨ns, ?_⟩, ⟨0, 0, 7, by decide, upd_same⟩⟩
      · rw [upd_ne (ne_of_none h hD0), upd_ne (ne_of_none h hL)]
        exact h
      · rw [upd_ne (fun e => nLD e.symm), upd_same]
        rw [List.take_of_length_le (by rw [List.length_map]; exact Nat.le_refl _)]
theorem ok__law_is_int (T : Txt w K mg) {f : Addr} {fd : FuncData} (F : FnP K "_law_is_int" s__law_is_int f fd) : FnOk P w K mg base CX0 1 f fd ["thing"] spIsInt := by
  refine F.ok sc__law_is_int (fun vs H Q E h => ?_) (fun cdv A outer s H vs Q E hr h => ?_)
  · obtain ⟨p, rfl, _⟩ := h
    rfl
  · obtain ⟨i, rfl, q⟩ := h
    refine ⟨_, PSs.nox (pss_one (ps_ret (pe_and (pe_callB call_isi (by rfl) T.b_isinstance (by decide +kernel) (pa_cons (pv 0) (pa_cons (pe_bltn (v := .ty "int") (u := .type "int") (by rfl) T.b_int (by decide +kernel) rfl) pa_nil))) (pe_one (pe_not (pe_callB call_isi (by rfl) T.b_isinstance (by decide +kernel) (pa_cons (pv 0) (pa_cons (pe_bltn (v := .ty "bool") (u := .type "bool") (by rfl) T.b_bool (by decide +kernel) rfl) pa_nil)))))))), ?_⟩
    refine ⟨_, rfl, _, .ty "int", .type "int", .type "int", true, rfl, .ty _, .base (.int _), kit_ty (by decide +kernel), true, rfl, ?_⟩
    exact ⟨_, rfl, _, .ty "bool", .type "int", .type "bool", false, rfl, .ty _, .base (.int _), kit_ty (by decide +kernel), false, rfl, q⟩
end
/-! ### the table of bodies_of may grow -/
def TS (P : Addr) (H H' : Hp) : Prop := GxR.TabG H' P ∧ ∀ b o, b ≠ P → H b = some o → H' b = some o
section
variable {P p : Addr} {H H1 H2 H' : Hp} {o : HO} {K : PySem.W.Frag}
theorem TS.refl (t : GxR.TabG H P) : TS P H H := ⟨t, fun _ _ _ h => h⟩
theorem TS.trans (a : TS P H H1) (b : TS P H1 H2) : TS P H H2 := ⟨b.1, fun x o n h => b.2 x o n (a.2 x o n h)⟩
theorem TS.of_same (t : GxR.TabG H P) (s : Same H H') : TS P H H' := ⟨let ⟨ps, h, r⟩ := t; ⟨ps, s _ _ h, r⟩, fun b o _ h => s b o h⟩
theorem tab_ne (t : GxR.TabG H P) (h : H p = none) : p ≠ P := fun e => by
  obtain ⟨ps, h1, _⟩ := t
  rw [e, h1] at h
  cases h
theorem TS.new (t : GxR.TabG H P) (h : H p = none) : TS P H (upd H p o) := TS.of_same t (same_new h)
theorem TS.of_tab (t : GxR.Tabbed P H H') : TS P H H' := ⟨t.1, fun b o n h => (t.2 b n).trans h⟩
/-- a change at a place that H does not know -/
theorem TS.mut (t : TS P H H') (h : H p = none) (n : p ≠ P) : TS P H (upd H' p o) := ⟨let ⟨ps, h1, r⟩ := t.1; ⟨ps, by rw [upd_ne n.symm]; exact h1, r⟩, fun b u m e => by
  rw [upd_ne (ne_of_none e h)]
  exact t.2 b u m e⟩
/-- a place that is free behind was free ahead -/
theorem TS.back (t : GxR.TabG H P) (a : TS P H H') (h : H' p = none) : H p = none := by
  cases q : H p with
  | none => rfl
  | some u =>
    rw [a.2 p u (tab_ne a.1 h) q] at h
    cases h
end
section
variable {P : Program} {w : World} {K : PySem.W.Frag} {mg : Str → Option Value} {base : Heap}
theorem okC {x qual : Str} {params : Arguments} {body : List Stmt} {scope : Scope} {dvs : List V} {kws : List (Str × V)} {fd : FuncData} {CX : CXT} {N ps : List Str} {k : Nat} {sp : Sp} {p : He.Defn} (F : FunD K x qual params body scope dvs kws (He.fAd K p) fd) (S : FnScope N ps scope) (len : ∀ vs H Q E, sp vs H Q E → vs.length = ps.length)
    (hbody : ∀ (cdv : Value) (A : Around) (outer : List Env) (s : Shared) (H : Hp) (vs : List V) (Q : VK) (E : XK), cdv = .ref (He.codeOf K p) → Room k (A.deeper (envOfC qual scope s.heap.objs.size (He.fAd K p) cdv)) → sp vs H Q E →
      ∃ t, PSs (cxOf CX P w K mg base N qual scope (He.fAd K p) cdv A outer s H E) body t ∧ t { nx := fun _ H' => Q .non H', rt := Q } (start N vs) H) : FnOk P w K mg base CX (k + 1) (He.fAd K p) fd ps sp := by
  obtain ⟨oc, od, dV, kV, doc, pm, an, cdv, ct, osl, rfl, lk, hcd, _, _⟩ := F.ex
  obtain ⟨c, hc⟩ := He.codeIn_ref hcd
  have e := He.codeOf_eq lk (show _ = Value.ref c from hc)
  exact fn_of lk hcd S len fun A outer s H vs Q E hr hsp => hbody cdv A outer s H vs Q E (by rw [hc, e]) hr hsp
theorem kept_ofC {h : Heap} (X : K.In h) (G : h.Ns mainGlobals mg) {x : Str} {ps : List Str} {st : Stmt} {k : Nat} {sp : Sp}
    (hd : ∃ fd, FnP K x st (He.ga K x) fd) (hg : (He.Fa.glo x).ok K = true)
    (hb : ∀ (kV doc pm : Value) (an : Option Addr) (cdv ct : Value) (us : List Value), us.length = ps.length → bindArgs (PySem.W.fnOf x x (defArgs st) (defBody st) (defScope st) .none kV doc pm an cdv ct) ⟨us, []⟩ = pure (ps.zip us))
    (ok : ∀ fd, FnP K x st (He.fAd K (x, none)) fd → FnOk P w K mg base CX0 k (He.fAd K (x, none)) fd ps sp) : Kept P w K mg base k x ps sp := by
  obtain ⟨fd, F⟩ := hd
  exact ⟨_, fd, ok fd F, He.glo_ok X G hg, F.kp, F.bindsN hb⟩
end
/-! ### gauges -/
def Rws (K : PySem.W.Frag) (H : Hp) (g : Int) (rows : List Addr) (col : List Int) : Prop := rows.length = col.length ∧ ∀ (i : Nat) (t : Addr), rows[i]? = some t → ∃ (row : List V) (z : Int), SqT K H t row ∧ atI row g = some (.int z) ∧ col[i]? = some z
def spGauge (K : PySem.W.Frag) : Sp := fun vs H Q _ => ∃ (F : Addr) (rows : List Addr) (col : List Int) (g : Int) (a b : Nat), vs = [.ref F, .int g, .int (a : Int), .int (b : Int)] ∧ SqT K H F (rows.map V.ref) ∧ Rws K H g rows col ∧ a ≤ b ∧ b ≤ col.length ∧ col.length ≤ 40 ∧ Few col ∧ GxR.TabG H (BP K) ∧
  ∀ (H' : Hp) (p : Addr), TS (BP K) H H' → H' p = some (.tup (tal ((col.take b).drop a))) → Q (.ref p) H'
def spColumn : Sp := fun vs H Q _ => ∃ (S D : Addr) (m : Int), vs = [.ref D, .int m] ∧ 0 ≤ m ∧ m ≤ 40 ∧ DrawAt S D H ∧ ∀ (H' : Hp) (L : Addr) (ns : List Int), Go S D H H' → H L = none → H' L = some (.lst (ns.map V.int)) → (ns.length : Int) = m → Few ns → Q (.ref L) H'
def spHolds (K : PySem.W.Frag) : Sp := fun vs H Q _ => ∃ (F C : Addr) (rows : List Addr) (col : List Int) (g : Int), vs = [.ref F, .ref C, .int g] ∧ SqT K H F (rows.map V.ref) ∧ Rws K H g rows col ∧ SqL K H C (col.map V.int) ∧ C ≠ BP K ∧ col.length ≤ 40 ∧ Few col ∧ GxR.TabG H (BP K) ∧ ∀ H', TS (BP K) H H' → Q (.bl true) H'
def gauScope : Scope := match defBody s_gauge_tally with
  | [.Return (some (.Call _ [.Call _ [.GeneratorExp _ _ sc _] _ _] _ _)) _] => sc
  | _ => defScope s_gauge_tally
end Mt
namespace Mt
open PySem PySem.Spec PyProof.Rows L2
theorem lo_cons (n : Int) (r : List Int) : loO (n :: r) = some (r.foldl min n) := loO_fold r n
theorem hi_cons (n : Int) (r : List Int) : hiO (n :: r) = some (r.foldl max n) := hiO_fold r n
section
variable {P : Program} {w : World} {K : PySem.W.Frag} {mg : Str → Option Value} {base : Heap}
theorem ok__law_rare (T : Txt w K mg) (D__law_draw : Kept P w K mg base 1 "_law_draw" ["d", "many"] spDraw) {f : Addr} {fd : FuncData} (F : FnP K "_law_rare" s__law_rare f fd) : FnOk P w K mg base CX0 2 f fd ["d", "many"] spRare := by
  refine F.ok sc__law_rare (fun vs H Q E h => ?_) (fun cdv A outer s H vs Q E hr h => ?_)
  · obtain ⟨S, D, m, rfl, _⟩ := h
    rfl
  · obtain ⟨S, D, m, rfl, m0, m1, d, q⟩ := h
    refine ⟨_, PSs.nox (pss_one (ps_ret (pe_cmpR op_eq (pe_d D__law_draw (hr.mono (by decide)) (by rfl) (pa_cons (pv 0) (pa_cons (pv 1) pa_nil))) (pe_op op_fdivW (pv 1) pe_int) (nomark _)))), ?_⟩
    exact ⟨_, rfl, _, rfl, S, D, m, rfl, divW_of m0 (by omega), d, fun H1 v _ _ g => ⟨_, rfl, _, _, rfl, rfl, ⟨by decide, by decide⟩, rfl, q H1 _ g⟩⟩
theorem ok_tally_of (T : Txt w K mg) {f : Addr} {fd : FuncData} (F : FnP K "tally_of" s_tally_of f fd) : FnOk P w K mg base CX0 1 f fd ["values"] (spTally K) := by
  refine F.ok sc_tally_of (fun vs H Q E h => ?_) (fun cdv A outer s H vs Q E hr h => ?_)
  · obtain ⟨a, ns, rfl, _⟩ := h
    rfl
  · obtain ⟨a, ns, rfl, hS, hl, hf, q⟩ := h
    refine ⟨_, PSs.nox (pss_cons (ps_set (i := 1) sc_tally_of.nd rfl (Or.inl rfl) (pe_callB (cr_sum rfl) (by rfl) T.b_sum (by decide +kernel) (pa_cons (pe_lc (own := [("worth", 2)]) (g := (gName 2)) (tt := tYes) rfl sc_tally_of.nd (pi_tup (pv 0)) (blkOk_by (N := N_tally_of) (sc := defScope s_tally_of) (by decide +kernel)) (fun _ _ _ _ _ => (pg_name (i := 2) sc_tally_of.nd rfl (Or.inl rfl))) (fun _ _ _ _ _ => pts_nil) (fun _ _ _ _ _ => (pe_op op_mul (pv 2) (pv 2)))) pa_nil)))
      (pss_cons (ps_set (i := 3) sc_tally_of.nd rfl (Or.inl rfl) (pe_callBK (cr_minT rfl hr.units) (by rfl) T.b_min (by decide +kernel) (pa_cons (pv 0) pa_nil) (pk_cons pe_non pk_nil)))
      (pss_cons (ps_set (i := 4) sc_tally_of.nd rfl (Or.inl rfl) (pe_callBK (cr_maxT rfl hr.units) (by rfl) T.b_max (by decide +kernel) (pa_cons (pv 0) pa_nil) (pk_cons pe_non pk_nil)))
      (pss_one (ps_ret (pe_tup (pa_cons (pe_callB call_len (by rfl) T.b_len (by decide +kernel) (pa_cons (pv 0) pa_nil)) (pa_cons (pe_callB (cr_sumT rfl) (by rfl) T.b_sum (by decide +kernel) (pa_cons (pv 0) pa_nil)) (pa_cons (pv 1) (pa_cons (pv 3) (pa_cons (pv 4) pa_nil))))))))))), ?_⟩
    refine ⟨_, rfl, a, rfl, ⟨_, hS⟩, fun L hL => lc_tup (xs := ns.map V.int) (fun i H' => H' = upd H L (.lst ((ns.take i).map fun z => V.int (z * z)))) rfl (fun i H' _ e => ?_) ?_ ?_⟩
    · subst e
      exact same_t (same_new hL) hS
    · rintro i x H1 hi rfl
      obtain ⟨z, rfl, hz⟩ := getV hi
      have hzf := hf z (List.mem_of_getElem? hz)
      refine ⟨rfl, _, rfl, _, rfl, _, _, rfl, rfl, .inl ⟨by omega, by omega⟩, _, upd_same, ?_, ?_⟩
      · rw [List.length_map, List.length_take]
        exact line6 (by omega)
      · rw [upd_upd, take_map_succ (f := fun z => V.int (z * z)) hz]
    · rintro H' rfl
      rw [List.length_map, List.take_length]
      have s1 := same_new (o := .lst (ns.map fun z => V.int (z * z))) hL
      have hS1 := same_t s1 hS
      refine ⟨L, ns.map fun z => z * z, rfl, SqL.of (by rw [List.map_map]; exact upd_same), ?_⟩
      refine ⟨_, rfl, a, ns, .non, rfl, rfl, hS1, fun e => ?_, fun n r e => ?_⟩
      · refine ⟨_, rfl, a, ns, .non, rfl, rfl, hS1, fun _ => ?_, fun n r e2 => (by rw [e] at e2; cases e2)⟩
        exact ⟨_, rfl, _, _, rfl, .inr ⟨_, hS1, rfl⟩, _, rfl, a, ns, rfl, hS1, _, rfl, _, rfl, _, rfl, by show 5 ≤ sizeLine; decide, fun p hp => q _ p (s1.trans (same_new hp)) (by rw [upd_same, List.length_map, e]; rfl)⟩
      · refine ⟨_, rfl, a, ns, .non, rfl, rfl, hS1, fun e2 => (by rw [e] at e2; cases e2), fun n2 r2 e2 => ?_⟩
        obtain ⟨rfl, rfl⟩ := List.cons.inj (e.symm.trans e2)
        exact ⟨_, rfl, _, _, rfl, .inr ⟨_, hS1, rfl⟩, _, rfl, a, ns, rfl, hS1, _, rfl, _, rfl, _, rfl, by show 5 ≤ sizeLine; decide, fun p hp => q _ p (s1.trans (same_new hp)) (by rw [upd_same, List.length_map]; unfold tal; rw [e, lo_cons, hi_cons]; rfl)⟩
theorem ok__law_tally (T : Txt w K mg) {f : Addr} {fd : FuncData} (F : FnP K "_law_tally" s__law_tally f fd) : FnOk P w K mg base CX0 1 f fd ["row"] (spLTally K) := by
  refine F.ok sc__law_tally (fun vs H Q E h => ?_) (fun cdv A outer s H vs Q E hr h => ?_)
  · obtain ⟨a, ns, rfl, _⟩ := h
    rfl
  · obtain ⟨a, ns, rfl, hS, hl, hf, q⟩ := h
    refine ⟨_, PSs.nox (pss_cons (ps_if (pt_cmpR op_eq (pe_callB call_len (by rfl) T.b_len (by decide +kernel) (pa_cons (pv 0) pa_nil)) pe_int (nomark _)) (pss_one (ps_ret (pe_tup (pa_cons pe_int (pa_cons pe_int (pa_cons pe_int (pa_cons pe_non (pa_cons pe_non pa_nil)))))))) pss_nil)
      (pss_cons (ps_set (i := 1) sc__law_tally.nd rfl (Or.inl rfl) pe_int)
      (pss_cons (ps_set (i := 2) sc__law_tally.nd rfl (Or.inl rfl) pe_int)
      (pss_cons (ps_set (i := 3) sc__law_tally.nd rfl (Or.inl rfl) (pe_ix ix_list (pv 0) pe_int (fun _ _ => rfl)))
      (pss_cons (ps_set (i := 4) sc__law_tally.nd rfl (Or.inl rfl) (pe_ix ix_list (pv 0) pe_int (fun _ _ => rfl)))
      (pss_cons (ps_for PassesOwn.never rfl (pi_list (pv 0)) (pg_name (i := 5) sc__law_tally.nd rfl (Or.inl rfl)) (pss_cons (ps_set (i := 1) sc__law_tally.nd rfl (Or.inl rfl) (pe_op op_add (pv 1) (pv 5)))
      (pss_cons (ps_set (i := 2) sc__law_tally.nd rfl (Or.inl rfl) (pe_op op_add (pv 2) (pe_op op_mul (pv 5) (pv 5))))
      (Evl.pss_cut (ps_if (pt_cmpR op_lt (pv 5) (pv 3) (nomark _)) (pss_one (ps_set (i := 3) sc__law_tally.nd rfl (Or.inl rfl) (pv 5))) pss_nil)
      (pss_one (ps_if (pt_cmpR op_gt (pv 5) (pv 4) (nomark _)) (pss_one (ps_set (i := 4) sc__law_tally.nd rfl (Or.inl rfl) (pv 5))) pss_nil))))))
      (pss_one (ps_ret (pe_tup (pa_cons (pe_callB call_len (by rfl) T.b_len (by decide +kernel) (pa_cons (pv 0) pa_nil)) (pa_cons (pv 1) (pa_cons (pv 2) (pa_cons (pv 3) (pa_cons (pv 4) pa_nil)))))))))))))), ?_⟩
    refine ⟨_, rfl, _, _, rfl, .inl ⟨_, hS, rfl⟩, rfl, _, rfl, ?_⟩
    rw [List.length_map]
    refine ite2 (fun e => ?_) (fun e => ?_)
    · have e0 : ns = [] := by
        have := of_decide_eq_true e
        injection this with h
        exact List.eq_nil_of_length_eq_zero (by omega)
      subst e0
      exact ⟨by show 5 ≤ sizeLine; decide, fun p hp => q _ p (same_new hp) upd_same⟩
    · cases ns with
      | nil => exact absurd rfl e
      | cons n r =>
        refine ⟨_, rfl, a, _, _, _, rfl, rfl, hS, atI_nat (j := 0) rfl, _, rfl, a, _, _, _, rfl, rfl, hS, atI_nat (j := 0) rfl, ?_⟩
        refine ⟨_, rfl, a, rfl, ⟨_, hS⟩, for_list (K := K) (a := a) (xs := (n :: r).map V.int) (fun i σ H' => ∃ (y : Option V), σ = [some (.ref a), some (.int ((n :: r).take i).sum), some (.int (sq ((n :: r).take i))), some (.int (((n :: r).take i).foldl min n)), some (.int (((n :: r).take i).foldl max n)), y] ∧ H' = H) ⟨none, rfl, rfl⟩ (fun i σ H' _ ⟨_, _, e⟩ => e ▸ hS) ?_ ?_⟩
        · rintro i x σ H' hi ⟨y, rfl, rfl⟩
          obtain ⟨z, rfl, hz⟩ := getV hi
          have hzf := hf z (List.mem_of_getElem? hz)
          have et : (n :: r).take (i + 1) = (n :: r).take i ++ [z] := by
            rw [List.take_add_one, hz]
            rfl
          rw [et, List.sum_append, sq_app, List.foldl_append, List.foldl_append]
          generalize (n :: r).take i = t
          refine ⟨_, rfl, _, rfl, _, _, rfl, rfl, _, rfl, _, rfl, _, rfl, _, _, rfl, rfl, .inl ⟨by omega, by omega⟩, _, _, rfl, rfl, ?_⟩
          have e1 : t.sum + [z].sum = t.sum + z := by simp
          have e2 : sq t + sq [z] = sq t + z * z := by simp [sq]
          rw [e1, e2]
          refine ⟨fun σ' H2 => σ' = [some (.ref a), some (.int (t.sum + z)), some (.int (sq t + z * z)), some (.int (min (t.foldl min n) z)), some (.int (t.foldl max n)), some (.int z)] ∧ H2 = H', ?_, ?_⟩
          · refine ⟨_, rfl, _, rfl, _, _, rfl, rfl, _, rfl, ?_⟩
            refine ite2 (fun e => ?_) (fun e => ?_)
            · have e3 : z < t.foldl min n := of_decide_eq_true e
              have e4 : min (t.foldl min n) z = z := by omega
              rw [e4]
              exact ⟨_, rfl, rfl, rfl⟩
            · have e3 : ¬ z < t.foldl min n := fun h => e (decide_eq_true h)
              have e4 : min (t.foldl min n) z = t.foldl min n := by omega
              rw [e4]
              exact ⟨rfl, rfl⟩
          · rintro σ' H2 ⟨rfl, rfl⟩
            refine ⟨_, rfl, _, rfl, _, _, rfl, rfl, _, rfl, ?_⟩
            refine ite2 (fun e => ?_) (fun e => ?_)
            · have e3 : t.foldl max n < z := of_decide_eq_true e
              have e4 : max (t.foldl max n) z = z := by omega
              refine ⟨_, rfl, some (.int z), ?_, rfl⟩
              show _ = [_, _, _, _, some (V.int (max (t.foldl max n) z)), _]
              rw [e4]
              rfl
            · have e3 : ¬ t.foldl max n < z := fun h => e (decide_eq_true h)
              have e4 : max (t.foldl max n) z = t.foldl max n := by omega
              refine ⟨some (.int z), ?_, rfl⟩
              show _ = [_, _, _, _, some (V.int (max (t.foldl max n) z)), _]
              rw [e4]
              rfl
        · rintro σ H' ⟨y, rfl, rfl⟩
          rw [List.length_map, List.take_length]
          refine ⟨_, rfl, _, _, rfl, .inl ⟨_, hS, rfl⟩, _, rfl, _, rfl, _, rfl, _, rfl, by show 5 ≤ sizeLine; decide, fun p hp => q _ p (same_new hp) ?_⟩
          rw [upd_same, List.length_map]
          unfold tal
          rw [lo_cons, hi_cons, List.foldl_cons, List.foldl_cons, Int.min_self, Int.max_self]
          rfl
end
end Mt
namespace Mt
open PySem PySem.Spec PyProof.Rows L2
theorem ixT {X : Cx} {K : PySem.W.Frag} (h : X.K = K) : IxR X (rIxT K) := h ▸ ix_tup
def one (p : Addr) (l : List Int) : List (Addr × List Int) := if l = [] then [] else [(p, l)]
def low (l : List Int) : Int := (loO l).getD 0
def high (l : List Int) : Int := (hiO l).getD 0
theorem one_mem {p : Addr} {l : List Int} {e : Addr × List Int} (h : e ∈ one p l) : e = (p, l) ∧ l ≠ [] := by
  unfold one at h
  split at h
  · cases h
  · rename_i n
    exact ⟨List.mem_singleton.mp h, n⟩
theorem lo_some {l : List Int} (h : l ≠ []) : loO l = some (low l) := by
  cases l with
  | nil => exact absurd rfl h
  | cons x r =>
    unfold low
    rw [lo_cons]
    rfl
theorem hi_some {l : List Int} (h : l ≠ []) : hiO l = some (high l) := by
  cases l with
  | nil => exact absurd rfl h
  | cons x r =>
    unfold high
    rw [hi_cons]
    rfl
theorem ends_lo (p q : Addr) (xs ys : List Int) : ((one p xs ++ one q ys).map (fun e => low e.2) = [] → loO (xs ++ ys) = none) ∧ ∀ n r, (one p xs ++ one q ys).map (fun e => low e.2) = n :: r → loO (xs ++ ys) = some (r.foldl min n) := by
  rw [loO_app]
  unfold one
  by_cases hx : xs = [] <;> by_cases hy : ys = []
  · subst hx hy
    exact ⟨fun _ => rfl, fun n r h => by cases h⟩
  · subst hx
    rw [if_neg hy, lo_some hy]
    refine ⟨fun h => (by cases h), fun n r h => ?_⟩
    obtain ⟨rfl, rfl⟩ := List.cons.inj (show low ys :: [] = n :: r from h)
    rfl
  · subst hy
    rw [if_neg hx, lo_some hx]
    refine ⟨fun h => (by cases h), fun n r h => ?_⟩
    obtain ⟨rfl, rfl⟩ := List.cons.inj (show low xs :: [] = n :: r from h)
    rfl
  · rw [if_neg hx, if_neg hy, lo_some hx, lo_some hy]
    refine ⟨fun h => (by cases h), fun n r h => ?_⟩
    obtain ⟨rfl, rfl⟩ := List.cons.inj (show low xs :: [low ys] = n :: r from h)
    rfl
theorem ends_hi (p q : Addr) (xs ys : List Int) : ((one p xs ++ one q ys).map (fun e => high e.2) = [] → hiO (xs ++ ys) = none) ∧ ∀ n r, (one p xs ++ one q ys).map (fun e => high e.2) = n :: r → hiO (xs ++ ys) = some (r.foldl max n) := by
  rw [hiO_app]
  unfold one
  by_cases hx : xs = [] <;> by_cases hy : ys = []
  · subst hx hy
    exact ⟨fun _ => rfl, fun n r h => by cases h⟩
  · subst hx
    rw [if_neg hy, hi_some hy]
    refine ⟨fun h => (by cases h), fun n r h => ?_⟩
    obtain ⟨rfl, rfl⟩ := List.cons.inj (show high ys :: [] = n :: r from h)
    rfl
  · subst hy
    rw [if_neg hx, hi_some hx]
    refine ⟨fun h => (by cases h), fun n r h => ?_⟩
    obtain ⟨rfl, rfl⟩ := List.cons.inj (show high xs :: [] = n :: r from h)
    rfl
  · rw [if_neg hx, if_neg hy, hi_some hx, hi_some hy]
    refine ⟨fun h => (by cases h), fun n r h => ?_⟩
    obtain ⟨rfl, rfl⟩ := List.cons.inj (show high xs :: [high ys] = n :: r from h)
    rfl
theorem ext_of {K : PySem.W.Frag} {f : Int → Int → Int} {H : Hp} {N : Addr} {ns : List Int} {Q : VK} (h : SqL K H N (ns.map V.int)) (o : Option Int) (h0 : ns = [] → o = none) (h1 : ∀ n r, ns = n :: r → o = some (r.foldl f n)) (q : Q (vO o) H) : rExtL K f [.ref N] [.non] H Q :=
  ⟨N, ns, .non, rfl, rfl, h, fun e => by rw [h0 e] at q; exact q, fun n r e => by rw [h1 n r e] at q; exact q⟩
theorem getM {es : List (Addr × List Int)} {i : Nat} {x : V} (h : (es.map fun e => V.ref e.1)[i]? = some x) : ∃ e, x = .ref e.1 ∧ es[i]? = some e := by
  rw [List.getElem?_map] at h
  cases e : es[i]? with
  | none =>
    rw [e] at h
    cases h
  | some z =>
    rw [e] at h
    exact ⟨z, (Option.some.inj h).symm, rfl⟩
def Ends (p q : Addr) (xs ys : List Int) : Nat → List (Addr × List Int)
  | 0 => []
  | 1 => one p xs
  | _ => one p xs ++ one q ys
section
variable {P : Program} {w : World} {K : PySem.W.Frag} {mg : Str → Option Value} {base : Heap}
theorem ok_joined (T : Txt w K mg) {f : Addr} {fd : FuncData} (F : FnP K "joined" s_joined f fd) : FnOk P w K mg base CX0 1 f fd ["tally", "other"] (spJoin K) := by
  refine F.ok sc_joined (fun vs H Q E h => ?_) (fun cdv A outer s H vs Q E hr h => ?_)
  · obtain ⟨p, q, xs, ys, rfl, _⟩ := h
    rfl
  · obtain ⟨p, q, xs, ys, rfl, hp, hq, fin⟩ := h
    refine ⟨_, PSs.nox (pss_cons (ps_setLc (i := 2) (own := [("at", 3)]) (g := (gName 3)) (tt := tYes) rfl sc_joined.nd rfl rfl (sw_true rfl rfl rfl (by decide +kernel)) (pi_range1 (by rfl) T.b_range (pa_cons pe_int pa_nil)) (blkOk_by (N := N_joined) (sc := defScope s_joined) (by decide +kernel)) (fun _ _ _ _ _ => (pg_name (i := 3) sc_joined.nd rfl (Or.inl rfl))) (fun _ _ _ _ _ => pts_nil) (fun _ _ _ _ _ => (pe_op op_add (pe_ix (ixT (K := K) rfl) (pv 0) (pv 3) (fun _ _ => rfl)) (pe_ix (ixT (K := K) rfl) (pv 1) (pv 3) (fun _ _ => rfl)))))
      (pss_cons (ps_setLc (i := 4) (own := [("row", 5)]) (g := (gName 5)) rfl sc_joined.nd rfl rfl (sw_true rfl rfl rfl (by decide +kernel)) (pi_tup (pe_tup (pa_cons (pv 0) (pa_cons (pv 1) pa_nil)))) (blkOk_by (N := N_joined) (sc := defScope s_joined) (by decide +kernel)) (fun _ _ _ _ _ => (pg_name (i := 5) sc_joined.nd rfl (Or.inl rfl))) (fun _ _ _ _ _ => (pts_one (pt_cmpR op_gt (pe_ix (ixT (K := K) rfl) (pv 5) pe_int (fun _ _ => rfl)) pe_int (nomark _)))) (fun _ _ _ _ _ => (pv 5)))
      (pss_cons (ps_set (i := 6) sc_joined.nd rfl (Or.inl rfl) (pe_callBK (cr_minL rfl hr.units) (by rfl) T.b_min (by decide +kernel) (pa_cons (pe_lc (own := [("row", 5)]) (g := (gName 5)) (tt := tYes) rfl sc_joined.nd (pi_list (pv 4)) (blkOk_by (N := N_joined) (sc := defScope s_joined) (by decide +kernel)) (fun _ _ _ _ _ => (pg_name (i := 5) sc_joined.nd rfl (Or.inl rfl))) (fun _ _ _ _ _ => pts_nil) (fun _ _ _ _ _ => (pe_ix (ixT (K := K) rfl) (pv 5) pe_int (fun _ _ => rfl)))) pa_nil) (pk_cons pe_non pk_nil)))
      (pss_cons (ps_set (i := 7) sc_joined.nd rfl (Or.inl rfl) (pe_callBK (cr_maxL rfl hr.units) (by rfl) T.b_max (by decide +kernel) (pa_cons (pe_lc (own := [("row", 5)]) (g := (gName 5)) (tt := tYes) rfl sc_joined.nd (pi_list (pv 4)) (blkOk_by (N := N_joined) (sc := defScope s_joined) (by decide +kernel)) (fun _ _ _ _ _ => (pg_name (i := 5) sc_joined.nd rfl (Or.inl rfl))) (fun _ _ _ _ _ => pts_nil) (fun _ _ _ _ _ => (pe_ix (ixT (K := K) rfl) (pv 5) pe_int (fun _ _ => rfl)))) pa_nil) (pk_cons pe_non pk_nil)))
      (pss_one (ps_ret (pe_tup (StX.pa_star (pv 2) (pa_cons (pv 6) (pa_cons (pv 7) pa_nil)))))))))), ?_⟩
    refine ⟨3, rfl, by decide, by decide, fun L hL => lc_range (lo := 0) (n := 3) (fun j H' => H' = upd H L (.lst ([V.int (len xs + len ys), .int (xs.sum + ys.sum), .int (sq xs + sq ys)].take j))) rfl ?_ ?_⟩
    · rintro j H1 hj rfl
      have s0 := same_new (o := .lst ([V.int (len xs + len ys), .int (xs.sum + ys.sum), .int (sq xs + sq ys)].take j)) hL
      have hp1 := s0 _ _ hp
      have hq1 := s0 _ _ hq
      obtain ⟨a, b, ha, hb, hab⟩ : ∃ a b : Int, atI (tal xs) (0 + (j : Int)) = some (.int a) ∧ atI (tal ys) (0 + (j : Int)) = some (.int b) ∧ [V.int (len xs + len ys), .int (xs.sum + ys.sum), .int (sq xs + sq ys)].take (j + 1) = [V.int (len xs + len ys), .int (xs.sum + ys.sum), .int (sq xs + sq ys)].take j ++ [.int (a + b)] := by
        rw [Int.zero_add]
        rcases j with _ | _ | _ | j
        · exact ⟨_, _, atI_nat (j := 0) rfl, atI_nat (j := 0) rfl, rfl⟩
        · exact ⟨_, _, atI_nat (j := 1) rfl, atI_nat (j := 1) rfl, rfl⟩
        · exact ⟨_, _, atI_nat (j := 2) rfl, atI_nat (j := 2) rfl, rfl⟩
        · omega
      refine ⟨rfl, _, rfl, _, rfl, p, _, _, _, rfl, rfl, SqT.of hp1, ha, _, rfl, _, rfl, q, _, _, _, rfl, rfl, SqT.of hq1, hb, _, _, rfl, rfl, _, upd_same, ?_, ?_⟩
      · rw [List.length_take]
        exact line6 (by show min j 3 < _; omega)
      · rw [upd_upd, hab]
    · rintro H1 rfl
      have s1 := same_new (o := .lst [V.int (len xs + len ys), .int (xs.sum + ys.sum), .int (sq xs + sq ys)]) hL
      have hL1 := upd_same (H := H) (a := L) (o := .lst [V.int (len xs + len ys), .int (xs.sum + ys.sum), .int (sq xs + sq ys)])
      have hp1 := s1 _ _ hp
      have hq1 := s1 _ _ hq
      show tSeq _ _ _ _ (upd H L (.lst [V.int (len xs + len ys), .int (xs.sum + ys.sum), .int (sq xs + sq ys)]))
      generalize upd H L (.lst [V.int (len xs + len ys), .int (xs.sum + ys.sum), .int (sq xs + sq ys)]) = H1 at *
      refine ⟨_, rfl, _, rfl, by show 2 ≤ sizeLine; decide, fun T hT => ?_⟩
      have s2 := same_new (o := .tup [V.ref p, .ref q]) hT
      have hT2 := upd_same (H := H1) (a := T) (o := .tup [V.ref p, .ref q])
      have hp2 := s2 _ _ hp1
      have hq2 := s2 _ _ hq1
      have s12 := s1.trans s2
      have hL2 := s2 _ _ hL1
      generalize upd H1 T _ = H2 at s2 hT2 hp2 hq2 s12 hL2
      refine ⟨T, rfl, ⟨_, SqT.of hT2⟩, fun M hM => lc_tup (xs := [V.ref p, .ref q]) (fun i H' => H' = upd H2 M (.lst ((Ends p q xs ys i).map fun e => V.ref e.1))) rfl (fun i H' _ e => ?_) ?_ ?_⟩
      · subst e
        exact SqT.of (same_new hM _ _ hT2)
      · rintro i x H3 hi rfl
        have s3 := same_new (o := .lst ((Ends p q xs ys i).map fun e => V.ref e.1)) hM
        have gt : ∀ l : List Int, decide ((0 : Int) < len l) = true → l ≠ [] := fun l h e => by
          subst e
          exact absurd (of_decide_eq_true h) (by decide)
        rcases i with _ | _ | i
        · obtain rfl : V.ref p = x := Option.some.inj hi
          refine ⟨rfl, _, rfl, p, _, _, _, rfl, rfl, SqT.of (s3 _ _ hp2), atI_nat (j := 0) rfl, _, _, rfl, rfl, _, rfl, ?_⟩
          refine ite2 (fun e => ?_) (fun e => ?_)
          · exact ⟨_, rfl, _, upd_same, by show 0 < sizeLine; decide, by rw [upd_upd]; show _ = upd H2 M (.lst ((one p xs).map _)); unfold one; rw [if_neg (gt xs e)]; rfl⟩
          · show _ = upd H2 M (.lst ((one p xs).map _))
            have e0 : xs = [] := Decidable.byContradiction fun n => e (decide_eq_true (len_pos n))
            unfold one
            rw [if_pos e0]
            rfl
        · obtain rfl : V.ref q = x := Option.some.inj hi
          refine ⟨rfl, _, rfl, q, _, _, _, rfl, rfl, SqT.of (s3 _ _ hq2), atI_nat (j := 0) rfl, _, _, rfl, rfl, _, rfl, ?_⟩
          refine ite2 (fun e => ?_) (fun e => ?_)
          · refine ⟨_, rfl, _, upd_same, ?_, ?_⟩
            · show ((one p xs).map _).length < sizeLine
              unfold one
              split
              · exact (by decide : 0 < sizeLine)
              · exact (by decide : 1 < sizeLine)
            · rw [upd_upd]
              show _ = upd H2 M (.lst ((one p xs ++ one q ys).map _))
              rw [List.map_append]
              have : one q ys = [(q, ys)] := if_neg (gt ys e)
              rw [this]
              rfl
          · show _ = upd H2 M (.lst ((one p xs ++ one q ys).map _))
            have e0 : ys = [] := Decidable.byContradiction fun n => e (decide_eq_true (len_pos n))
            have : one q ys = [] := if_pos e0
            rw [this, List.append_nil]
            rfl
        · cases hi
      · rintro H3 rfl
        have s3 := same_new (o := .lst ((one p xs ++ one q ys).map fun e => V.ref e.1)) hM
        have hM3 := upd_same (H := H2) (a := M) (o := .lst ((one p xs ++ one q ys).map fun e => V.ref e.1))
        have hr : ∀ e ∈ one p xs ++ one q ys, upd H2 M (.lst ((one p xs ++ one q ys).map fun e => V.ref e.1)) e.1 = some (.tup (tal e.2)) ∧ e.2 ≠ [] := fun e he => by
          rcases List.mem_append.mp he with h | h
          · obtain ⟨rfl, h2⟩ := one_mem h
            exact ⟨s3 _ _ hp2, h2⟩
          · obtain ⟨rfl, h2⟩ := one_mem h
            exact ⟨s3 _ _ hq2, h2⟩
        have s13 := s12.trans s3
        have hL3 := s3 _ _ hL2
        have elo := ends_lo p q xs ys
        have ehi := ends_hi p q xs ys
        have el2 : (one p xs ++ one q ys).length ≤ 2 := by
          unfold one
          split <;> split <;> simp
        show tSeq _ _ _ _ (upd H2 M (.lst ((one p xs ++ one q ys).map fun e => V.ref e.1)))
        generalize upd H2 M (.lst ((one p xs ++ one q ys).map fun e => V.ref e.1)) = H3 at *
        generalize one p xs ++ one q ys = es at *
        refine ⟨_, rfl, M, rfl, ⟨_, SqL.of hM3⟩, fun N hN => lc_list (xs := es.map fun e => V.ref e.1) (fun i H' => H' = upd H3 N (.lst ((es.take i).map fun e => V.int (low e.2)))) rfl (fun i H' _ e => ?_) ?_ ?_⟩
        · subst e
          exact same_l (same_new hN) (SqL.of hM3)
        · rintro i x H4 hi rfl
          obtain ⟨e, rfl, he⟩ := getM hi
          obtain ⟨h1, h2⟩ := hr e (List.mem_of_getElem? he)
          refine ⟨rfl, _, rfl, e.1, _, _, _, rfl, rfl, SqT.of (same_new hN _ _ h1), (atI_nat (j := 3) (by show some (vO (loO e.2)) = some (V.int (low e.2)); rw [lo_some h2]; rfl)), _, upd_same, ?_, ?_⟩
          · rw [List.length_map, List.length_take]
            exact line6 (by omega)
          · rw [upd_upd, take_map_succ (f := fun e : Addr × List Int => V.int (low e.2)) he]
        · rintro H4 rfl
          rw [List.length_map, List.take_length]
          have s4 := s13.trans (same_new (o := .lst (es.map fun e => V.int (low e.2))) hN)
          have hL4 := same_new (o := .lst (es.map fun e => V.int (low e.2))) hN _ _ hL3
          have hM4 := same_new (o := .lst (es.map fun e => V.int (low e.2))) hN _ _ hM3
          have hr4 : ∀ e ∈ es, upd H3 N (.lst (es.map fun e => V.int (low e.2))) e.1 = some (.tup (tal e.2)) ∧ e.2 ≠ [] := fun e he => ⟨same_new hN _ _ (hr e he).1, (hr e he).2⟩
          refine ext_of (ns := es.map fun e => low e.2) (SqL.of (by rw [List.map_map]; exact upd_same)) (loO (xs ++ ys)) elo.1 elo.2 ?_
          generalize upd H3 N (.lst (es.map fun e => V.int (low e.2))) = H4 at *
          refine ⟨_, rfl, M, rfl, ⟨_, SqL.of hM4⟩, fun O hO => lc_list (xs := es.map fun e => V.ref e.1) (fun i H' => H' = upd H4 O (.lst ((es.take i).map fun e => V.int (high e.2)))) rfl (fun i H' _ e => ?_) ?_ ?_⟩
          · subst e
            exact same_l (same_new hO) (SqL.of hM4)
          · rintro i x H5 hi rfl
            obtain ⟨e, rfl, he⟩ := getM hi
            obtain ⟨h1, h2⟩ := hr4 e (List.mem_of_getElem? he)
            refine ⟨rfl, _, rfl, e.1, _, _, _, rfl, rfl, SqT.of (same_new hO _ _ h1), (atI_nat (j := 4) (by show some (vO (hiO e.2)) = some (V.int (high e.2)); rw [hi_some h2]; rfl)), _, upd_same, ?_, ?_⟩
            · rw [List.length_map, List.length_take]
              exact line6 (by omega)
            · rw [upd_upd, take_map_succ (f := fun e : Addr × List Int => V.int (high e.2)) he]
          · rintro H5 rfl
            rw [List.length_map, List.take_length]
            have s5 := s4.trans (same_new (o := .lst (es.map fun e => V.int (high e.2))) hO)
            have hL5 := same_new (o := .lst (es.map fun e => V.int (high e.2))) hO _ _ hL4
            refine ext_of (ns := es.map fun e => high e.2) (SqL.of (by rw [List.map_map]; exact upd_same)) (hiO (xs ++ ys)) ehi.1 ehi.2 ?_
            generalize upd H4 O (.lst (es.map fun e => V.int (high e.2))) = H5 at *
            refine ⟨_, rfl, L, _, rfl, .inr (SqL.of hL5), _, rfl, _, rfl, by show 5 ≤ sizeLine; decide, fun r hr => fin _ r (s5.trans (same_new hr)) ?_⟩
            rw [upd_same]
            unfold tal
            rw [len_app, sum_app, sq_app]
            rfl
end
end Mt
namespace Mt
open PySem PySem.Spec PyProof.Rows L2
section
variable {P : Program} {w : World} {K : PySem.W.Frag} {mg : Str → Option Value} {base : Heap}
theorem ok__law_same (T : Txt w K mg) (D__law_is_int : Kept P w K mg base 1 "_law_is_int" ["thing"] spIsInt) {f : Addr} {fd : FuncData} (F : FnP K "_law_same" s__law_same f fd) : FnOk P w K mg base CX0 2 f fd ["told", "due"] (spSame K) := by
  refine F.ok sc__law_same (fun vs H Q E h => ?_) (fun cdv A outer s H vs Q E hr h => ?_)
  · obtain ⟨p, q, l, rfl, _⟩ := h
    rfl
  · obtain ⟨p, q, l, rfl, hp, hq, fin⟩ := h
    refine ⟨_, PSs.nox (pss_cons (ps_if (PW.pt (pw_or (pt_not (pt_val (pe_callB call_isi (by rfl) T.b_isinstance (by decide +kernel) (pa_cons (pv 0) (pa_cons (pe_bltn (v := .ty "tuple") (u := .type "tuple") (by rfl) T.b_tuple (by decide +kernel) rfl) pa_nil))))) (pw_or1 (pt_cmpR op_ne (pe_callB call_len (by rfl) T.b_len (by decide +kernel) (pa_cons (pv 0) pa_nil)) pe_int (nomark _))))) (pss_one (ps_ret pe_bl)) pss_nil)
      (pss_one (ps_ret (pe_and (pe_cmpR (op_eqD (hr.units)) (pv 0) (pv 1) (nomark _)) (pe_one (pe_callB (cr_all rfl) (by rfl) T.b_all (by decide +kernel) (pa_cons (pe_lc (own := [("part", 2)]) (g := (gName 2)) (tt := tYes) rfl sc__law_same.nd (pi_tup (pv 0)) (blkOk_by (N := N__law_same) (sc := defScope s__law_same) (by decide +kernel)) (fun _ _ _ _ _ => (pg_name (i := 2) sc__law_same.nd rfl (Or.inl rfl))) (fun _ _ _ _ _ => pts_nil) (fun _ _ _ _ _ => (pe_or (pe_cmpR op_isN (pv 2) pe_non (nomark _)) (pe_one (pe_d D__law_is_int (hr.mono (by decide)) (by rfl) (pa_cons (pv 2) pa_nil)))))) pa_nil))))))), ?_⟩
    refine ⟨_, rfl, _, .ty "tuple", .type "tuple", .type "tuple", true, rfl, .ty _, .base (.tup hp), kit_ty (by decide +kernel), true, rfl, ?_⟩
    refine ⟨_, rfl, _, _, rfl, .inr ⟨_, SqT.of hp, rfl⟩, rfl, _, rfl, ?_⟩
    refine iteNS rfl ?_
    refine ⟨_, rfl, _, rfl, dT l, dT l, dp_T hp, dp_T hq, dT_sh l, dT_sh l, _, rfl, ?_⟩
    rw [dT_eqv]
    refine ite2 (fun _ => ?_) (fun n => absurd rfl n)
    refine ⟨_, rfl, p, rfl, ⟨_, SqT.of hp⟩, fun L hL => lc_tup (xs := tal l) (fun i H' => H' = upd H L (.lst (((tal l).take i).map fun _ => V.bl true))) rfl (fun i H' _ e => ?_) ?_ ?_⟩
    · subst e
      exact SqT.of (same_new hL _ _ hp)
    · rintro i x H1 hi rfl
      have ex : x = .non ∨ ∃ z : Int, x = .int z := by
        have o : ∀ o : Option Int, vO o = .non ∨ ∃ z : Int, vO o = .int z := fun o => by
          cases o with
          | none => exact .inl rfl
          | some z => exact .inr ⟨z, rfl⟩
        have := List.mem_of_getElem? hi
        unfold tal at this
        simp only [List.mem_cons, List.not_mem_nil, or_false] at this
        rcases this with h | h | h | h | h
        · exact .inr ⟨_, h⟩
        · exact .inr ⟨_, h⟩
        · exact .inr ⟨_, h⟩
        · rw [h]
          exact o _
        · rw [h]
          exact o _
      have sz : (List.map (fun _ => V.bl true) ((tal l).take i)).length < sizeLine := by
        rw [List.length_map, List.length_take]
        exact line6 (by show min i 5 < _; omega)
      have st : upd (upd H L (.lst (((tal l).take i).map fun _ => V.bl true))) L (.lst (((tal l).take i).map (fun _ => V.bl true) ++ [V.bl true])) = upd H L (.lst (((tal l).take (i + 1)).map fun _ => V.bl true)) := by
        rw [upd_upd, take_map_succ (f := fun _ => V.bl true) hi]
      rcases ex with rfl | ⟨z, rfl⟩
      · refine ⟨rfl, _, rfl, rfl, _, rfl, ?_⟩
        refine ite2 (fun _ => ⟨_, upd_same, sz, st⟩) (fun n => absurd (by rfl) n)
      · refine ⟨rfl, _, rfl, rfl, _, rfl, ?_⟩
        refine ite2 (fun n => by cases of_decide_eq_true n) (fun _ => ⟨_, rfl, z, rfl, _, upd_same, sz, st⟩)
    · rintro H' rfl
      rw [List.take_length]
      refine ⟨L, (tal l).map fun _ => true, rfl, SqL.of (by rw [upd_same, List.map_map]; rfl), ?_⟩
      rw [all_true]
      exact fin _ (same_new hL)
end
end Mt
namespace Mt
open PySem PySem.Spec PyProof.Rows L2
theorem gau_gs {env : Env} (h : ∃ c, env.cells.lookup (Str.ofString "gauge") = some c) : GxR.GenS env gauScope "frame" := by
  refine ⟨by rfl, by rfl, by decide +kernel, by rfl, by rfl, fun y hy hf => ?_⟩
  have : (gauScope.names.all fun y => decide (y.2 = .free → y.1 = Str.ofString "gauge")) = true := by decide +kernel
  rw [of_decide_eq_true (List.all_eq_true.mp this y hy) hf]
  exact h
section
variable {P : Program} {w : World} {K : PySem.W.Frag} {mg : Str → Option Value} {base : Heap}
theorem ok_gauge (T : Txt w K mg) (D_tally_of : Kept P w K mg base 1 "tally_of" ["values"] (spTally K)) (TB : GxR.TabB base mg (BC K) (BP K)) {fd : FuncData} (F : FnP K "gauge_tally" s_gauge_tally (He.fAd K ("gauge_tally", none)) fd) : FnOk P w K mg base CX0 2 (He.fAd K ("gauge_tally", none)) fd ["frames", "gauge", "a", "b"] (spGauge K) := by
  refine okC F sc_gauge_tally (fun vs H Q E h => ?_) (fun cdv A outer s H vs Q E hc hr h => ?_)
  · obtain ⟨F, rows, col, g, a, b, rfl, _⟩ := h
    rfl
  · obtain ⟨F, rows, col, g, a, b, rfl, hF, hR, ab, bl, cl, hf, ht, fin⟩ := h
    have hl := hR.1
    refine ⟨_, PSs.nox (pss_one (ps_ret (pe_d D_tally_of (hr.mono (by decide)) (by rfl) (pa_cons (GT.pe_tup1 hr rfl T.b_tuple (by decide +kernel) TB hc (gau_gs ⟨_, rfl⟩) (pe_slice sl_tupA (pv 0) (po_some (pv 2)) (po_some (pv 3))) (fun _ => rfl)) pa_nil)))), ?_⟩
    have hcv : cutV (rows.map V.ref) (some (a : Int)) (some (b : Int)) = ((rows.take b).drop a).map V.ref := by
      unfold cutV
      rw [HT.sIx_nat, HT.sIx_nat, List.length_map, List.map_drop, List.map_take, Nat.min_eq_left (by omega), Nat.min_eq_left (by omega), List.drop_take]
    refine ⟨_, rfl, _, rfl, _, rfl, _, rfl, _, rfl, F, _, rfl, hF, fun hw => ?_, fun hw p hp => ?_⟩
    · have hall : (rows.map V.ref) = ((rows.take b).drop a).map V.ref := by
        rw [HT.sIx_nat, HT.sIx_nat, List.length_map, Nat.min_eq_left (by omega), Nat.min_eq_left (by omega)] at hw
        rw [hw.1, List.drop_zero, List.take_of_length_le (by omega)]
      have hY := hall ▸ hF
      have s1 := Same.refl H
      have ht1 := ht
      have hcut : (rows.take b).drop a = (rows.take b).drop a := rfl
      have hlr : ((rows.take b).drop a).length = ((col.take b).drop a).length := by
        rw [List.length_drop, List.length_take, List.length_drop, List.length_take, hR.1]
      refine ⟨F, ((rows.take b).drop a).map V.ref, ((col.take b).drop a).map V.int, rfl, hY, by rw [List.length_map, List.length_map, hlr], ?_, ht1, ?_, fun H2 q htb hq => ?_⟩
      · obtain ⟨pts, hPt, _⟩ := id ht1
        refine GT.elt_ix (iy := 1) (g := g) hPt (by rfl) (by rfl) (by decide) (by rfl) (by decide) (by decide) (fun c hc' => ?_) (by rfl) (by rfl) (by rfl) (fun _ _ => rfl) (fun i x0 h0 => ?_)
        · show List.lookup (Str.ofString "gauge") [(Str.ofString "gauge", (List.lookup (Str.ofString "gauge") _).getD 0)] = some c
          rw [hc']
          rfl
        · rw [List.getElem?_map] at h0
          obtain ⟨t, h1, rfl⟩ := Option.map_eq_some_iff.mp h0
          rw [List.getElem?_drop, List.getElem?_take] at h1
          split at h1
          · rename_i hlt
            obtain ⟨row, z, hT, hat, hz⟩ := hR.2 _ _ h1
            refine ⟨t, row, .int z, rfl, same_t s1 hT, hat, ?_⟩
            rw [List.getElem?_map, List.getElem?_drop, List.getElem?_take, if_pos hlt, hz]
            rfl
          · cases h1
      · rw [List.length_map, List.length_drop, List.length_take]
        exact line5 (by omega)
      · have t1 := TS.of_tab htb
        have t2 := t1.trans (TS.new (o := .tup (((col.take b).drop a).map V.int)) t1.1 hq)
        refine ⟨q, (col.take b).drop a, rfl, SqT.of upd_same, ?_, (hf.take b).drop a, fun H' p s3 hp => fin H' p ?_ hp⟩
        · rw [List.length_drop, List.length_take]
          omega
        · exact (TS.of_same ht s1).trans (t2.trans (TS.of_same t2.1 s3))
    · rw [hcv]
      have s1 := same_new (o := .tup (((rows.take b).drop a).map V.ref)) hp
      have hY := SqT.of (K := K) (upd_same (H := H) (a := p) (o := .tup (((rows.take b).drop a).map V.ref)))
      have ht1 := (TS.of_same ht s1).1
      have hcut : (rows.take b).drop a = (rows.take b).drop a := rfl
      have hlr : ((rows.take b).drop a).length = ((col.take b).drop a).length := by
        rw [List.length_drop, List.length_take, List.length_drop, List.length_take, hR.1]
      refine ⟨p, ((rows.take b).drop a).map V.ref, ((col.take b).drop a).map V.int, rfl, hY, by rw [List.length_map, List.length_map, hlr], ?_, ht1, ?_, fun H2 q htb hq => ?_⟩
      · obtain ⟨pts, hPt, _⟩ := id ht1
        refine GT.elt_ix (iy := 1) (g := g) hPt (by rfl) (by rfl) (by decide) (by rfl) (by decide) (by decide) (fun c hc' => ?_) (by rfl) (by rfl) (by rfl) (fun _ _ => rfl) (fun i x0 h0 => ?_)
        · show List.lookup (Str.ofString "gauge") [(Str.ofString "gauge", (List.lookup (Str.ofString "gauge") _).getD 0)] = some c
          rw [hc']
          rfl
        · rw [List.getElem?_map] at h0
          obtain ⟨t, h1, rfl⟩ := Option.map_eq_some_iff.mp h0
          rw [List.getElem?_drop, List.getElem?_take] at h1
          split at h1
          · rename_i hlt
            obtain ⟨row, z, hT, hat, hz⟩ := hR.2 _ _ h1
            refine ⟨t, row, .int z, rfl, same_t s1 hT, hat, ?_⟩
            rw [List.getElem?_map, List.getElem?_drop, List.getElem?_take, if_pos hlt, hz]
            rfl
          · cases h1
      · rw [List.length_map, List.length_drop, List.length_take]
        exact line5 (by omega)
      · have t1 := TS.of_tab htb
        have t2 := t1.trans (TS.new (o := .tup (((col.take b).drop a).map V.int)) t1.1 hq)
        refine ⟨q, (col.take b).drop a, rfl, SqT.of upd_same, ?_, (hf.take b).drop a, fun H' p3 s3 hp3 => fin H' p3 ?_ hp3⟩
        · rw [List.length_drop, List.length_take]
          omega
        · exact (TS.of_same ht s1).trans (t2.trans (TS.of_same t2.1 s3))
end
end Mt
namespace Mt
open PySem PySem.Spec PyProof.Rows L2
theorem goU {S D L : Addr} {H0 H : Hp} {o : HO} (L0 : H0 L = none) (d0 : DrawAt S D H0) (g : Go S D H0 H) : Go S D H0 (upd H L o) := by
  obtain ⟨LD, LS⟩ := d0.free L0
  obtain ⟨cs, hc⟩ := g.1.cells
  obtain ⟨j, r, c, j0, hD⟩ := g.1.at_
  refine ⟨⟨g.1.ne, ⟨cs, ?_⟩, ⟨j, r, c, j0, ?_⟩⟩, fun b o h n => ?_⟩
  · rw [upd_ne LS.symm]
    exact hc
  · rw [upd_ne LD.symm]
    exact hD
  · rw [upd_ne (ne_of_none h L0)]
    exact g.2 b o h n
theorem few_set {ns : List Int} {i : Nat} {z : Int} (h : Few ns) (hz : z.natAbs ≤ 2 ^ 40) : Few (ns.set i z) := fun x hx => by
  rcases List.mem_or_eq_of_mem_set hx with h1 | h1
  · exact h x h1
  · rw [h1]
    exact hz
theorem ix_nat {n i : Nat} (h : i < n) : ixN n (0 + (i : Int)) = some i := by
  unfold ixN
  rw [Int.zero_add, if_pos (by omega), if_pos (by omega), Int.toNat_natCast]
section
variable {P : Program} {w : World} {K : PySem.W.Frag} {mg : Str → Option Value} {base : Heap}
theorem ok__law_column (T : Txt w K mg) (D__law_draw : Kept P w K mg base 1 "_law_draw" ["d", "many"] spDraw) {f : Addr} {fd : FuncData} (F : FnP K "_law_column" s__law_column f fd) : FnOk P w K mg base CX0 2 f fd ["d", "many"] spColumn := by
  refine F.ok sc__law_column (fun vs H Q E h => ?_) (fun cdv A outer s H vs Q E hr h => ?_)
  · obtain ⟨S, D, m, rfl, _⟩ := h
    rfl
  · obtain ⟨S, D, m, rfl, m0, m1, d, q⟩ := h
    refine ⟨_, PSs.nox (pss_cons (ps_set (i := 2) sc__law_column.nd rfl (Or.inl rfl) (pe_d D__law_draw (hr.mono (by decide)) (by rfl) (pa_cons (pv 0) (pa_cons pe_int pa_nil))))
      (pss_cons (ps_setLc (i := 3) (own := [("k", 4)]) (g := (gName 4)) (tt := tYes) rfl sc__law_column.nd rfl rfl (sw_true rfl rfl rfl (by decide +kernel)) (pi_range1 (by rfl) T.b_range (pa_cons (pv 1) pa_nil)) (blkOk_by (N := N__law_column) (sc := defScope s__law_column) (by decide +kernel)) (fun _ _ _ _ _ => (pg_name (i := 4) sc__law_column.nd rfl (Or.inl rfl))) (fun _ _ _ _ _ => pts_nil) (fun _ _ _ _ _ => pe_int))
      (pss_cons (ps_for PassesOwn.never rfl (pi_range1 (by rfl) T.b_range (pa_cons (pv 1) pa_nil)) (pg_name (i := 4) sc__law_column.nd rfl (Or.inl rfl)) (pss_one (ps_if (pt_cmpR op_eq (pv 2) pe_int (nomark _)) (pss_one (ps_asg (pe_d D__law_draw (hr.mono (by decide)) (by rfl) (pa_cons (pv 0) (pa_cons pe_int pa_nil))) (pg_sub (pv 3) (pv 4) set_list))) (pss_one (ps_if (pt_cmpR op_eq (pv 2) pe_int (nomark _)) (pss_one (ps_asg (pe_d D__law_draw (hr.mono (by decide)) (by rfl) (pa_cons (pv 0) (pa_cons pe_int pa_nil))) (pg_sub (pv 3) (pv 4) set_list))) (pss_one (ps_if (PW.pt (pw_and (pt_cmpR op_eq (pv 2) pe_int (nomark _)) (pw_and1 (pt_cmpR op_gt (pv 4) pe_int (nomark _))))) (pss_one (ps_asg (pe_ix ix_list (pv 3) pe_int (fun _ _ => rfl)) (pg_sub (pv 3) (pv 4) set_list))) (pss_one (ps_if (pt_cmpR op_eq (pv 2) pe_int (nomark _)) (pss_one (ps_asg (pe_d D__law_draw (hr.mono (by decide)) (by rfl) (pa_cons (pv 0) (pa_cons pe_int pa_nil))) (pg_sub (pv 3) (pv 4) set_list))) pss_nil)))))))))
      (pss_cons (ps_if (PW.pt (pw_and (pt_cmpR op_eq (pv 2) pe_int (nomark _)) (pw_and1 (pt_cmpR op_gt (pv 1) pe_int (nomark _))))) (pss_one (ps_asg (pe_op op_add pe_int (pe_d D__law_draw (hr.mono (by decide)) (by rfl) (pa_cons (pv 0) (pa_cons pe_int pa_nil)))) (pg_sub (pv 3) (pe_d D__law_draw (hr.mono (by decide)) (by rfl) (pa_cons (pv 0) (pa_cons (pv 1) pa_nil))) set_list))) pss_nil)
      (pss_one (ps_ret (pv 3))))))), ?_⟩
    refine ⟨_, rfl, S, D, 4, rfl, divW_of (by decide) (by decide), d, fun H1 kd _ _ g1 => ?_⟩
    refine ⟨_, rfl, _, rfl, by omega, by omega, fun L hL => lc_range (lo := 0) (n := m.toNat) (fun j H' => H' = upd H1 L (.lst ((List.replicate j (0 : Int)).map V.int))) rfl ?_ ?_⟩
    · rintro j H' hj rfl
      refine ⟨rfl, _, upd_same, ?_, ?_⟩
      · rw [List.length_map, List.length_replicate]
        exact line6 (by omega)
      · rw [upd_upd, List.replicate_succ', List.map_append]
        rfl
    · rintro H' rfl
      have LD := (g1.1.free hL).1
      have L0 := g1.free d hL
      refine ⟨_, rfl, _, rfl, by omega, by omega, for_range (lo := 0) (n := m.toNat) (fun i σ H' => ∃ (ns : List Int) (y : Option V), σ = [some (.ref D), some (.int m), some (.int kd), some (.ref L), y] ∧ Go S D H1 H' ∧ H' L = some (.lst (ns.map V.int)) ∧ ns.length = m.toNat ∧ Few ns) ⟨List.replicate m.toNat 0, none, rfl, Go.new g1.1 hL, upd_same, List.length_replicate, fun z hz => by rw [(List.mem_replicate.mp hz).2]; decide⟩ ?_ ?_⟩
      · rintro i σ H7 hi ⟨ns, y, rfl, g, hL7, hl, hf⟩
        have hix : ixN (ns.map V.int).length (0 + (i : Int)) = some i := ix_nat (by rw [List.length_map]; omega)
        have st : ∀ (H8 : Hp) (z : Int), z.natAbs ≤ 2 ^ 40 → Go S D H1 H8 → H8 L = some (.lst (ns.map V.int)) → ∃ (ns' : List Int) (y : Option V), [some (V.ref D), some (.int m), some (.int kd), some (.ref L), some (.int (0 + (i : Int)))] = [some (V.ref D), some (.int m), some (.int kd), some (.ref L), y] ∧ Go S D H1 (upd H8 L (.lst ((ns.map V.int).set i (.int z)))) ∧ (upd H8 L (.lst ((ns.map V.int).set i (.int z)))) L = some (.lst (ns'.map V.int)) ∧ ns'.length = m.toNat ∧ Few ns' := fun H8 z hz g8 h8 =>
          ⟨ns.set i z, _, rfl, goU hL g1.1 g8, by rw [upd_same, List.map_set], by rw [List.length_set, hl], few_set hf hz⟩
        refine ⟨_, rfl, rfl, _, rfl, ?_⟩
        refine ite2 (fun _ => ⟨_, rfl, S, D, 10, rfl, divW_of (by decide) (by decide), g.1, fun H8 v v0 v1 g8 => ⟨_, rfl, _, rfl, L, _, _, i, rfl, rfl, g8.2 _ _ hL7 LD, hix, st H8 v (by omega) (g.trans g8) (g8.2 _ _ hL7 LD)⟩⟩) (fun _ => ?_)
        refine ⟨_, rfl, rfl, _, rfl, ?_⟩
        refine ite2 (fun _ => ⟨_, rfl, S, D, 2, rfl, divW_of (by decide) (by decide), g.1, fun H8 v v0 v1 g8 => ⟨_, rfl, _, rfl, L, _, _, i, rfl, rfl, g8.2 _ _ hL7 LD, hix, st H8 v (by omega) (g.trans g8) (g8.2 _ _ hL7 LD)⟩⟩) (fun _ => ?_)
        refine ⟨_, rfl, rfl, _, rfl, ?_⟩
        refine ite2 (fun _ => ?_) (fun _ => ?_)
        · refine ⟨_, rfl, _, _, rfl, rfl, _, rfl, ?_⟩
          refine ite2 (fun e => ?_) (fun _ => ?_)
          · cases ns with
            | nil =>
              have : (0 : Nat) = m.toNat := hl
              omega
            | cons z r => exact ⟨_, rfl, L, _, _, _, rfl, rfl, SqL.of hL7, atI_nat (j := 0) rfl, _, rfl, _, rfl, L, _, _, i, rfl, rfl, hL7, hix, st H7 z (hf z List.mem_cons_self) g hL7⟩
          · refine ⟨_, rfl, rfl, _, rfl, ?_⟩
            refine ite2 (fun _ => ⟨_, rfl, S, D, 10, rfl, divW_of (by decide) (by decide), g.1, fun H8 v v0 v1 g8 => ⟨_, rfl, _, rfl, L, _, _, i, rfl, rfl, g8.2 _ _ hL7 LD, hix, st H8 v (by omega) (g.trans g8) (g8.2 _ _ hL7 LD)⟩⟩) (fun _ => ⟨ns, some (.int (0 + (i : Int))), rfl, g, hL7, hl, hf⟩)
        · refine ite2 (fun n => by cases n) (fun _ => ?_)
          · refine ⟨_, rfl, rfl, _, rfl, ?_⟩
            refine ite2 (fun _ => ⟨_, rfl, S, D, 10, rfl, divW_of (by decide) (by decide), g.1, fun H8 v v0 v1 g8 => ⟨_, rfl, _, rfl, L, _, _, i, rfl, rfl, g8.2 _ _ hL7 LD, hix, st H8 v (by omega) (g.trans g8) (g8.2 _ _ hL7 LD)⟩⟩) (fun _ => ⟨ns, some (.int (0 + (i : Int))), rfl, g, hL7, hl, hf⟩)
      · rintro σ H7 ⟨ns, y, rfl, g, hL7, hl, hf⟩
        have hend : ∀ (H8 : Hp) (ns : List Int), Go S D H1 H8 → H8 L = some (.lst (ns.map V.int)) → ns.length = m.toNat → Few ns → Q (.ref L) H8 := fun H8 ns g8 h8 hl hf => q H8 L ns (g1.trans g8) L0 h8 (by omega) hf
        refine ⟨_, rfl, rfl, _, rfl, ?_⟩
        refine ite2 (fun _ => ?_) (fun _ => ?_)
        · refine ⟨_, rfl, _, _, rfl, rfl, _, rfl, ?_⟩
          refine ite2 (fun e => ?_) (fun _ => ⟨_, rfl, hend H7 ns g hL7 hl hf⟩)
          have m2 : 0 < m := of_decide_eq_true e
          refine ⟨_, rfl, S, D, 9, rfl, divW_of (by decide) (by decide), g.1, fun H8 v v0 v1 g8 => ⟨_, _, rfl, rfl, _, rfl, _, rfl, _, rfl, S, D, m, rfl, divW_of m2 (by omega), g8.1, fun H9 j j0 j1 g9 => ?_⟩⟩
          have h9 := (g8.trans g9).2 _ _ hL7 LD
          refine ⟨L, _, _, j.toNat, rfl, rfl, h9, ?_, _, rfl, hend _ (ns.set j.toNat (1 + v)) (goU hL g1.1 ((g.trans g8).trans g9)) (by rw [upd_same, List.map_set]) (by rw [List.length_set, hl]) (few_set hf (by omega))⟩
          rw [show j = 0 + ((j.toNat : Nat) : Int) by omega, ix_nat (by rw [List.length_map]; omega)]
          rw [show (0 + ((j.toNat : Nat) : Int)).toNat = j.toNat by omega]
        · exact ite2 (fun n => by cases n) (fun _ => ⟨_, rfl, hend H7 ns g hL7 hl hf⟩)
end
end Mt
namespace Mt
open PySem PySem.Spec PyProof.Rows L2
theorem sqt_ts {K : PySem.W.Frag} {P p : Addr} {H H' : Hp} {xs : List V} (t : GxR.TabG H P) (a : TS P H H') (h : SqT K H p xs) : SqT K H' p xs := by
  obtain ⟨ps, hP, _⟩ := t
  rcases h with (h | ⟨o, h⟩) | h
  · exact .inl (.inl (a.2 _ _ (fun e => by rw [e, hP] at h; cases h) h))
  · exact .inl (.inr ⟨o, a.2 _ _ (fun e => by rw [e, hP] at h; cases h) h⟩)
  · exact .inr h
theorem sql_ts {K : PySem.W.Frag} {P p : Addr} {H H' : Hp} {xs : List V} (t : GxR.TabG H P) (a : TS P H H') (h : SqL K H p xs) : SqL K H' p xs := by
  obtain ⟨ps, hP, _⟩ := t
  rcases h with (h | ⟨o, h⟩) | h
  · exact .inl (.inl (a.2 _ _ (fun e => by rw [e, hP] at h; cases h) h))
  · exact .inl (.inr ⟨o, a.2 _ _ (fun e => by rw [e, hP] at h; cases h) h⟩)
  · exact .inr h
theorem rws_ts {K : PySem.W.Frag} {P : Addr} {H H' : Hp} {g : Int} {rows : List Addr} {col : List Int} (t : GxR.TabG H P) (a : TS P H H') (h : Rws K H g rows col) : Rws K H' g rows col :=
  ⟨h.1, fun i p e => let ⟨row, z, h1, h2, h3⟩ := h.2 i p e; ⟨row, z, sqt_ts t a h1, h2, h3⟩⟩
def part (col : List Int) (a b : Nat) : List Int := (col.take b).drop a
/-- the dict of the tallies: those that are done -/
def Told (H : Hp) (T : Addr) (col : List Int) (done : Nat → Nat → Prop) (m : Nat) : Prop := ∃ kvs : List (List Key × V), H T = some (.dT kvs) ∧ kvs.length ≤ m ∧
  ∀ a b : Nat, done a b → ∃ p, valV kvs [.inl (a : Int), .inl (b : Int)] = some (.ref p) ∧ H p = some (.tup (tal (part col a b)))
theorem Told.ts {P T : Addr} {H H' : Hp} {col : List Int} {done : Nat → Nat → Prop} {m : Nat} (t : GxR.TabG H P) (a : TS P H H') (h : Told H T col done m) : Told H' T col done m := by
  obtain ⟨kvs, h1, h2, h3⟩ := h
  obtain ⟨ps, hP, _⟩ := t
  refine ⟨kvs, a.2 _ _ (fun e => by rw [e, hP] at h1; cases h1) h1, h2, fun x y d => ?_⟩
  obtain ⟨p, e1, e2⟩ := h3 x y d
  exact ⟨p, e1, a.2 _ _ (fun e => by rw [e, hP] at e2; cases e2) e2⟩
theorem Told.put {T p : Addr} {H : Hp} {col : List Int} {done done' : Nat → Nat → Prop} {m : Nat} {kvs : List (List Key × V)} {a b : Nat} (h1 : H T = some (.dT kvs)) (h2 : kvs.length ≤ m)
    (h3 : ∀ a b : Nat, done a b → ∃ p, valV kvs [.inl (a : Int), .inl (b : Int)] = some (.ref p) ∧ H p = some (.tup (tal (part col a b)))) (hp : H p = some (.tup (tal (part col a b)))) (hd : ∀ x y, done' x y → done x y ∨ (x = a ∧ y = b)) :
    Told (upd H T (.dT (putK kvs [.inl (a : Int), .inl (b : Int)] (.ref p)))) T col done' (m + 1) := by
  have ne : ∀ q l, H q = some (.tup l) → q ≠ T := fun q l e n => by
    rw [n, h1] at e
    cases e
  refine ⟨_, upd_same, Nat.le_trans (length_putK _ _ _) (Nat.succ_le_succ h2), fun x y d => ?_⟩
  rw [valV_put]
  by_cases e : ([.inl (x : Int), .inl (y : Int)] : List Key) = [.inl (a : Int), .inl (b : Int)]
  · rw [if_pos e]
    obtain ⟨e1, e2⟩ := List.cons.inj e
    have e3 : (x : Int) = a := Sum.inl.inj e1
    have e4 : (y : Int) = b := Sum.inl.inj (List.cons.inj e2).1
    obtain rfl : x = a := by omega
    obtain rfl : y = b := by omega
    exact ⟨p, rfl, by rw [upd_ne (ne _ _ hp)]; exact hp⟩
  · rw [if_neg e]
    rcases hd x y d with h | ⟨rfl, rfl⟩
    · obtain ⟨q, e1, e2⟩ := h3 x y h
      exact ⟨q, e1, by rw [upd_ne (ne _ _ e2)]; exact e2⟩
    · exact absurd rfl e
theorem part_few {col : List Int} (h : Few col) (a b : Nat) : Few (part col a b) := (h.take b).drop a
theorem part_len (col : List Int) (a b : Nat) : (part col a b).length ≤ col.length := by
  unfold part
  rw [List.length_drop, List.length_take]
  omega
theorem cut_part (col : List Int) (a b : Nat) (h : a ≤ b) (hb : b ≤ col.length) : cutV (col.map V.int) (some (a : Int)) (some (b : Int)) = (part col a b).map V.int := by
  unfold cutV part
  rw [HT.sIx_nat, HT.sIx_nat, List.length_map, List.map_drop, List.map_take, Nat.min_eq_left (by omega), Nat.min_eq_left (by omega), List.drop_take]
theorem part_cat (col : List Int) (a c b : Nat) (h1 : a ≤ c) (h2 : c ≤ b) : part col a c ++ part col c b = part col a b := by
  unfold part
  have e : (col.take b).take c = col.take c := by rw [List.take_take, Nat.min_eq_left h2]
  rw [← e]
  generalize col.take b = l
  rw [List.drop_take]
  have := List.take_append_drop (c - a) (l.drop a)
  rw [List.drop_drop, show a + (c - a) = c by omega] at this
  exact this
section
variable {P : Program} {w : World} {K : PySem.W.Frag} {mg : Str → Option Value} {base : Heap}
theorem ok__law_gauge_holds (T : Txt w K mg) (D_joined : Kept P w K mg base 1 "joined" ["tally", "other"] (spJoin K)) (D_gauge_tally : Kept P w K mg base 2 "gauge_tally" ["frames", "gauge", "a", "b"] (spGauge K)) (D__law_tally : Kept P w K mg base 1 "_law_tally" ["row"] (spLTally K)) (D__law_same : Kept P w K mg base 2 "_law_same" ["told", "due"] (spSame K)) {f : Addr} {fd : FuncData} (F : FnP K "_law_gauge_holds" s__law_gauge_holds f fd) : FnOk P w K mg base CX0 3 f fd ["frames", "column", "g"] (spHolds K) := by
  refine F.ok sc__law_gauge_holds (fun vs H Q E h => ?_) (fun cdv A outer s H vs Q E hr h => ?_)
  · obtain ⟨F, C, rows, col, g, rfl, _⟩ := h
    rfl
  · obtain ⟨F, C, rows, col, g, rfl, hF, hR, hC, hCP, cl, hf, ht, q⟩ := h
    refine ⟨_, PSs.nox (pss_cons (ps_set (i := 3) sc__law_gauge_holds.nd rfl (Or.inl rfl) (pe_callB call_len (by rfl) T.b_len (by decide +kernel) (pa_cons (pv 1) pa_nil)))
      (pss_cons (ps_set (i := 4) sc__law_gauge_holds.nd rfl (Or.inl rfl) pe_dnewT)
      (pss_cons (ps_for PassesOwn.never rfl (pi_range1 (by rfl) T.b_range (pa_cons (pe_op op_add (pv 3) pe_int) pa_nil)) (pg_name (i := 5) sc__law_gauge_holds.nd rfl (Or.inl rfl)) (pss_one (ps_for PassesOwn.never rfl (pi_range2 (by rfl) T.b_range (pa_cons (pv 5) (pa_cons (pe_op op_add (pv 3) pe_int) pa_nil))) (pg_name (i := 6) sc__law_gauge_holds.nd rfl (Or.inl rfl)) (pss_cons (ps_asg (pe_d D_gauge_tally (hr.mono (by decide)) (by rfl) (pa_cons (pv 0) (pa_cons (pv 2) (pa_cons (pv 5) (pa_cons (pv 6) pa_nil))))) (pg_sub (pv 4) (pe_tup (pa_cons (pv 5) (pa_cons (pv 6) pa_nil))) (set_dict (hu_of hr))))
      (pss_one (ps_if (pt_not (pt_val (pe_d D__law_same (hr.mono (by decide)) (by rfl) (pa_cons (pe_dget (hu_of hr) (pv 4) (pe_tup (pa_cons (pv 5) (pa_cons (pv 6) pa_nil))) (fun _ _ => rfl)) (pa_cons (pe_d D__law_tally (hr.mono (by decide)) (by rfl) (pa_cons (pe_slice sl_list (pv 1) (po_some (pv 5)) (po_some (pv 6))) pa_nil)) pa_nil))))) (pss_one (ps_ret pe_bl)) pss_nil))))))
      (pss_cons (ps_for PassesOwn.never rfl (pi_range1 (by rfl) T.b_range (pa_cons (pe_op op_add (pv 3) pe_int) pa_nil)) (pg_name (i := 5) sc__law_gauge_holds.nd rfl (Or.inl rfl)) (pss_one (ps_for PassesOwn.never rfl (pi_range2 (by rfl) T.b_range (pa_cons (pv 5) (pa_cons (pe_op op_add (pv 3) pe_int) pa_nil))) (pg_name (i := 6) sc__law_gauge_holds.nd rfl (Or.inl rfl)) (pss_cons (ps_set (i := 7) sc__law_gauge_holds.nd rfl (Or.inl rfl) (pe_lst (pa_cons (pe_op op_add (pv 5) (pe_op op_fdivW (pe_op op_sub (pv 6) (pv 5)) pe_int)) pa_nil)))
      (Evl.pss_cut (ps_if (pt_cmpR op_le (pv 3) pe_int (nomark _)) (pss_one (ps_set (i := 7) sc__law_gauge_holds.nd rfl (Or.inl rfl) (pe_listRg rfl rfl T.b_list (prg_2 rfl T.b_range (pv 5) (pe_op op_add (pv 6) pe_int))))) pss_nil)
      (pss_one (ps_for PassesOwn.never rfl (pi_list (pv 7)) (pg_name (i := 8) sc__law_gauge_holds.nd rfl (Or.inl rfl)) (pss_one (ps_if (pt_not (pt_val (pe_d D__law_same (hr.mono (by decide)) (by rfl) (pa_cons (pe_d D_joined (hr.mono (by decide)) (by rfl) (pa_cons (pe_dget (hu_of hr) (pv 4) (pe_tup (pa_cons (pv 5) (pa_cons (pv 8) pa_nil))) (fun _ _ => rfl)) (pa_cons (pe_dget (hu_of hr) (pv 4) (pe_tup (pa_cons (pv 8) (pa_cons (pv 6) pa_nil))) (fun _ _ => rfl)) pa_nil))) (pa_cons (pe_d D__law_tally (hr.mono (by decide)) (by rfl) (pa_cons (pe_slice sl_list (pv 1) (po_some (pv 5)) (po_some (pv 6))) pa_nil)) pa_nil))))) (pss_one (ps_ret pe_bl)) pss_nil)))))))))
      (pss_one (ps_ret pe_bl)))))), ?_⟩
    refine ⟨_, rfl, _, _, rfl, .inl ⟨_, hC, rfl⟩, fun T hT => ?_⟩
    rw [List.length_map]
    have t0 := TS.new (o := .dT []) ht hT
    have TP : T ≠ BP K := tab_ne ht hT
    have told0 : Told (upd H T (.dT [])) T col (fun _ _ => False) 0 := ⟨[], upd_same, Nat.le_refl _, fun _ _ h => h.elim⟩
    generalize upd H T (.dT []) = H0 at t0 told0
    refine ⟨_, rfl, _, _, rfl, rfl, _, rfl, by omega, by omega, for_range (lo := 0) (n := ((col.length : Int) + 1).toNat) (fun i σ H' => ∃ y5 y6, σ = [some (.ref F), some (.ref C), some (.int g), some (.int (col.length : Int)), some (.ref T), y5, y6, none, none] ∧ TS (BP K) H H' ∧ Told H' T col (fun a b => a < i ∧ a ≤ b ∧ b ≤ col.length) (i * 41)) ⟨none, none, rfl, t0, ?_⟩ ?_ ?_⟩
    · obtain ⟨kvs, h1, h2, h3⟩ := told0
      exact ⟨kvs, h1, by omega, fun a b h => absurd h.1 (Nat.not_lt_zero _)⟩
    · rintro ia σ H1 hia ⟨y5, y6, rfl, t1, td⟩
      refine ⟨_, rfl, _, rfl, _, _, rfl, rfl, _, _, rfl, ⟨by omega, by omega, by omega, by omega⟩, for_range (lo := 0 + (ia : Int)) (n := ((col.length : Int) + 1 - (0 + (ia : Int))).toNat) (fun j σ H' => ∃ y6, σ = [some (.ref F), some (.ref C), some (.int g), some (.int (col.length : Int)), some (.ref T), some (.int (0 + (ia : Int))), y6, none, none] ∧ TS (BP K) H H' ∧ Told H' T col (fun a b => (a < ia ∧ a ≤ b ∧ b ≤ col.length) ∨ (a = ia ∧ ia ≤ b ∧ b < ia + j)) (ia * 41 + j)) ⟨_, rfl, t1, ?_⟩ ?_ ?_⟩
      · obtain ⟨kvs, h1, h2, h3⟩ := td
        refine ⟨kvs, h1, by omega, fun a b h => h3 a b ?_⟩
        rcases h with h | h
        · exact h
        · omega
      · rintro ib σ H2 hib ⟨y6, rfl, t2, td2⟩
        have hn : ia + ib ≤ col.length := by omega
        have ea : (0 : Int) + (ia : Int) = (ia : Int) := by omega
        have eb : (0 : Int) + (ia : Int) + (ib : Int) = ((ia + ib : Nat) : Int) := by omega
        have tb2 := t2.1
        refine ⟨_, rfl, _, rfl, _, rfl, _, rfl, F, rows, col, g, ia, ia + ib, ?_, sqt_ts ht t2 hF, rws_ts ht t2 hR, by omega, hn, cl, hf, tb2, fun H3 p t3 hp => ?_⟩
        · show [V.ref F, .int g, .int (0 + (ia : Int)), .int (0 + (ia : Int) + (ib : Int))] = _
          rw [eb, ea]
        have t23 := t2.trans t3
        have td3 := td2.ts tb2 t3
        refine ⟨_, rfl, _, rfl, _, rfl, by show 2 ≤ sizeLine; decide, fun kb hkb => ?_⟩
        have s4 := same_new (o := .tup [V.int (0 + (ia : Int)), .int (0 + (ia : Int) + (ib : Int))]) hkb
        have hkb4 : (upd H3 kb (.tup [V.int (0 + (ia : Int)), .int (0 + (ia : Int) + (ib : Int))])) kb = some (.tup ([.inl (ia : Int), .inl ((ia + ib : Nat) : Int)].map kV)) := by
          rw [upd_same, eb, ea]
          rfl
        have t24 := t23.trans (TS.of_same t23.1 s4)
        obtain ⟨kvs, h1, h2, h3⟩ := td3.ts t23.1 (TS.of_same t23.1 s4)
        have hp4 := s4 _ _ hp
        generalize upd H3 kb _ = H4 at s4 hkb4 t24 h1 h3 hp4
        refine ⟨T, _, rfl, DPut.t h1 hkb4 (line6 (by omega)), ?_⟩
        have td5 : Told (upd H4 T (.dT (putK kvs [.inl (ia : Int), .inl ((ia + ib : Nat) : Int)] (.ref p)))) T col (fun a b => (a < ia ∧ a ≤ b ∧ b ≤ col.length) ∨ (a = ia ∧ ia ≤ b ∧ b < ia + (ib + 1))) (ia * 41 + ib + 1) := Told.put h1 h2 h3 hp4 fun x y d => by omega
        have t25 := TS.mut (o := .dT (putK kvs [.inl (ia : Int), .inl ((ia + ib : Nat) : Int)] (.ref p))) t24 hT TP
        generalize upd H4 T _ = H5 at td5 t25
        refine ⟨_, rfl, _, rfl, _, rfl, by show 2 ≤ sizeLine; decide, fun kc hkc => ?_⟩
        have s6 := same_new (o := .tup [V.int (0 + (ia : Int)), .int (0 + (ia : Int) + (ib : Int))]) hkc
        have hkc6 : (upd H5 kc (.tup [V.int (0 + (ia : Int)), .int (0 + (ia : Int) + (ib : Int))])) kc = some (.tup ([.inl (ia : Int), .inl ((ia + ib : Nat) : Int)].map kV)) := by
          rw [upd_same, eb, ea]
          rfl
        have t26 := t25.trans (TS.of_same t25.1 s6)
        have td6 := td5.ts t25.1 (TS.of_same t25.1 s6)
        generalize upd H5 kc _ = H6 at s6 hkc6 t26 td6
        obtain ⟨kvs6, d1, d2, d3⟩ := id td6
        obtain ⟨p6, v6, hp6⟩ := d3 ia (ia + ib) (by omega)
        refine ⟨T, .ref p6, rfl, v6 ▸ DGet.t d1 hkc6, ?_⟩
        refine ⟨_, rfl, _, rfl, _, rfl, _, rfl, _, rfl, C, _, rfl, sql_ts ht t26 hC, fun L hL => ?_⟩
        rw [eb, ea, cut_part col _ _ (by omega) hn]
        have s7 := same_new (o := .lst ((part col ia (ia + ib)).map V.int)) hL
        have hpl := part_len col ia (ia + ib)
        refine ⟨L, part col ia (ia + ib), rfl, SqL.of upd_same, by omega, part_few hf _ _, fun H8 u s8 hu => ⟨p6, u, part col ia (ia + ib), rfl, s8 _ _ (s7 _ _ hp6), hu, fun H9 s9 => ⟨true, rfl, ?_⟩⟩⟩
        refine iteNT ?_
        have s79 := (s7.trans s8).trans s9
        exact ⟨_, rfl, t26.trans (TS.of_same t26.1 s79), td6.ts t26.1 (TS.of_same t26.1 s79)⟩
      · rintro σ H2 ⟨y6, rfl, t2, td2⟩
        obtain ⟨kvs, h1, h2, h3⟩ := td2
        refine ⟨_, _, rfl, t2, kvs, h1, ?_, fun a b h => h3 a b ?_⟩
        · rw [Nat.succ_mul]
          omega
        · omega
    · rintro σ H1 ⟨y5, y6, rfl, t1, td⟩
      have full : Told H1 T col (fun a b => a ≤ b ∧ b ≤ col.length) (((col.length : Int) + 1).toNat * 41) := by
        obtain ⟨kvs, h1, h2, h3⟩ := td
        exact ⟨kvs, h1, h2, fun a b h => h3 a b (by omega)⟩
      generalize ((col.length : Int) + 1).toNat * 41 = M at full
      clear td told0 t0
      refine ⟨_, rfl, _, _, rfl, rfl, _, rfl, by omega, by omega, for_range (lo := 0) (n := ((col.length : Int) + 1).toNat) (fun i σ H' => ∃ y5 y6 y7 y8, σ = [some (.ref F), some (.ref C), some (.int g), some (.int (col.length : Int)), some (.ref T), y5, y6, y7, y8] ∧ TS (BP K) H H' ∧ Told H' T col (fun a b => a ≤ b ∧ b ≤ col.length) M) ⟨_, _, _, _, rfl, t1, full⟩ ?_ ?_⟩
      · rintro ia σ H2 hia ⟨y5, y6, y7, y8, rfl, t2, td2⟩
        refine ⟨_, rfl, _, rfl, _, _, rfl, rfl, _, _, rfl, ⟨by omega, by omega, by omega, by omega⟩, for_range (lo := 0 + (ia : Int)) (n := ((col.length : Int) + 1 - (0 + (ia : Int))).toNat) (fun j σ H' => ∃ y6 y7 y8, σ = [some (.ref F), some (.ref C), some (.int g), some (.int (col.length : Int)), some (.ref T), some (.int (0 + (ia : Int))), y6, y7, y8] ∧ TS (BP K) H H' ∧ Told H' T col (fun a b => a ≤ b ∧ b ≤ col.length) M) ⟨_, _, _, rfl, t2, td2⟩ ?_ ?_⟩
        · rintro ib σ H3 hib ⟨y6, y7, y8, rfl, t3, td3⟩
          have hn : ia + ib ≤ col.length := by omega
          have ea : (0 : Int) + (ia : Int) = (ia : Int) := by omega
          have eb : (0 : Int) + (ia : Int) + (ib : Int) = ((ia + ib : Nat) : Int) := by omega
          refine ⟨_, rfl, _, rfl, _, rfl, _, _, rfl, rfl, _, _, rfl, rfl, ⟨by decide, by decide⟩, _, _, rfl, rfl, by show 1 ≤ sizeLine; decide, fun Lc hLc => ?_⟩
          have s4 := same_new (o := .lst [V.int (0 + (ia : Int) + (0 + (ia : Int) + (ib : Int) - (0 + (ia : Int))) / 2)]) hLc
          have hLc4 := upd_same (H := H3) (a := Lc) (o := .lst [V.int (0 + (ia : Int) + (0 + (ia : Int) + (ib : Int) - (0 + (ia : Int))) / 2)])
          have t4 := t3.trans (TS.of_same t3.1 s4)
          have td4 := td3.ts t3.1 (TS.of_same t3.1 s4)
          refine ⟨fun σ' H' => ∃ (Lq : Addr) (cs : List Int), σ' = [some (.ref F), some (.ref C), some (.int g), some (.int (col.length : Int)), some (.ref T), some (.int (0 + (ia : Int))), some (.int (0 + (ia : Int) + (ib : Int))), some (.ref Lq), y8] ∧ TS (BP K) H H' ∧ Told H' T col (fun a b => a ≤ b ∧ b ≤ col.length) M ∧ H' Lq = some (.lst (cs.map V.int)) ∧ ∀ c ∈ cs, (ia : Int) ≤ c ∧ c ≤ ((ia + ib : Nat) : Int), ?_, ?_⟩
          · refine ⟨_, rfl, _, _, rfl, rfl, _, rfl, ?_⟩
            refine ite2 (fun _ => ?_) (fun _ => ⟨Lc, [0 + (ia : Int) + (0 + (ia : Int) + (ib : Int) - (0 + (ia : Int))) / 2], rfl, t4, td4, hLc4, fun c hc => ?_⟩)
            · refine ⟨_, rfl, _, rfl, _, _, rfl, rfl, _, _, rfl, rfl, RgOk.of_le (by omega) (by omega) (by omega) (by omega), fun Lq hLq => ?_⟩
              have s5 := same_new (o := .lst (rgV (0 + (ia : Int)) (0 + (ia : Int) + (ib : Int) + 1))) hLq
              refine ⟨Lq, (List.range ((0 + (ia : Int) + (ib : Int) + 1) - (0 + (ia : Int))).toNat).map fun k : Nat => 0 + (ia : Int) + (k : Int), rfl, t4.trans (TS.of_same t4.1 s5), td4.ts t4.1 (TS.of_same t4.1 s5), ?_, fun c hc => ?_⟩
              · rw [upd_same, List.map_map]
                rfl
              · obtain ⟨k, hk, rfl⟩ := List.mem_map.mp hc
                have := List.mem_range.mp hk
                omega
            · rw [List.mem_singleton.mp hc]
              omega
          · rintro σ' H5 ⟨Lq, cs, rfl, t5, td5, hLq, hcs⟩
            refine ⟨_, rfl, Lq, rfl, ⟨_, SqL.of hLq⟩, for_list (K := K) (a := Lq) (xs := cs.map V.int) (fun k σ H' => ∃ y8, σ = [some (.ref F), some (.ref C), some (.int g), some (.int (col.length : Int)), some (.ref T), some (.int (0 + (ia : Int))), some (.int (0 + (ia : Int) + (ib : Int))), some (.ref Lq), y8] ∧ TS (BP K) H H' ∧ Told H' T col (fun a b => a ≤ b ∧ b ≤ col.length) M ∧ H' Lq = some (.lst (cs.map V.int))) ⟨_, rfl, t5, td5, hLq⟩ (fun k σ H' _ ⟨_, _, _, _, h⟩ => SqL.of h) ?_ ?_⟩
            · rintro k x σ H6 hk ⟨y8, rfl, t6, td6, hLq6⟩
              obtain ⟨c, rfl, hc⟩ := getV hk
              obtain ⟨c0, c1⟩ := hcs c (List.mem_of_getElem? hc)
              obtain ⟨n, rfl⟩ := Int.eq_ofNat_of_zero_le (show 0 ≤ c by omega)
              have n0 : ia ≤ n := by omega
              have n1 : n ≤ ia + ib := by omega
              refine ⟨_, rfl, _, rfl, _, rfl, by show 2 ≤ sizeLine; decide, fun kb hkb => ?_⟩
              have s7 := same_new (o := .tup [V.int (0 + (ia : Int)), .int (n : Int)]) hkb
              have hkb7 : (upd H6 kb (.tup [V.int (0 + (ia : Int)), .int (n : Int)])) kb = some (.tup ([.inl (ia : Int), .inl (n : Int)].map kV)) := by
                rw [upd_same, ea]
                rfl
              have t7 := t6.trans (TS.of_same t6.1 s7)
              have td7 := td6.ts t6.1 (TS.of_same t6.1 s7)
              have hLq7 := s7 _ _ hLq6
              generalize upd H6 kb _ = H7 at s7 hkb7 t7 td7 hLq7
              obtain ⟨kvs, d1, d2, d3⟩ := id td7
              obtain ⟨p, v, hp⟩ := d3 ia n ⟨n0, by omega⟩
              refine ⟨T, .ref p, rfl, v ▸ DGet.t d1 hkb7, ?_⟩
              refine ⟨_, rfl, _, rfl, _, rfl, by show 2 ≤ sizeLine; decide, fun kc hkc => ?_⟩
              have s8 := same_new (o := .tup [V.int (n : Int), .int (0 + (ia : Int) + (ib : Int))]) hkc
              have hkc8 : (upd H7 kc (.tup [V.int (n : Int), .int (0 + (ia : Int) + (ib : Int))])) kc = some (.tup ([.inl (n : Int), .inl ((ia + ib : Nat) : Int)].map kV)) := by
                rw [upd_same, eb]
                rfl
              have t8 := t7.trans (TS.of_same t7.1 s8)
              have td8 := td7.ts t7.1 (TS.of_same t7.1 s8)
              have hLq8 := s8 _ _ hLq7
              have hp8 := s8 _ _ hp
              generalize upd H7 kc _ = H8 at s8 hkc8 t8 td8 hLq8 hp8
              obtain ⟨kvs8, e1, e2, e3⟩ := id td8
              obtain ⟨p2, v2, hp2⟩ := e3 n (ia + ib) ⟨n1, hn⟩
              refine ⟨T, .ref p2, rfl, v2 ▸ DGet.t e1 hkc8, ?_⟩
              refine ⟨p, p2, part col ia n, part col n (ia + ib), rfl, hp8, hp2, fun H9 j s9 hj => ?_⟩
              rw [part_cat col ia n (ia + ib) n0 n1] at hj
              have t9 := t8.trans (TS.of_same t8.1 s9)
              refine ⟨_, rfl, _, rfl, _, rfl, _, rfl, _, rfl, C, _, rfl, sql_ts ht t9 hC, fun L hL => ?_⟩
              rw [eb, ea, cut_part col _ _ (by omega) hn]
              have s10 := same_new (o := .lst ((part col ia (ia + ib)).map V.int)) hL
              have hpl := part_len col ia (ia + ib)
              refine ⟨L, part col ia (ia + ib), rfl, SqL.of upd_same, by omega, part_few hf _ _, fun H11 u s11 hu => ⟨j, u, part col ia (ia + ib), rfl, s11 _ _ (s10 _ _ hj), hu, fun H12 s12 => ⟨true, rfl, ?_⟩⟩⟩
              refine iteNT ?_
              have sA := (s9.trans s10).trans (s11.trans s12)
              exact ⟨_, rfl, t8.trans (TS.of_same t8.1 sA), td8.ts t8.1 (TS.of_same t8.1 sA), sA _ _ hLq8⟩
            · rintro σ H6 ⟨y8, rfl, t6, td6, _⟩
              exact ⟨_, _, _, rfl, t6, td6⟩
        · rintro σ H3 ⟨y6, y7, y8, rfl, t3, td3⟩
          exact ⟨_, _, _, _, rfl, t3, td3⟩
      · rintro σ H2 ⟨y5, y6, y7, y8, rfl, t2, _⟩
        exact q _ t2
end
end Mt
namespace Mt
open PySem PySem.Spec PyProof.Rows L2
theorem tab_nil {H : Hp} {P : Addr} (h : H P = some (.tbl #[])) : GxR.TabG H P := ⟨#[], h, True.intro⟩
theorem tab_same {H H' : Hp} {P : Addr} (t : GxR.TabG H P) (s : Same H H') : GxR.TabG H' P := let ⟨ps, h, r⟩ := t; ⟨ps, s _ _ h, r⟩
theorem tab_go {S D P : Addr} {H H' : Hp} (d : DrawAt S D H) (t : GxR.TabG H P) (g : Go S D H H') : GxR.TabG H' P := by
  obtain ⟨ps, h, r⟩ := t
  obtain ⟨_, _, _, _, hD⟩ := d.at_
  refine ⟨ps, g.2 _ _ h fun e => ?_, r⟩
  rw [e, hD] at h
  cases h
theorem ixL {X : Cx} {K : PySem.W.Frag} (h : X.K = K) : IxR X (rIxL K) := h ▸ ix_list
theorem tupOfT {X : Cx} {K : PySem.W.Frag} (h : X.K = K) : CallR X (.type "tuple") (fun xs H Q => ∃ p ys, xs = [.ref p] ∧ ((SqL K H p ys ∧ ∀ l, H l = none → Q (.ref l) (upd H l (.tup ys))) ∨ (SqT K H p ys ∧ Q (.ref p) H))) := h ▸ call_tuple_of
abbrev Cols : Type := List (Addr × List Int)
def ColsAt (H : Hp) (n : Nat) (cols : Cols) : Prop := ∀ e ∈ cols, H e.1 = some (.lst (e.2.map V.int)) ∧ e.2.length = n ∧ Few e.2
/-- the frames that are made: row j holds of each column its j-th -/
def RowsAt (H : Hp) (cols : Cols) (rows : List Addr) : Prop := ∀ (j : Nat) (t : Addr), rows[j]? = some t → ∃ row : List V, H t = some (.tup row) ∧ ∀ (gi : Nat) (e : Addr × List Int), cols[gi]? = some e → ∃ z, row[gi]? = some (.int z) ∧ e.2[j]? = some z
/-- all that the last part reads -/
structure All (K : PySem.W.Frag) (D Lc Lf : Addr) (n : Nat) (cols : Cols) (rows : List Addr) (H : Hp) : Prop where
  tab : GxR.TabG H (BP K)
  lc : H Lc = some (.lst (cols.map fun e => V.ref e.1))
  ca : ColsAt H n cols
  lf : H Lf = some (.lst (rows.map V.ref))
  ra : RowsAt H cols rows
  nd : ∀ e ∈ cols, e.1 ≠ D
  nc : Lc ≠ D
  nf : Lf ≠ D
theorem All.keep {K : PySem.W.Frag} {D Lc Lf : Addr} {n : Nat} {cols : Cols} {rows : List Addr} {H H' : Hp} (h : All K D Lc Lf n cols rows H) (tD : ∀ l, H D ≠ some (.tup l)) (k : ∀ b o, b ≠ D → b ≠ BP K → H b = some o → H' b = some o) (t : GxR.TabG H' (BP K)) : All K D Lc Lf n cols rows H' := by
  obtain ⟨ps, hP, _⟩ := h.tab
  have nl : ∀ b l, H b = some (.lst l) → b ≠ BP K := fun b l e n => by
    rw [n, hP] at e
    cases e
  have nt : ∀ b l, H b = some (.tup l) → b ≠ BP K := fun b l e n => by
    rw [n, hP] at e
    cases e
  exact ⟨t, k _ _ h.nc (nl _ _ h.lc) h.lc, fun e he => let ⟨c1, c2, c3⟩ := h.ca e he; ⟨k _ _ (h.nd e he) (nl _ _ c1) c1, c2, c3⟩, k _ _ h.nf (nl _ _ h.lf) h.lf,
    fun j t e => let ⟨row, r1, r2⟩ := h.ra j t e; ⟨row, k _ _ (fun n => tD row (n ▸ r1)) (nt _ _ r1) r1, r2⟩, h.nd, h.nc, h.nf⟩
theorem getC {es : Cols} {i : Nat} {x : V} (h : (es.map fun e => V.ref e.1)[i]? = some x) : ∃ e, x = .ref e.1 ∧ es[i]? = some e := getM h
section
variable {P : Program} {w : World} {K : PySem.W.Frag} {mg : Str → Option Value} {base : Heap}
theorem ok_law (T : Txt w K mg) (D__law_begin : Kept P w K mg base 1 "_law_begin" ["script"] (spBegin K)) (D__law_draw : Kept P w K mg base 1 "_law_draw" ["d", "many"] spDraw) (D__law_rare : Kept P w K mg base 2 "_law_rare" ["d", "many"] spRare) (D__law_column : Kept P w K mg base 2 "_law_column" ["d", "many"] spColumn) (D__law_gauge_holds : Kept P w K mg base 3 "_law_gauge_holds" ["frames", "column", "g"] (spHolds K)) {f : Addr} {fd : FuncData} (F : FnP K "law" s_law f fd) : FnOk P w K mg base CX0 4 f fd ["script"] (spLaw K) := by
  refine F.ok sc_law (fun vs H Q E h => ?_) (fun cdv A outer s H vs Q E hr h => ?_)
  · obtain ⟨a, ns, rfl, _⟩ := h
    rfl
  · obtain ⟨a, cs, rfl, hS, hlen, ht, q⟩ := h
    refine ⟨_, PSs.nox (pss_cons (ps_set (i := 1) sc_law.nd rfl (Or.inr rfl) (pe_d D__law_begin (hr.mono (by decide)) (by rfl) (pa_cons (pv 0) pa_nil)))
      (pss_cons (ps_set (i := 2) sc_law.nd rfl (Or.inr rfl) (pe_d D__law_draw (hr.mono (by decide)) (by rfl) (pa_cons (pv 1) (pa_cons pe_int pa_nil))))
      (Evl.pss_cut (ps_if (pt_val (pe_d D__law_rare (hr.mono (by decide)) (by rfl) (pa_cons (pv 1) (pa_cons pe_int pa_nil)))) (pss_one (ps_set (i := 2) sc_law.nd rfl (Or.inr rfl) (pe_op op_add pe_int (pe_d D__law_draw (hr.mono (by decide)) (by rfl) (pa_cons (pv 1) (pa_cons pe_int pa_nil)))))) pss_nil)
      (pss_cons (ps_set (i := 3) sc_law.nd rfl (Or.inl rfl) (pe_op op_add pe_int (pe_d D__law_draw (hr.mono (by decide)) (by rfl) (pa_cons (pv 1) (pa_cons pe_int pa_nil)))))
      (Evl.pss_cut (ps_if (pt_val (pe_d D__law_rare (hr.mono (by decide)) (by rfl) (pa_cons (pv 1) (pa_cons pe_int pa_nil)))) (pss_one (ps_set (i := 3) sc_law.nd rfl (Or.inl rfl) (pe_op op_add pe_int (pe_d D__law_draw (hr.mono (by decide)) (by rfl) (pa_cons (pv 1) (pa_cons pe_int pa_nil)))))) pss_nil)
      (pss_cons (ps_set (i := 4) sc_law.nd rfl (Or.inr rfl) (pe_lc (own := [("k", 5)]) (g := (gName 5)) (tt := tYes) rfl sc_law.nd (pi_range1 (by rfl) T.b_range (pa_cons (pv 3) pa_nil)) (blkOk_by (N := N_law) (sc := defScope s_law) (by decide +kernel)) (fun _ _ _ _ _ => (pg_name (i := 5) sc_law.nd rfl (Or.inl rfl))) (fun _ _ _ _ _ => pts_nil) (fun _ _ _ _ _ => (pe_d D__law_column (hr.mono (by decide)) (by rfl) (pa_cons (pv 1) (pa_cons (pv 2) pa_nil))))))
      (pss_cons (ps_set (i := 6) sc_law.nd rfl (Or.inr rfl) (pe_lst pa_nil))
      (pss_cons (ps_for PassesOwn.never rfl (pi_range1 (by rfl) T.b_range (pa_cons (pv 2) pa_nil)) (pg_name (i := 5) sc_law.nd rfl (Or.inr rfl)) (pss_one (ps_expr (pe_bm PySem.F.plainAttrs_list PySem.F.slot_list_append PySem.F.type_list_append mt_append (pv 6) (pa_cons (pe_callTy call_tuple_of (by rfl) T.b_tuple (by decide +kernel) (pa_cons (pe_lc (own := [("column", 7)]) (g := (gName 7)) (tt := tYes) rfl sc_law.nd (pi_list (pv 4)) (blkOk_by (N := N_law) (sc := defScope s_law) (by decide +kernel)) (fun _ _ _ _ _ => (pg_name (i := 7) sc_law.nd rfl (Or.inl rfl))) (fun _ _ _ _ _ => pts_nil) (fun _ _ _ _ _ => (pe_ix (ixL (K := K) rfl) (pv 7) (pv 5) (fun _ _ => rfl)))) pa_nil)) pa_nil)))))
      (pss_cons (ps_set (i := 8) sc_law.nd rfl (Or.inl rfl) (pe_listRg rfl rfl T.b_list (prg_1 rfl T.b_range (pv 3))))
      (Evl.pss_cut (ps_if (pt_cmpR op_gt (pv 2) pe_int (nomark _)) (pss_one (ps_set (i := 8) sc_law.nd rfl (Or.inl rfl) (pe_lst (pa_cons (pe_d D__law_draw (hr.mono (by decide)) (by rfl) (pa_cons (pv 1) (pa_cons (pv 3) pa_nil))) pa_nil)))) pss_nil)
      (pss_one (ps_ret (pe_callB (cr_all rfl) (by rfl) T.b_all (by decide +kernel) (pa_cons (pe_lc (own := [("g", 9)]) (g := (gName 9)) (tt := tYes) rfl sc_law.nd (pi_list (pv 8)) (blkOk_by (N := N_law) (sc := defScope s_law) (by decide +kernel)) (fun _ _ _ _ _ => (pg_name (i := 9) sc_law.nd rfl (Or.inl rfl))) (fun _ _ _ _ _ => pts_nil) (fun _ _ _ _ _ => (pe_d D__law_gauge_holds (hr.mono (by decide)) (by rfl) (pa_cons (pe_callTy (tupOfT (K := K) rfl) (by rfl) T.b_tuple (by decide +kernel) (pa_cons (pv 6) pa_nil)) (pa_cons (pe_ix (ixL (K := K) rfl) (pv 4) (pv 9) (fun _ _ => rfl)) (pa_cons (pv 9) pa_nil)))))) pa_nil)))))))))))))), ?_⟩
    refine ⟨_, rfl, a, cs, rfl, hS, hlen, fun S D H1 s1 fD d => ?_⟩
    have tb1 := tab_same (tab_nil ht) s1
    refine ⟨_, rfl, S, D, 9, rfl, divW_of (by decide) (by decide), d, fun H2 m m0 m1 g2 => ?_⟩
    refine ⟨fun σ' H' => ∃ mm : Int, σ' = [some (.ref a), some (.ref D), some (.int mm), none, none, none, none, none, none, none] ∧ 0 ≤ mm ∧ mm ≤ 40 ∧ Go S D H1 H', ?_, ?_⟩
    · refine ⟨_, rfl, S, D, 9, rfl, by decide, by decide, g2.1, fun H3 b g3 => ⟨b, rfl, ?_⟩⟩
      refine ite2 (fun _ => ?_) (fun _ => ⟨_, rfl, m0, by omega, g2.trans g3⟩)
      exact ⟨_, rfl, S, D, 32, rfl, divW_of (by decide) (by decide), g3.1, fun H4 v v0 v1 g4 => ⟨_, _, rfl, rfl, _, rfl, by omega, by omega, (g2.trans g3).trans g4⟩⟩
    · rintro σ' H3 ⟨mm, rfl, mm0, mm1, g3⟩
      refine ⟨_, rfl, S, D, 4, rfl, divW_of (by decide) (by decide), g3.1, fun H4 z0 z00 z01 g4 => ⟨_, _, rfl, rfl, ?_⟩⟩
      refine ⟨fun σ' H' => ∃ sz : Int, σ' = [some (.ref a), some (.ref D), some (.int mm), some (.int sz), none, none, none, none, none, none] ∧ 1 ≤ sz ∧ sz ≤ 16 ∧ Go S D H1 H', ?_, ?_⟩
      · refine ⟨_, rfl, S, D, 9, rfl, by decide, by decide, g4.1, fun H5 b g5 => ⟨b, rfl, ?_⟩⟩
        refine ite2 (fun _ => ?_) (fun _ => ⟨_, rfl, by omega, by omega, (g3.trans g4).trans g5⟩)
        exact ⟨_, rfl, S, D, 16, rfl, divW_of (by decide) (by decide), g5.1, fun H6 v v0 v1 g6 => ⟨_, _, rfl, rfl, _, rfl, by omega, by omega, ((g3.trans g4).trans g5).trans g6⟩⟩
      · rintro σ' H5 ⟨sz, rfl, sz0, sz1, g5⟩
        refine ⟨_, rfl, _, rfl, by omega, by omega, fun Lc hLc => lc_range (lo := 0) (n := sz.toNat) (fun j H' => ∃ cols : Cols, Go S D H5 H' ∧ H' Lc = some (.lst (cols.map fun e => V.ref e.1)) ∧ cols.length = j ∧ ColsAt H' mm.toNat cols ∧ ∀ e ∈ cols, e.1 ≠ D ∧ e.1 ≠ Lc) ⟨[], Go.new g5.1 hLc, upd_same, rfl, fun _ h => absurd h List.not_mem_nil, fun _ h => absurd h List.not_mem_nil⟩ ?_ ?_⟩
        · rintro j H6 hj ⟨cols, g6, hL6, hl, hc, hne⟩
          have LcD := (g5.1.free hLc).1
          refine ⟨rfl, _, rfl, _, rfl, S, D, mm, rfl, mm0, mm1, g6.1, fun H7 L ns g7 h0 hL hl7 hf => ?_⟩
          have LD := (g6.1.free h0).1
          have LL : L ≠ Lc := fun e => by
            rw [e, hL6] at h0
            cases h0
          refine ⟨_, g7.2 _ _ hL6 LcD, by rw [List.length_map]; exact line6 (by omega), cols ++ [(L, ns)], goU hLc g5.1 (g6.trans g7), by rw [upd_same, List.map_append]; rfl, by rw [List.length_append, List.length_singleton, hl], fun e he => ?_, fun e he => ?_⟩
          · rcases List.mem_append.mp he with h | h
            · obtain ⟨c1, c2, c3⟩ := hc e h
              obtain ⟨n1, n2⟩ := hne e h
              exact ⟨by rw [upd_ne n2]; exact g7.2 _ _ c1 n1, c2, c3⟩
            · rw [List.mem_singleton.mp h]
              exact ⟨by rw [upd_ne LL]; exact hL, by show ns.length = _; omega, hf⟩
          · rcases List.mem_append.mp he with h | h
            · exact hne e h
            · rw [List.mem_singleton.mp h]
              exact ⟨LD, LL⟩
        · rintro H6 ⟨cols, g6, hL6, hl, hc, hne⟩
          have tb6 := tab_go d tb1 (g5.trans g6)
          have d6 := g6.1
          have LcD := (g5.1.free hLc).1
          clear g6 g5 g4 g3 g2
          refine ⟨Nat.zero_le _, fun Lf hLf => ?_⟩
          have s7 := same_new (o := .lst []) hLf
          have hf7 := upd_same (H := H6) (a := Lf) (o := .lst [])
          refine ⟨_, rfl, _, rfl, by omega, by omega, for_range (lo := 0) (n := mm.toNat) (fun i σ H' => ∃ (y5 : Option V) (rows : List Addr), σ = [some (.ref a), some (.ref D), some (.int mm), some (.int sz), some (.ref Lc), y5, some (.ref Lf), none, none, none] ∧ Same H6 H' ∧ H' Lf = some (.lst (rows.map V.ref)) ∧ rows.length = i ∧ RowsAt H' cols rows) ⟨none, [], rfl, s7, hf7, rfl, fun j t h => by simp at h⟩ ?_ ?_⟩
          · rintro i σ H7 hi ⟨y5, rows, rfl, s7, hf7, hrl, hR⟩
            have hL7 := s7 _ _ hL6
            have i40 : i < mm.toNat := hi
            refine ⟨_, rfl, .inl ⟨rfl, _, SqL.of hf7⟩, _, rfl, Lc, rfl, ⟨_, SqL.of hL7⟩, fun Lk hLk => lc_list (xs := cols.map fun e => V.ref e.1) (fun gi H' => ∃ zs : List Int, H' = upd H7 Lk (.lst (zs.map V.int)) ∧ zs.length = gi ∧ ∀ (g' : Nat) (e : Addr × List Int), g' < gi → cols[g']? = some e → ∃ z, zs[g']? = some z ∧ e.2[i]? = some z) ⟨[], rfl, rfl, fun g' e h => absurd h (Nat.not_lt_zero _)⟩ (fun gi H' _ ⟨_, e, _⟩ => e ▸ SqL.of (same_new hLk _ _ hL7)) ?_ ?_⟩
            · rintro gi x H8 hgi ⟨zs, rfl, zl, hz⟩
              obtain ⟨e, rfl, he⟩ := getC hgi
              obtain ⟨c1, c2, c3⟩ := hc e (List.mem_of_getElem? he)
              obtain ⟨z, hzi⟩ : ∃ z, e.2[i]? = some z := ⟨_, List.getElem?_eq_getElem (by omega)⟩
              have gl := (List.getElem?_eq_some_iff.mp he).1
              have hat : atI (e.2.map V.int) (0 + (i : Int)) = some (.int z) := by
                rw [Int.zero_add]
                exact atI_nat (by rw [List.getElem?_map, hzi]; rfl)
              refine ⟨rfl, _, rfl, _, rfl, e.1, _, _, _, rfl, rfl, SqL.of (same_new hLk _ _ (s7 _ _ c1)), hat, _, upd_same, by rw [List.length_map]; exact line6 (by omega), zs ++ [z], by rw [upd_upd, List.map_append]; rfl, by rw [List.length_append, List.length_singleton, zl], fun g' e' hg' he' => ?_⟩
              by_cases e0 : g' = gi
              · subst e0
                rw [he] at he'
                cases he'
                exact ⟨z, by rw [List.getElem?_append_right (by omega), zl, Nat.sub_self]; rfl, hzi⟩
              · obtain ⟨z', h1, h2⟩ := hz g' e' (by omega) he'
                exact ⟨z', by rw [List.getElem?_append_left (by omega)]; exact h1, h2⟩
            · rintro H8 ⟨zs, rfl, zl, hz⟩
              rw [List.length_map] at zl hz
              have s8 := same_new (o := .lst (zs.map V.int)) hLk
              refine ⟨Lk, _, rfl, .inl ⟨SqL.of upd_same, fun lt hlt => ?_⟩⟩
              have s9 := s8.trans (same_new (o := .tup (zs.map V.int)) hlt)
              have hlt9 := upd_same (H := upd H7 Lk (.lst (zs.map V.int))) (a := lt) (o := .tup (zs.map V.int))
              have hf9 := s9 _ _ hf7
              have ltf : lt ≠ Lf := fun e => by
                rw [e, s8 _ _ hf7] at hlt
                cases hlt
              generalize upd (upd H7 Lk (.lst (zs.map V.int))) lt (.tup (zs.map V.int)) = H9 at s9 hlt9 hf9
              refine ⟨Lf, _, _, rfl, rfl, hf9, by rw [List.length_map]; exact line6 (by omega), _, rows ++ [lt], rfl, same_mut (s7.trans s9) hLf, by rw [upd_same, List.map_append]; rfl, by rw [List.length_append, List.length_singleton, hrl], fun j t hj => ?_⟩
              by_cases e0 : j < rows.length
              · rw [List.getElem?_append_left e0] at hj
                obtain ⟨row, r1, r2⟩ := hR j t hj
                refine ⟨row, ?_, r2⟩
                have r9 := s9 _ _ r1
                rw [upd_ne (fun e => by rw [e, hf9] at r9; cases r9)]
                exact r9
              · rw [List.getElem?_append_right (by omega)] at hj
                have e1 : j - rows.length = 0 := by
                  cases h : j - rows.length with
                  | zero => rfl
                  | succ n =>
                    rw [h] at hj
                    cases hj
                rw [e1] at hj
                obtain rfl : lt = t := Option.some.inj hj
                have e2 : j = i := by omega
                subst e2
                refine ⟨zs.map V.int, by rw [upd_ne ltf]; exact hlt9, fun gi e he => ?_⟩
                obtain ⟨z, h1, h2⟩ := hz gi e (List.getElem?_eq_some_iff.mp he).1 he
                exact ⟨z, by rw [List.getElem?_map, h1]; rfl, h2⟩
          · rintro σ H7 ⟨y5, rows, rfl, s7, hf7, hrl, hR⟩
            have d7 : DrawAt S D H7 := (Go.same d6 s7).1
            have all7 : All K D Lc Lf mm.toNat cols rows H7 := ⟨tab_same tb6 s7, s7 _ _ hL6, fun e he => let ⟨c1, c2, c3⟩ := hc e he; ⟨s7 _ _ c1, c2, c3⟩, hf7, hR, fun e he => (hne e he).1, LcD, (d6.free hLf).1⟩
            have notup : ∀ H : Hp, DrawAt S D H → ∀ l, H D ≠ some (.tup l) := fun H d l e => by
              obtain ⟨_, _, _, _, hD⟩ := d.at_
              rw [hD] at e
              cases e
            refine ⟨_, rfl, _, rfl, RgOk.of_le (by omega) (by omega) (by omega) (by omega), fun La hLa => ?_⟩
            have s8 := same_new (o := .lst (rgV 0 sz)) hLa
            have d8 := (Go.same d7 s8).1
            have all8 := all7.keep (notup _ d7) (fun b o _ _ e => s8 b o e) (tab_same all7.tab s8)
            have hLa8 := upd_same (H := H7) (a := La) (o := .lst (rgV 0 sz))
            generalize upd H7 La _ = H8 at s8 d8 all8 hLa8
            refine ⟨fun σ' H' => ∃ (Lg : Addr) (gs : List Int), σ' = [some (.ref a), some (.ref D), some (.int mm), some (.int sz), some (.ref Lc), y5, some (.ref Lf), none, some (.ref Lg), none] ∧ All K D Lc Lf mm.toNat cols rows H' ∧ (∀ l, H' D ≠ some (.tup l)) ∧ H' Lg = some (.lst (gs.map V.int)) ∧ (∀ g ∈ gs, 0 ≤ g ∧ g < sz) ∧ gs.length ≤ 16, ?_, ?_⟩
            · refine ⟨_, rfl, _, _, rfl, rfl, _, rfl, ?_⟩
              refine ite2 (fun _ => ?_) (fun _ => ⟨La, (List.range (sz - 0).toNat).map fun k : Nat => 0 + (k : Int), rfl, all8, notup _ d8, ?_, fun g hg => ?_, ?_⟩)
              · refine ⟨_, rfl, _, rfl, S, D, sz, rfl, divW_of (by omega) (by omega), d8, fun H9 v v0 v1 g9 => ⟨by show 1 ≤ sizeLine; decide, fun Lg hLg => ?_⟩⟩
                have all9 := all8.keep (notup _ d8) (fun b o n _ e => g9.2 b o e n) (tab_go d8 all8.tab g9)
                have sg := same_new (o := .lst [V.int v]) hLg
                exact ⟨Lg, [v], rfl, all9.keep (notup _ g9.1) (fun b o _ _ e => sg b o e) (tab_same all9.tab sg), notup _ (Go.same g9.1 sg).1, upd_same, fun g hg => by rw [List.mem_singleton.mp hg]; exact ⟨v0, v1⟩, by show 1 ≤ 16; decide⟩
              · rw [hLa8, List.map_map]
                rfl
              · obtain ⟨k, hk, rfl⟩ := List.mem_map.mp hg
                have := List.mem_range.mp hk
                omega
              · rw [List.length_map, List.length_range]
                omega
            · rintro σ' H9 ⟨Lg, gs, rfl, all9, nD, hLg, hgs, gl⟩
              refine ⟨_, rfl, Lg, rfl, ⟨_, SqL.of hLg⟩, fun L hL => lc_list (xs := gs.map V.int) (fun j H' => TS (BP K) H9 H' ∧ H' L = some (.lst ((List.replicate j true).map V.bl))) ⟨TS.new all9.tab hL, upd_same⟩ (fun j H' _ ⟨e, _⟩ => sql_ts all9.tab e (SqL.of hLg)) ?_ ?_⟩
              · rintro j x H10 hj ⟨t10, hL10⟩
                obtain ⟨g, rfl, hg⟩ := getV hj
                have hjl : j < gs.length := (List.getElem?_eq_some_iff.mp hg).1
                obtain ⟨g0, g1⟩ := hgs g (List.mem_of_getElem? hg)
                obtain ⟨gi, rfl⟩ := Int.eq_ofNat_of_zero_le g0
                have LP := tab_ne all9.tab hL
                have all10 := all9.keep nD (fun b o _ n e => t10.2 b o n e) t10.1
                obtain ⟨e, he⟩ : ∃ e, cols[gi]? = some e := ⟨_, List.getElem?_eq_getElem (by omega)⟩
                have hat : atI (cols.map fun e => V.ref e.1) (gi : Int) = some (.ref e.1) := atI_nat (by rw [List.getElem?_map, he]; rfl)
                obtain ⟨c1, c2, c3⟩ := all10.ca e (List.mem_of_getElem? he)
                refine ⟨rfl, _, rfl, Lf, _, rfl, .inl ⟨SqL.of all10.lf, fun lt hlt => ?_⟩⟩
                have s11 := same_new (o := .tup (rows.map V.ref)) hlt
                have hlt11 := upd_same (H := H10) (a := lt) (o := .tup (rows.map V.ref))
                have t11 := TS.of_same t10.1 s11
                have hL11 := s11 _ _ hL10
                have c11 := s11 _ _ c1
                have lc11 := s11 _ _ all10.lc
                have ra11 : RowsAt (upd H10 lt (.tup (rows.map V.ref))) cols rows := fun i t h => let ⟨row, r1, r2⟩ := all10.ra i t h; ⟨row, s11 _ _ r1, r2⟩
                generalize upd H10 lt _ = H11 at s11 hlt11 t11 hL11 c11 lc11 ra11
                have eP : e.1 ≠ BP K := fun n => by
                  obtain ⟨ps, hP, _⟩ := t11.1
                  rw [n, hP] at c11
                  cases c11
                refine ⟨_, rfl, _, rfl, Lc, _, _, _, rfl, rfl, SqL.of lc11, hat, _, rfl, lt, e.1, rows, e.2, (gi : Int), rfl, SqT.of hlt11, ⟨by rw [c2, hrl], fun i t h => ?_⟩, SqL.of c11, eP, by omega, c3, t11.1, fun H12 t12 => ⟨_, t12.2 _ _ LP hL11, ?_, TS.mut ((t10.trans t11).trans t12) hL LP, ?_⟩⟩
                · obtain ⟨row, r1, r2⟩ := ra11 i t h
                  obtain ⟨z, h1, h2⟩ := r2 gi e he
                  exact ⟨row, z, SqT.of r1, atI_nat h1, h2⟩
                · rw [List.length_map, List.length_replicate]
                  exact line6 (by omega)
                · rw [upd_same, List.replicate_succ', List.map_append]
                  rfl
              · rintro H10 ⟨t10, hL10⟩
                refine ⟨L, List.replicate (gs.map V.int).length true, rfl, SqL.of hL10, ?_⟩
                rw [show (List.replicate (gs.map V.int).length true).all id = true by simp]
                exact q H10
end
end Mt
namespace Mt
open PySem PySem.Spec PyProof.Rows L2
def dd_tally_of : He.DefD := ⟨("tally_of", none), "tally_of", "tally_of", defArgs s_tally_of, defBody s_tally_of, defScope s_tally_of, [], []⟩
def dd_joined : He.DefD := ⟨("joined", none), "joined", "joined", defArgs s_joined, defBody s_joined, defScope s_joined, [], []⟩
def dd_gauge_tally : He.DefD := ⟨("gauge_tally", none), "gauge_tally", "gauge_tally", defArgs s_gauge_tally, defBody s_gauge_tally, defScope s_gauge_tally, [], []⟩
def dd__law_begin : He.DefD := ⟨("_law_begin", none), "_law_begin", "_law_begin", defArgs s__law_begin, defBody s__law_begin, defScope s__law_begin, [], []⟩
def dd__law_draw : He.DefD := ⟨("_law_draw", none), "_law_draw", "_law_draw", defArgs s__law_draw, defBody s__law_draw, defScope s__law_draw, [], []⟩
def dd__law_rare : He.DefD := ⟨("_law_rare", none), "_law_rare", "_law_rare", defArgs s__law_rare, defBody s__law_rare, defScope s__law_rare, [], []⟩
def dd__law_is_int : He.DefD := ⟨("_law_is_int", none), "_law_is_int", "_law_is_int", defArgs s__law_is_int, defBody s__law_is_int, defScope s__law_is_int, [], []⟩
def dd__law_column : He.DefD := ⟨("_law_column", none), "_law_column", "_law_column", defArgs s__law_column, defBody s__law_column, defScope s__law_column, [], []⟩
def dd__law_tally : He.DefD := ⟨("_law_tally", none), "_law_tally", "_law_tally", defArgs s__law_tally, defBody s__law_tally, defScope s__law_tally, [], []⟩
def dd__law_same : He.DefD := ⟨("_law_same", none), "_law_same", "_law_same", defArgs s__law_same, defBody s__law_same, defScope s__law_same, [], []⟩
def dd__law_gauge_holds : He.DefD := ⟨("_law_gauge_holds", none), "_law_gauge_holds", "_law_gauge_holds", defArgs s__law_gauge_holds, defBody s__law_gauge_holds, defScope s__law_gauge_holds, [], []⟩
def dd_law : He.DefD := ⟨("law", none), "law", "law", defArgs s_law, defBody s_law, defScope s_law, [], []⟩
def dds : List He.DefD := [dd_tally_of, dd_joined, dd_gauge_tally, dd__law_begin, dd__law_draw, dd__law_rare, dd__law_is_int, dd__law_column, dd__law_tally, dd__law_same, dd__law_gauge_holds, dd_law]
def fas : List He.Fa := [.glo "tally_of", .glo "joined", .glo "gauge_tally", .glo "_law_begin", .glo "_law_draw", .glo "_law_rare", .glo "_law_is_int", .glo "_law_column", .glo "_law_tally", .glo "_law_same", .glo "_law_gauge_holds", .glo "law", .free "int", .free "abs", .free "len", .free "isinstance", .free "bool", .free "tuple", .free "list", .free "range", .free "sum", .free "min", .free "max", .free "all"]
def tss : List He.Tab := []
def tfs : List He.Defn := [("gauge_tally", none)]
def exM (K : PySem.W.Frag) : Bool := true
abbrev R : PySem.W.OpenRow := PySem.W.OpenLaw.row PySem.Challenge.rw_meantrace_k33_gauge_tallies
abbrev hk : PySem.W.Hook := He.hookX 4 fas dds tss tfs exM
def ob (s : PySem.W.SharedT) : He.AlX := He.obsX 4 fas dds tss tfs exM (HandSHeadRun.getT s)
theorem ob_eq (s : PySem.W.SharedT) : ob s = hk.obs s.abs := He.obsX_eq (HandSHeadRun.getT_eq s)
def names : List PySem.Str := ["tally_of", "joined", "gauge_tally", "_law_begin", "_law_draw", "_law_rare", "_law_is_int", "_law_column", "_law_tally", "_law_same", "_law_gauge_holds"]
theorem run (w : World) : HandSHeadRun.RunEq R (PySem.W.view R.prog [13]) hk ob 2000 names w := by
  refine PySem.W.byRow2 "special-get-raises" (P := fun w => HandSHeadRun.RunEq R (PySem.W.view R.prog [13]) hk ob 2000 names w) (fun w os => ?_) (fun w os => ?_) w
  · kernel_rfl
  · kernel_rfl
theorem facts {P : Program} {w : World} {K : PySem.W.Frag} {h : Heap} {mg : Str → Option Value} {f : Addr} (X : K.In h) (G : h.Ns mainGlobals mg) (hfa : mg ("law" : Str) = some (.ref f)) (c : He.SaysX fas dds tss tfs exM w h K) :
    ∃ fd : FuncData, (∀ (s : Shared) (v : Value), BindsTo s fd ⟨[v], []⟩ [("script", v)]) ∧ ∀ base : Heap, K.In base → base.Ns mainGlobals mg → GxR.TabB base mg (He.cT K ("gauge_tally", none)).1 (He.cT K ("gauge_tally", none)).2 → FnOk P w K mg base CX0 4 f fd ["script"] (spLaw K) := by
  obtain ⟨fd, F⟩ := c.t.d.def_ 11 (d := dd_law) rfl
  have e := hfa.symm.trans (He.glo_ok X G (c.t.d.fact 11 (f := .glo "law") rfl))
  cases e
  have T : Txt w K mg := ⟨He.free_ok X G (c.t.d.fact 12 (f := .free "int") rfl), He.free_ok X G (c.t.d.fact 13 (f := .free "abs") rfl), He.free_ok X G (c.t.d.fact 14 (f := .free "len") rfl), He.free_ok X G (c.t.d.fact 15 (f := .free "isinstance") rfl), He.free_ok X G (c.t.d.fact 16 (f := .free "bool") rfl), He.free_ok X G (c.t.d.fact 17 (f := .free "tuple") rfl), He.free_ok X G (c.t.d.fact 18 (f := .free "list") rfl), He.free_ok X G (c.t.d.fact 19 (f := .free "range") rfl), He.free_ok X G (c.t.d.fact 20 (f := .free "sum") rfl), He.free_ok X G (c.t.d.fact 21 (f := .free "min") rfl), He.free_ok X G (c.t.d.fact 22 (f := .free "max") rfl), He.free_ok X G (c.t.d.fact 23 (f := .free "all") rfl)⟩
  have b := FunD.bindsA (ps := ["script"]) F fun _ _ _ _ _ _ us hl => match us, hl with | [_], _ => rfl
  refine ⟨fd, fun s v => b s [v] rfl, fun base _ _ TB_gauge_tally => ?_⟩
  have D_tally_of := (show Kept P w K mg base (1) "tally_of" ["values"] (spTally K) from kept_of (st := s_tally_of) X G (c.t.d.def_ 0 (d := dd_tally_of) rfl) (c.t.d.fact 0 (f := .glo "tally_of") rfl) (fun _ _ _ _ _ _ us hl => match us, hl with | [_], _ => rfl) (fun f fd F => ok_tally_of T F))
  have D_joined := (show Kept P w K mg base (1) "joined" ["tally", "other"] (spJoin K) from kept_of (st := s_joined) X G (c.t.d.def_ 1 (d := dd_joined) rfl) (c.t.d.fact 1 (f := .glo "joined") rfl) (fun _ _ _ _ _ _ us hl => match us, hl with | [_, _], _ => rfl) (fun f fd F => ok_joined T F))
  have D__law_begin := (show Kept P w K mg base (1) "_law_begin" ["script"] (spBegin K) from kept_of (st := s__law_begin) X G (c.t.d.def_ 3 (d := dd__law_begin) rfl) (c.t.d.fact 3 (f := .glo "_law_begin") rfl) (fun _ _ _ _ _ _ us hl => match us, hl with | [_], _ => rfl) (fun f fd F => ok__law_begin T F))
  have D__law_draw := (show Kept P w K mg base (1) "_law_draw" ["d", "many"] spDraw from kept_of (st := s__law_draw) X G (c.t.d.def_ 4 (d := dd__law_draw) rfl) (c.t.d.fact 4 (f := .glo "_law_draw") rfl) (fun _ _ _ _ _ _ us hl => match us, hl with | [_, _], _ => rfl) (fun f fd F => ok__law_draw T F))
  have D__law_is_int := (show Kept P w K mg base (1) "_law_is_int" ["thing"] spIsInt from kept_of (st := s__law_is_int) X G (c.t.d.def_ 6 (d := dd__law_is_int) rfl) (c.t.d.fact 6 (f := .glo "_law_is_int") rfl) (fun _ _ _ _ _ _ us hl => match us, hl with | [_], _ => rfl) (fun f fd F => ok__law_is_int T F))
  have D__law_tally := (show Kept P w K mg base (1) "_law_tally" ["row"] (spLTally K) from kept_of (st := s__law_tally) X G (c.t.d.def_ 8 (d := dd__law_tally) rfl) (c.t.d.fact 8 (f := .glo "_law_tally") rfl) (fun _ _ _ _ _ _ us hl => match us, hl with | [_], _ => rfl) (fun f fd F => ok__law_tally T F))
  have D__law_rare := (show Kept P w K mg base (2) "_law_rare" ["d", "many"] spRare from kept_of (st := s__law_rare) X G (c.t.d.def_ 5 (d := dd__law_rare) rfl) (c.t.d.fact 5 (f := .glo "_law_rare") rfl) (fun _ _ _ _ _ _ us hl => match us, hl with | [_, _], _ => rfl) (fun f fd F => ok__law_rare T D__law_draw F))
  have D__law_column := (show Kept P w K mg base (2) "_law_column" ["d", "many"] spColumn from kept_of (st := s__law_column) X G (c.t.d.def_ 7 (d := dd__law_column) rfl) (c.t.d.fact 7 (f := .glo "_law_column") rfl) (fun _ _ _ _ _ _ us hl => match us, hl with | [_, _], _ => rfl) (fun f fd F => ok__law_column T D__law_draw F))
  have D__law_same := (show Kept P w K mg base (2) "_law_same" ["told", "due"] (spSame K) from kept_of (st := s__law_same) X G (c.t.d.def_ 9 (d := dd__law_same) rfl) (c.t.d.fact 9 (f := .glo "_law_same") rfl) (fun _ _ _ _ _ _ us hl => match us, hl with | [_, _], _ => rfl) (fun f fd F => ok__law_same T D__law_is_int F))
  have D_gauge_tally := (show Kept P w K mg base (2) "gauge_tally" ["frames", "gauge", "a", "b"] (spGauge K) from kept_ofC (st := s_gauge_tally) X G (c.t.d.def_ 2 (d := dd_gauge_tally) rfl) (c.t.d.fact 2 (f := .glo "gauge_tally") rfl) (fun _ _ _ _ _ _ us hl => match us, hl with | [_, _, _, _], _ => rfl) (fun fd F => ok_gauge T D_tally_of TB_gauge_tally F))
  have D__law_gauge_holds := (show Kept P w K mg base (3) "_law_gauge_holds" ["frames", "column", "g"] (spHolds K) from kept_of (st := s__law_gauge_holds) X G (c.t.d.def_ 10 (d := dd__law_gauge_holds) rfl) (c.t.d.fact 10 (f := .glo "_law_gauge_holds") rfl) (fun _ _ _ _ _ _ us hl => match us, hl with | [_, _, _], _ => rfl) (fun f fd F => ok__law_gauge_holds T D_joined D_gauge_tally D__law_tally D__law_same F))
  exact ok_law T D__law_begin D__law_draw D__law_rare D__law_column D__law_gauge_holds F
end Mt
open PySem PySem.W PySem.Calls PyProof.Rows
set_option maxHeartbeats 0 in
theorem PySem.Challenge.cw_meantrace_k33_gauge_tallies_holds : PySem.Challenge.rw_meantrace_k33_gauge_tallies.Holds := by
  w_on; o_law
  refine HandSHeadRun.head_any (r := OpenLaw.row PySem.Challenge.rw_meantrace_k33_gauge_tallies) (q := view (OpenLaw.row PySem.Challenge.rw_meantrace_k33_gauge_tallies).prog [13]) (H := Mt.hk) (ob := Mt.ob) (M := 2000) (loose := Mt.names) (d := HandSHeadRun.topDef (OpenLaw.row PySem.Challenge.rw_meantrace_k33_gauge_tallies).prog 13) (kwd := []) Mt.ob_eq
    (by kernel_rfl) (fun s => by kernel_rfl) Mt.run (by kernel_rfl) (by kernel_rfl) (by kernel_rfl) (by rfl) (by first | assumption | decide +kernel) (by decide +kernel) ⟨rfl, rfl, rfl, rfl, rfl, by decide +kernel⟩ ?hw ?hc
  case hw => w_witness2
  case hc =>
    refine LamX.walk_ofTsE (l := PySem.Challenge.rw_meantrace_k33_gauge_tallies) (n := 63) (k := 4) (x := "script") (CX := fun _ => L2.CX0) rfl (by decide) (by kernel_rfl) ⟨rfl, by decide, by decide⟩ ?F (fun _ _ _ _ _ z => z)
    intro w mg fa h Y G hmg0
    obtain ⟨K, KX, c⟩ := Y
    have hmg : mg ("law" : PySem.Str) = some (.ref fa) := by
      have e : (HandSHeadRun.topDef (OpenLaw.row PySem.Challenge.rw_meantrace_k33_gauge_tallies).prog 13).name = ("law" : PySem.Str) := by kernel_rfl
      rw [← e]
      exact hmg0
    obtain ⟨fd, hb, hF⟩ := Mt.facts (P := (PySem.Challenge.rw_meantrace_k33_gauge_tallies).prog) (w := w) KX G hmg c
    have mem : ∀ p ∈ [He.cT K ("gauge_tally", none)], ∃ q ∈ Mt.tfs, p = He.cT K q := fun p hp => by
      obtain ⟨q, hq, e⟩ := List.mem_map.mp (show p ∈ Mt.tfs.map (He.cT K) from hp)
      exact ⟨q, hq, e.symm⟩
    refine ⟨K, KX, fd, [He.cT K ("gauge_tally", none)], Mt.spLaw K, fun p hp => ?_, fun p hp => ?_, fun p hp => ?_, hb, fun H a ns hl hbits hT hS => ?_, fun base kb gb tb => hF base kb gb (let t := tb _ List.mem_cons_self; ⟨t.code, t.bm, t.gP⟩)⟩
    · obtain ⟨q, hq, e⟩ := mem p hp
      rw [e]
      exact c.empty q hq
    · obtain ⟨q, hq, e⟩ := mem p hp
      rw [e]
      exact c.out q hq
    · obtain ⟨q, hq, e⟩ := mem p hp
      rw [e]
      exact PySem.W.codeHd_of_K KX (c.hd q hq)
    · exact ⟨a, ns, rfl, hS, hl, hT _ List.mem_cons_self, fun _ => rfl⟩
