import PyProof.Rows.All
import Wide.All
import OpenK.AllK
import Wide.FinOn
import KE.KStateDown
import HandS.ForMost
import HandS.Wide
import HandS.IsInst
import HandS.Walk
import HandS.Style
import HandS.Evl
import HandS.StrMore
import HandS.Exc
import HandS.WordsExc
import HandS.Defaults
import HandS.Head0
import HandS.Head1
import HandS.Head2
import HandS.HeadEnd
import HandS.HeadHook1
import HandS.HeadHook2
import HandS.Gcd
import HandS.Head3
import HandS.Star
import HandS.RaiseMore
import HandS.AnyAll
import HandS.Conv
import HandS.More
import HandS.Small
import HandS.HeadHook3
import HandS.HeadHook4
import HandS.HeadWalk
import HandS.EndTab
import PyProof.GenCompT
import PyProof.TupleOfGen
import PyProof.WalksPairs
import PySem.Challenge.RW_meantrace_k12_moves_counted
set_option Elab.async false
set_option linter.all false
set_option maxRecDepth 100000
/-! Our own words over the hand layer: defs of the top by name, the draws' state, heaps that go on. -/
namespace Mt
open PySem PySem.Spec PyProof.Rows L2
section
variable {P : Program} {w : World} {K : PySem.W.Frag} {mg : Str → Option Value} {base : Heap}
abbrev FnP (K : PySem.W.Frag) (x : Str) (st : Stmt) (f : Addr) (fd : FuncData) : Prop := FunD K x x (defArgs st) (defBody st) (defScope st) [] [] f fd
/-- a def that keeps its promise -/
def Kept (P : Program) (w : World) (K : PySem.W.Frag) (mg : Str → Option Value) (base : Heap) (k : Nat) (x : Str) (ps : List Str) (sp : Sp) : Prop :=
  ∃ f fd, FnOk P w K mg base CX0 k f fd ps sp ∧ mg x = some (.ref f) ∧ PySem.W.keepIn K (.ref f) = true ∧ Binds K fd ps []
/-- what the head tells: facts by names, defs, one more word of one's own -/
abbrev AlM : Type := He.AlD × Bool
def obsM (n : Nat) (fa : List He.Fa) (fn : List He.DefD) (ex : PySem.W.Frag → Bool) (g : Addr → Option Obj) : AlM := (He.obsDG n fa fn g, ex (He.frG g (He.asD g n)))
def SaysM (fa : List He.Fa) (fn : List He.DefD) (ex : PySem.W.Frag → Bool) (K : PySem.W.Frag) : Prop := He.SaysD fa fn K ∧ ex K = true
def hookM (n : Nat) (fa : List He.Fa) (fn : List He.DefD) (ex : PySem.W.Frag → Bool) : PySem.W.Hook where
  α := AlM
  obs := fun s => obsM n fa fn ex s.heap.get?
  val := fun _ => (He.valD fn, true)
  says := fun _ h => ∃ K : PySem.W.Frag, K.In h ∧ SaysM fa fn ex K
  of := fun _ _ e => ⟨_, He.frG_in, congrArg (fun z : AlM => z.1) e, congrArg (fun z : AlM => z.2) e⟩
  keeps := fun _ _ _ ⟨K, hK, c⟩ k => ⟨K, PySem.W.Frag.In.keeps hK k, c⟩
theorem obsM_eq {n : Nat} {fa : List He.Fa} {fn : List He.DefD} {ex : PySem.W.Frag → Bool} {g : Addr → Option Obj} {s : Shared} (h : ∀ a, g a = s.heap.get? a) : obsM n fa fn ex g = (hookM n fa fn ex).obs s := by
  have e : g = s.heap.get? := funext h
  rw [e] <;> rfl
theorem kept_of {h : Heap} (X : K.In h) (G : h.Ns mainGlobals mg) {x : Str} {ps : List Str} {st : Stmt} {k : Nat} {sp : Sp}
    (hd : ∃ fd, FnP K x st (He.ga K x) fd) (hg : (He.Fa.glo x).ok K = true)
    (hb : ∀ (kV doc pm : Value) (an : Option Addr) (cdv ct : Value) (us : List Value), us.length = ps.length → bindArgs (PySem.W.fnOf x x (defArgs st) (defBody st) (defScope st) .none kV doc pm an cdv ct) ⟨us, []⟩ = pure (ps.zip us))
    (ok : ∀ f fd, FnP K x st f fd → FnOk P w K mg base CX0 k f fd ps sp) : Kept P w K mg base k x ps sp := by
  obtain ⟨fd, F⟩ := hd
  exact ⟨_, fd, ok _ fd F, He.glo_ok X G hg, F.kp, F.bindsN hb⟩
end
section
variable {X : Cx}
theorem pe_d {k : Nat} {x : Str} {ps : List Str} {sp : Sp} {e : Expr} {es : List Expr} {t : TA} {p pos : Pos} (D : Kept X.prog X.w X.K X.mg X.base k x ps sp) (hr : Room k X.A) (hg : Gl X x) (ha : PA X (e :: es) t)
    (hdb : (x == ("__debug__" : Str)) = false := by decide) (he : starEach (e :: es) X.env = (false, eval e X.env) :: starEach es X.env := by rfl) (hpl : (backTo pos (starEach es X.env)).any (·.1) = false := by rfl) :
    PE X (.Call (.Name x p) (e :: es) [] pos) (tCall sp [] E0 t) := by
  obtain ⟨f, fd, F, g, kp, b⟩ := D
  exact pe_call F hr hg g kp b .nil pass0 ha hdb he hpl
theorem pe_d0 {k : Nat} {x : Str} {ps : List Str} {sp : Sp} {p pos : Pos} (D : Kept X.prog X.w X.K X.mg X.base k x ps sp) (hr : Room k X.A) (hg : Gl X x) (hdb : (x == ("__debug__" : Str)) = false := by decide) :
    PE X (.Call (.Name x p) [] [] pos) (tCall sp [] E0 tNil) := by
  obtain ⟨f, fd, F, g, kp, b⟩ := D
  exact pe_call0 F hr hg g kp b .nil pass0 hdb
/-- a text of the module; an object of the module -/
theorem pe_gs {x z : Str} {pos : Pos} (h : ∃ t, X.mg x = some (.str z t)) (hg : Gl X x) (hd : (x == ("__debug__" : Str)) = false := by decide) : PE X (.Name x pos) (tC (.str z)) := by
  obtain ⟨t, h⟩ := h
  exact pe_glob hg h ⟨_, rfl⟩ hd
/-- xs[i] op= e reads xs[i] -/
theorem get_list : PGet X (rIxL X.K) := by
  intro pins s σ H o i ov iv Q I ro ri h
  obtain ⟨p, xs, i, z, rfl, rfl, hq, he, q⟩ := h
  cases ro
  obtain ⟨t, rfl⟩ := ri
  obtain ⟨its, r, pl, hz⟩ := I.list hq
  obtain ⟨j, h1, h2, h3, h4, h5⟩ := atI_get he
  obtain ⟨w, ew, rw'⟩ := r.get h2
  have hl := r.length
  have hn := line63
  have fin : EP X pins σ Q w s := ⟨z, H, I, rw', q⟩
  by_cases h0 : 0 ≤ i
  · have hj : i.toNat = j := by
      rw [seqIndex_of h0 h5] at h1
      exact Option.some.inj h1
    exact wpAny_mono (wpAny_getItem_list (Q := fun r s' => r = w ∧ EP X pins σ Q r s') pl.isList h0 (by omega) (by rw [hj]; simpa using ew) ⟨rfl, fin⟩) (fun _ _ q => q.2) (fun _ _ q => q)
  · have hj : (i + (its.toArray.size : Int)).toNat = j := by
      rw [seqIndex_neg (by omega) h4] at h1
      rw [List.size_toArray, ← hl]
      exact Option.some.inj h1
    exact wpAny_mono (wpAny_getItem_list_neg (Q := fun r s' => r = w ∧ EP X pins σ Q r s') pl.isList (by omega) (by rw [List.size_toArray] <;> omega) (by omega) (by rw [hj]; simpa using ew) ⟨rfl, fin⟩) (fun _ _ q => q.2) (fun _ _ q => q)
end

/-! ### the draws: [cells, place, rest, seed] at D -/
structure DrawAt (S D : Addr) (H : Hp) : Prop where
  ne : S ≠ D
  cells : ∃ cs : List Int, H S = some (.lst (cs.map V.int))
  at_ : ∃ i r c : Int, 0 ≤ i ∧ H D = some (.lst [.ref S, .int i, .int r, .int c])
/-- all else that is tracked stays -/
def Keep (D : Addr) (H H' : Hp) : Prop := ∀ b o, H b = some o → b ≠ D → H' b = some o
def Go (S D : Addr) (H H' : Hp) : Prop := DrawAt S D H' ∧ Keep D H H'
theorem Keep.refl {D : Addr} {H : Hp} : Keep D H H := fun _ _ h _ => h
theorem Keep.trans {D : Addr} {H H1 H2 : Hp} (a : Keep D H H1) (b : Keep D H1 H2) : Keep D H H2 := fun x o h n => b x o (a x o h n) n
theorem Go.trans {S D : Addr} {H H1 H2 : Hp} (a : Go S D H H1) (b : Go S D H1 H2) : Go S D H H2 := ⟨b.1, a.2.trans b.2⟩
theorem Keep.set {D : Addr} {H H' : Hp} {o : HO} (k : Keep D H H') : Keep D H (upd H' D o) := fun b u h n => by
  rw [upd_ne n]
  exact k b u h n
theorem DrawAt.set {S D : Addr} {H : Hp} (d : DrawAt S D H) {i r c : Int} (h : 0 ≤ i) : DrawAt S D (upd H D (.lst [.ref S, .int i, .int r, .int c])) :=
  ⟨d.ne, d.cells.imp fun cs h => by rw [upd_ne d.ne]; exact h, ⟨i, r, c, h, upd_same⟩⟩
theorem DrawAt.new {S D p : Addr} {H : Hp} {o : HO} (d : DrawAt S D H) (h : H p = none) : DrawAt S D (upd H p o) := by
  obtain ⟨cs, h1⟩ := d.cells
  obtain ⟨i, r, c, h0, h2⟩ := d.at_
  exact ⟨d.ne, ⟨cs, by rw [upd_ne (ne_of_none h1 h)]; exact h1⟩, ⟨i, r, c, h0, by rw [upd_ne (ne_of_none h2 h)]; exact h2⟩⟩
theorem Keep.new {D p : Addr} {H : Hp} {o : HO} (h : H p = none) : Keep D H (upd H p o) := fun b u e _ => by
  rw [upd_ne (ne_of_none e h)]
  exact e
theorem Go.new {S D p : Addr} {H : Hp} {o : HO} (d : DrawAt S D H) (h : H p = none) : Go S D H (upd H p o) := ⟨d.new h, Keep.new h⟩
theorem Go.same {S D : Addr} {H H' : Hp} (d : DrawAt S D H) (h : Same H H') : Go S D H H' := by
  obtain ⟨cs, h1⟩ := d.cells
  obtain ⟨i, r, c, h0, h2⟩ := d.at_
  exact ⟨⟨d.ne, ⟨cs, h _ _ h1⟩, ⟨i, r, c, h0, h _ _ h2⟩⟩, fun b o e _ => h b o e⟩
theorem Go.refl {S D : Addr} {H : Hp} (d : DrawAt S D H) : Go S D H H := ⟨d, Keep.refl⟩
/-- a fresh place stays fresh when looked at from behind -/
theorem DrawAt.free {S D p : Addr} {H : Hp} (d : DrawAt S D H) (h : H p = none) : p ≠ D ∧ p ≠ S := by
  obtain ⟨cs, h1⟩ := d.cells
  obtain ⟨i, r, c, h0, h2⟩ := d.at_
  exact ⟨(ne_of_none h2 h).symm, (ne_of_none h1 h).symm⟩
theorem Go.free {S D p : Addr} {H H' : Hp} (g : Go S D H H') (d : DrawAt S D H) (h : H' p = none) : H p = none := by
  cases q : H p with
  | none => rfl
  | some o =>
    by_cases e : p = D
    · exact absurd e (g.1.free h).1
    · rw [g.2 p o q e] at h
      cases h
def spDraw : Sp := fun vs H Q _ => ∃ (S D : Addr) (many : Int), vs = [.ref D, .int many] ∧ CDivW 0 many ∧ DrawAt S D H ∧ ∀ H' v, 0 ≤ v → v < many → Go S D H H' → Q (.int v) H'
end Mt
/-! ### tuple(b for a, b in rows): rows a tuple of pairs -/
namespace GT
open PySem PySem.Spec PyProof.Rows L2
theorem letGo_tupiter {prog : Program} {w : World} {A : Around} {E : Value → Shared → Prop} {s : Shared} {elts : List Expr} {x1} {pos : Pos} {I l T : Addr} {i : Nat} {Q : Unit → Shared → Prop} (hit : s.heap.IsTupleIter I l i) (hQ : Q () s) :
    wpAny (model prog w) A (letOwnedTupleGo (.Tuple elts x1 pos) (.ref I) (.ref T)) Q E s := by
  obtain ⟨o, ho, hc, hd⟩ := hit
  unfold letOwnedTupleGo
  refine wpAny_bind (wpAny_load ho ?_)
  rw [hc, hd]
  show wpAny _ A (if (["enumerate", "zip", "dict_itemiterator", "dict_reverseitemiterator", "odict_iterator", "itertools.zip_longest", "itertools.pairwise"].contains "tuple_iterator" &&
      (#[.ref l, .int i 0] : Array Value)[0]? == some (rawInt T)) = true then _ else _) Q E s
  rw [if_neg (by
    intro h
    rw [show (["enumerate", "zip", "dict_itemiterator", "dict_reverseitemiterator", "odict_iterator", "itertools.zip_longest", "itertools.pairwise"].contains "tuple_iterator") = false from by decide, Bool.false_and] at h
    cases h)]
  exact wpAny_pure hQ
theorem tupOfTuples {prog : Program} {w : World} {A : Around} (hh : A.handled = none) (I ax : Addr) (hne : ax ≠ I) (items : Array Value) (Ts : Nat → Addr) (vals : Nat → Array Value)
    (hit : ∀ j, j < items.size → items[j]? = some (.ref (Ts j))) (hTI : ∀ j, j < items.size → Ts j ≠ I) :
    WalksU prog w A I (I :: ax :: (List.range items.size).map Ts) [I] items.size (fun j v => v = vals j)
      (fun j h => h.IsTupleIter I ax j ∧ h.IsTuple ax items ∧ ∀ k, k < items.size → h.IsTuple (Ts k) (vals k))
      (fun j T h => (j < items.size ∧ T = Ts j) ∧ h.IsTupleIter I ax (j + 1) ∧ h.IsTuple ax items ∧ ∀ k, k < items.size → h.IsTuple (Ts k) (vals k)) where
  sub := fun b hb => by simp at hb; simp [hb]
  frame := fun _ _ _ st hk => ⟨st.1.at fun o e => hk I (by simp) o e, st.2.1.at fun o e => hk ax (by simp) o e,
    fun k hk' => (st.2.2 k hk').at fun o e => hk (Ts k) (List.mem_cons_of_mem _ (List.mem_cons_of_mem _ (List.mem_map.mpr ⟨k, List.mem_range.mpr hk', rfl⟩))) o e⟩
  item := fun i s Q E hi st hQ => by
    refine wpAny_pyNext_tuple_item st.1 st.2.1 (x := .ref (Ts i)) (hit i hi) fun h' hit' hs' => ?_
    have tup : ∀ k, k < items.size → h'.IsTuple (Ts k) (vals k) := fun k hk' => (st.2.2 k hk').extBut hs'.extBut (hTI k hk')
    exact hQ (Ts i) (vals i) h' s.toks rfl (tup i hi) ⟨⟨hi, rfl⟩, hit', st.2.1.extBut hs'.extBut hne, tup⟩ fun b o hb e => hs'.extBut b o (fun h => hb (by simp [h])) e
  go := fun _ _ _ _ _ s Q _ hm hQ => letGo_tupiter hm.2.1 (hQ s.heap hm.2 fun _ _ _ e => e)
  apart := fun j T _ hm hmem => by
    rcases List.mem_cons.mp hmem with e | e
    · exact hTI j hm.1.1 (hm.1.2 ▸ e)
    · cases e
  done := fun s Q E st hQ => wpAny_pyNext_tuple_end hh st.1 st.2.1 (by simp) fun h' he' => hQ h' s.toks fun b o hb e => he' b o (fun h => hb (by simp [h])) e
  self := fun _ _ _ _ st hQ => wpAny_pyIter_tupleiter st.1 hQ
/-- the scope of the expression: two names -/
structure GenS2 (env : Env) (scope : Scope) (xa xb : Str) : Prop where
  kind : scope.kind = .function
  co : scope.isCoroutine = false
  cell : ∀ y ∈ scope.names, y.2 ≠ .cell
  dot : scope.names.lookup (".0" : Str) = some NameKind.local
  la : scope.names.lookup xa = some .local
  lb : scope.names.lookup xb = some .local
  ne : xa ≠ xb
  free : ∀ y ∈ scope.names, y.2 = .free → ∃ c, env.cells.lookup y.1 = some c
/-- each a pair, its second part -/
def Prs (K : PySem.W.Frag) (H : Hp) (ps : List Addr) (bs : List V) : Prop := ps.length = bs.length ∧ ∀ (i : Nat) (p : Addr), ps[i]? = some p → ∃ a b, bs[i]? = some b ∧ SqT K H p [a, b]
theorem vals_of {bs : List V} {us : List Value} (hl : bs.length = us.length) (h : ∀ (i : Nat) b u, bs[i]? = some b → us[i]? = some u → RelV b u) : Vals bs us := by
  induction bs generalizing us with
  | nil =>
    cases us with
    | nil => exact .nil
    | cons u r => cases hl
  | cons b r ih =>
    cases us with
    | nil => cases hl
    | cons u q => exact .cons (h 0 b u rfl rfl) (ih (by simpa using hl) fun i b' u' e1 e2 => h (i + 1) b' u' (by simpa using e1) (by simpa using e2))
section
variable {X : Cx} {pins : List (Addr × Obj)} {σ : L2.St} {H : Hp} {s : Shared}
def ReadyP (X : Cx) (pins : List (Addr × Obj)) (σ : L2.St) (H1 : Hp) (P : Addr) (bs : List V) (g : Addr) (s5 : Shared) : Prop :=
  ∃ (fp wr : List Addr) (G : Array GenState → Array GenState → Prop) (F : Nat → Value → Prop) (St : Nat → Shared → Prop),
    WalksS X.prog X.w X.A.in1.in1.in1 g fp wr G bs.length F St ∧ St 0 s5 ∧ (∀ b ∈ fp, b < s5.heap.objs.size) ∧ g ∈ fp ∧ (∀ i s9, St i s9 → s9.TypeIs (.ref g) "generator") ∧
    (∀ j v, F j v → ∃ b, bs[j]? = some b ∧ RelV b v) ∧
    ∀ s', Moved wr G s5 s' → ∃ H2, GxR.Tabbed P H1 H2 ∧ Inv X pins σ H2 s'
theorem gen_prs {c P : Addr} {iter : Expr} {xa xb : Str} {pa pb pt pe gpos : Pos} {kt : Nat} {scope : Scope} {te : TE} {k : Nat} {Q' : Value → Shared → Prop} {R : List V → Hp → Prop}
    (hr : Room k X.A) (TB : GxR.TabB X.base X.mg c P) (hcode : X.env.code = .ref c) (S : GenS2 X.env scope xa xb) (hi : PE X iter te) (hdb : (xb == ("__debug__" : Str)) = false)
    (hs : ∀ v, genFold iter X.env v = pure v) (I : Inv X pins σ H s) (h : te σ H fun v H1 => ∃ (yl : Addr) (ps : List Addr) (bs : List V), v = .ref yl ∧ SqT X.K H1 yl (ps.map V.ref) ∧ Prs X.K H1 ps bs ∧ GxR.TabG H1 P ∧ R bs H1)
    (hQ : ∀ bs H1 g s5, R bs H1 → ReadyP X pins σ H1 P bs g s5 → Q' (.ref g) s5) :
    wpAny (model X.prog X.w) X.A (eval (.GeneratorExp (.Name xb pe) [⟨.Tuple [.Name xa pa, .Name xb pb] kt pt, iter, [], 0⟩] scope gpos) X.env) Q' X.xe s := by
  refine wpAny_GeneratorExp_walksQT hr.hd S.co (closure_ok S.free) S.cell S.dot S.la S.lb S.ne S.kind (by have := hr.dp; omega) ?_ hs
  refine thn (hi.run pins s σ H _ I h) fun xv s1 ⟨v, H1, I1, r1, q1⟩ => ?_
  obtain ⟨yl, ps, bs, rfl, hyl, ⟨hpl, hpr⟩, ⟨pts, hP, ht⟩, q1⟩ := q1
  obtain rfl : xv = Value.ref yl := r1
  obtain ⟨its, rv, hIT, hz⟩ := I1.tuple hyl
  have hlen : its.length = bs.length := by rw [← rv.length, List.length_map, hpl]
  -- the items
  have hx : ∀ i : Nat, ∃ z : Addr × Value × Value, i < its.length → its[i]? = some (.ref z.1) ∧ s1.heap.IsTuple z.1 #[z.2.1, z.2.2] ∧ ∃ b, bs[i]? = some b ∧ RelV b z.2.2 := fun i => by
    by_cases hi2 : i < its.length
    · obtain ⟨p, hp⟩ : ∃ p, ps[i]? = some p := ⟨ps[i]'(by omega), List.getElem?_eq_getElem _⟩
      have hb : (ps.map V.ref)[i]? = some (V.ref p) := by rw [List.getElem?_map, hp] <;> rfl
      obtain ⟨u, hu, ru⟩ := rv.get hb
      cases ru
      obtain ⟨a, b, hb2, hq⟩ := hpr i p hp
      obtain ⟨us, r2, t2, _⟩ := I1.tuple hq
      obtain ⟨u1, u2, rfl, ra, rb⟩ := Vals.two r2
      exact ⟨(p, u1, u2), fun _ => ⟨hu, t2, b, hb2, rb⟩⟩
    · exact ⟨(0, .none, .none), fun z => absurd z hi2⟩
  have hx2 := fun i => Classical.choose_spec (hx i)
  generalize hf : (fun i => Classical.choose (hx i)) = f at hx2
  have hx3 : ∀ i, i < its.length → its[i]? = some (.ref (f i).1) ∧ s1.heap.IsTuple (f i).1 #[(f i).2.1, (f i).2.2] ∧ ∃ b, bs[i]? = some b ∧ RelV b (f i).2.2 := fun i hi2 => by
    have := hx2 i hi2
    rw [← hf]
    exact this
  clear hx2 hf hx
  refine wpAny_pyIter_tuple hIT ?_
  generalize ho : ({ cls := .type "tuple_iterator", data := .fields #[.ref yl, .int 0 0] } : Obj) = o
  have hitr : (s1.heap.push o).IsTupleIter s1.heap.objs.size yl 0 := by
    subst ho
    exact ⟨_, Heap.get?_push_size _ rfl, rfl, rfl⟩
  have hylt : yl < s1.heap.objs.size := by
    obtain ⟨_, e, _⟩ := _root_.id hIT
    exact Heap.lt_size e
  have hTlt : ∀ i, i < its.length → (f i).1 < s1.heap.objs.size := fun i hi2 => by
    obtain ⟨_, ⟨_, e, _⟩, _⟩ := hx3 i hi2
    exact Heap.lt_size e
  have hPs : s1.heap.get? P = some { cls := .none, data := .fields pts } := I1.hok P _ hP
  have hPlt : P < s1.heap.objs.size := Heap.lt_size hPs
  have hP2 : (s1.heap.push o).get? P = some { cls := .none, data := .fields pts } := Heap.get?_push_of_some _ hPs
  have cd : PySem.W.CodeHd (s1.heap.push o) c P := TB.code.keeps fun b u e => Heap.get?_push_of_some _ (I1.bk b u e)
  have lim2 : (s1.heap.push o).NoLimit := I1.nolimit.push o
  have cont : ∀ (code : Value) (h3 : Heap) (tk : Nat) (ps' : Array Value), Heap.ExtBut P (s1.heap.push o) h3 → (s1.heap.push o).objs.size ≤ h3.objs.size → h3.get? P = some { cls := .none, data := .fields ps' } → (∃ more, ps' = pts ++ more) → TriplesOk ps'.toList →
      wpAny (model X.prog X.w) X.A (builtinsFor X.env.globals X.env.builtins) (fun bi s₄ =>
        ∃ Ia fp wr n₀ Pt St₀ Mid pz F, Value.ref s1.heap.objs.size = .ref Ia ∧ (∀ A' : Around, A'.handled = none → WalksU X.prog X.w A' Ia fp wr n₀ Pt St₀ Mid) ∧ (∀ i vals, Pt i vals → ∃ va vb, vals = #[va, vb]) ∧ St₀ 0 s₄.heap ∧ (∀ b ∈ fp, b < s₄.heap.objs.size) ∧ s₄.heap.NoLimit ∧ cStatics ∉ wr ∧
          (∀ href : Heap, (∀ b o, s₄.heap.get? b = some o → href.get? b = some o) →
            QuietGenT X.prog X.w (genEnv scope (cloFrom X.env.cells scope.names []) s₄.heap.objs.size code bi X.env) xa xb [] (.Name xb pe) (List.range s₄.heap.objs.size) wr Pt pz F href) ∧
          (∀ a h₅ tk gs, gs.bare = true → s₄.heap.objs.size < a → h₅.objs.size = a + 1 → (∀ b o, s₄.heap.get? b = some o → h₅.get? b = some o) →
            WalksS X.prog X.w X.A.in4 a (a :: s₄.heap.objs.size :: List.range s₄.heap.objs.size) (s₄.heap.objs.size :: wr) (GenOnlyQ s₄.gens.size) (passing pz n₀ 0).length
              (fun j y => ∃ i, (passing pz n₀ 0)[j]? = some i ∧ F i y) (GenAt X.prog X.w X.A.in4 a s₄.gens.size s₄.heap.objs.size (List.range s₄.heap.objs.size) wr pz n₀ F) →
            GenAt X.prog X.w X.A.in4 a s₄.gens.size s₄.heap.objs.size (List.range s₄.heap.objs.size) wr pz n₀ F 0 { s₄ with gens := s₄.gens.push gs, toks := tk, heap := h₅ } →
            Q' (.ref a) { s₄ with gens := s₄.gens.push gs, toks := tk, heap := h₅ })) X.xe { s1 with heap := h3, toks := tk } := by
    intro code h3 tk ps' hx hsz hP3 hmore ht3
    obtain ⟨bm, ob, e1, e2, e3, e4, e5, e6, e7, e8⟩ := TB.bm
    have hcP : cStatics ≠ P := fun e => by
      obtain ⟨_, hns, _⟩ := I1.nolimit
      obtain ⟨o', es, ep, ho, hd, _⟩ := hns
      rw [e, hPs] at ho
      cases ho
      cases hd
    have hcl : cStatics < s1.heap.objs.size := let ⟨_, hns, _⟩ := I1.nolimit; hns.lt
    have sz2 : (s1.heap.push o).objs.size = s1.heap.objs.size + 1 := Heap.size_push ..
    have keep3 : ∀ b u, b ≠ P → s1.heap.get? b = some u → h3.get? b = some u := fun b u hb e => hx b u hb (Heap.get?_push_of_some _ e)
    refine wpAny_builtinsFor (m := X.mg) (by rw [I1.ok.glob]; exact ((I1.mod.glob.keeps I1.bk).push o).extBut hx TB.gP) e1 e2 (keep3 _ _ e4 (I1.bk _ _ e5)) e6 e7 e8 ?_
    have tupP : ∀ {t : Addr} {xs : Array Value}, s1.heap.IsTuple t xs → t ≠ P := fun {t xs} ht z => by
      obtain ⟨_, e, hc1, n, hd1⟩ := ht
      rw [z, hPs] at e
      cases e
      cases hd1
    have tup3 : ∀ {t : Addr} {xs : Array Value}, s1.heap.IsTuple t xs → h3.IsTuple t xs := fun {t xs} ht => ht.at fun u e => keep3 _ _ (tupP ht) e
    have hItr3 : h3.IsTupleIter s1.heap.objs.size yl 0 := hitr.at fun u e => hx _ u (Nat.ne_of_gt hPlt) e
    have hsi : its.toArray.size = its.length := List.size_toArray ..
    refine ⟨s1.heap.objs.size, s1.heap.objs.size :: yl :: (List.range its.toArray.size).map (fun i => (f i).1), [s1.heap.objs.size], its.toArray.size, (fun i v => i < its.toArray.size ∧ v = #[(f i).2.1, (f i).2.2]), _, _, (fun _ => true),
      (fun i y => ∃ b, bs[i]? = some b ∧ RelV b y), rfl, (fun A' hA => (tupOfTuples hA s1.heap.objs.size yl (Nat.ne_of_lt hylt) its.toArray (fun i => (f i).1) (fun i => #[(f i).2.1, (f i).2.2]) (fun j hj => ?_) (fun j hj => ?_)).bound), ?_, ⟨hItr3, tup3 hIT, fun k hk => tup3 (hx3 k (by omega)).2.1⟩, ?_, lim2.extBut hx hcP, ?_, ?_, ?_⟩
    · rw [List.getElem?_toArray]
      exact (hx3 j (by omega)).1
    · exact Nat.ne_of_lt (hTlt j (by omega))
    · intro i vals hv
      exact ⟨_, _, hv.2⟩
    · intro b hb
      have e9 : s1.heap.objs.size + 1 ≤ h3.objs.size := by omega
      rcases List.mem_cons.mp hb with z | z
      · rw [z]
        exact e9
      · rcases List.mem_cons.mp z with z | z
        · rw [z]
          exact Nat.lt_of_lt_of_le hylt (Nat.le_of_succ_le e9)
        · obtain ⟨i, hi2, e⟩ := List.mem_map.mp z
          have := List.mem_range.mp hi2
          rw [← e]
          exact Nat.lt_of_lt_of_le (hTlt i (by omega)) (Nat.le_of_succ_le e9)
    · intro z
      rcases List.mem_cons.mp z with z | z
      · exact Nat.ne_of_lt hcl z
      · cases z
    · intro href hhref
      refine ⟨fun A' E' i va vb s₂ m₂ hA hPv hn hma hmb hk => ?_, fun A' E' i va vb s₂ m₂ hA hPv hp hn hma hmb hk => ?_⟩
      · simp only [List.forIn_nil]
        exact wpAny_pure ⟨rfl, GxR.keeps_refl _⟩
      · obtain ⟨hi2, hv⟩ := hPv
        obtain ⟨_, _, b, hb2, rb⟩ := hx3 i (by omega)
        have ev : vb = (f i).2.2 := by
          have e0 := congrArg (fun z : Array Value => z[1]?) hv
          exact Option.some.inj e0
        refine wpAny_Name (wpAny_loadName_local S.kind S.lb hn hmb ?_) hdb
        rw [ev]
        exact ⟨⟨b, hb2, rb⟩, GxR.keeps_refl _⟩
    · intro g h5 tk5 gs hgb hag hsz5 hk5 W5 hgat
      simp only [GxR.passing_true, List.length_range] at W5
      have hn5 : its.toArray.size = bs.length := by rw [hsi, hlen]
      rw [hn5] at W5 hgat
      refine hQ bs H1 g _ q1 ⟨_, _, _, _, _, W5.in4_3, hgat, ?_, List.mem_cons_self, fun i s9 h9 => ?_, ?_, fun s' hm => ?_⟩
      · intro b hb
        show b < h5.objs.size
        have e5 : h5.objs.size = g + 1 := hsz5
        have h8 : h3.objs.size < g := hag
        rw [e5]
        rcases List.mem_cons.mp hb with z | z
        · rw [z]
          exact Nat.lt_succ_self g
        · rcases List.mem_cons.mp z with z | z
          · rw [z]
            exact Nat.lt_succ_of_lt h8
          · have z2 := List.mem_range.mp z
            have h7 : b < h3.objs.size := z2
            exact Nat.lt_succ_of_lt (Nat.lt_trans h7 h8)
      · obtain ⟨hg9, _⟩ := h9
        exact hg9.typeIs
      · intro j v hv
        obtain ⟨i, hij, b, hb2, rb⟩ := hv
        obtain ⟨hj, ej⟩ := List.getElem?_eq_some_iff.mp hij
        rw [List.getElem_range] at ej
        subst ej
        exact ⟨b, hb2, rb⟩
      · obtain ⟨more, em⟩ := hmore
        have nwr : ∀ b u, s1.heap.get? b = some u → b ∉ h3.objs.size :: [s1.heap.objs.size] := fun b u e hb => by
          have hl := Heap.lt_size e
          rcases List.mem_cons.mp hb with z | z
          · rw [z] at hl
            have h9 : (h3.objs.size : Nat) < s1.heap.objs.size := hl
            omega
          · rcases List.mem_cons.mp z with z | z
            · rw [z] at hl
              exact Nat.lt_irrefl _ hl
            · cases z
        have J := GxR.inv_tab (more := more) (h' := s'.heap) (g' := s'.gens) (d' := s'.drawn) (t' := s'.toks) I1 hP (fun b u hb e => hm.heap b u (nwr b u e) (hk5 b u (keep3 b u hb e)))
          (by rw [← em]; exact hm.heap P _ (nwr P _ hPs) (hk5 P _ hP3)) (AllBare.movedS (I1.bare.push hgb) hm)
        rw [GxR.sh_eta s1 s' hm.os] at J
        refine ⟨upd H1 P (.tbl (pts ++ more)), ⟨⟨pts ++ more, upd_same, by rw [← em]; exact ht3⟩, fun b hb => upd_ne hb⟩, J⟩
  refine ⟨lim2, ?_⟩
  cases hf : codeAmong gpos pts.toList with
  | none =>
    refine wpAny_genexprCodeX hcode (cd.code hP2 ht) (cd.tab hP2) hf fun c' h' tk hx hge hlt hco' _ htab' _ => ?_
    obtain ⟨o1, vs, f1, tf, fl, tg, inF, tx, tt, op, _, _, _, _, _, _, _, _, _, htr, _⟩ := hco'
    exact cont _ h' tk _ hx (Nat.le_trans hge (Nat.le_of_lt hlt)) htab'.2 ⟨_, rfl⟩ htr
  | some cv =>
    refine wpAny_genexprCode_hit hcode (cd.code hP2 ht) hf ?_
    exact cont cv (s1.heap.push o) s1.toks pts (Heap.ExtBut.refl _ _) (Nat.le_refl _) hP2 ⟨#[], by simp⟩ ht
def tTupG (K : PySem.W.Frag) (P : Addr) (te : TE) : TE := fun σ H Q => te σ H fun v H1 => ∃ (yl : Addr) (ps : List Addr) (bs : List V), v = .ref yl ∧ SqT K H1 yl (ps.map V.ref) ∧ Prs K H1 ps bs ∧ GxR.TabG H1 P ∧ bs.length ≤ sizeLine ∧
  ∀ H2 q, GxR.Tabbed P H1 H2 → H2 q = none → Q (.ref q) (upd H2 q (.tup bs))
theorem pe_tupG {c P : Addr} {iter : Expr} {xa xb : Str} {p pa pb pt pe pos gpos : Pos} {kt : Nat} {scope : Scope} {te : TE} {k : Nat}
    (hr : Room k X.A) (hg : Gl X "tuple") (hm : X.mg "tuple" = none) (hv : bootBuiltins "tuple" = some (.type "tuple")) (TB : GxR.TabB X.base X.mg c P) (hcode : X.env.code = .ref c) (S : GenS2 X.env scope xa xb) (hi : PE X iter te)
    (hs : ∀ v, genFold iter X.env v = pure v) (hdb : (xb == ("__debug__" : Str)) = false := by decide)
    (he : starEach [.GeneratorExp (.Name xb pe) [⟨.Tuple [.Name xa pa, .Name xb pb] kt pt, iter, [], 0⟩] scope gpos] X.env = (false, eval (.GeneratorExp (.Name xb pe) [⟨.Tuple [.Name xa pa, .Name xb pb] kt pt, iter, [], 0⟩] scope gpos) X.env) :: starEach [] X.env := by rfl) :
    PE X (.Call (.Name "tuple" p) [.GeneratorExp (.Name xb pe) [⟨.Tuple [.Name xa pa, .Name xb pb] kt pt, iter, [], 0⟩] scope gpos] [] pos) (tTupG X.K P te) := by
  refine ⟨fun pins s σ H Q I h => ?_⟩
  refine wpAny_Call_Name_kw (ld_blt I hg hm hv ?_)
  refine PyProof.Rows.callWith_type1 ?_ he (by rfl)
  rw [he]
  show wpAny _ _ (spliced ((false, eval (.GeneratorExp (.Name xb pe) [⟨.Tuple [.Name xa pa, .Name xb pb] kt pt, iter, [], 0⟩] scope gpos) X.env) :: backTo pos (starEach [] X.env))) _ _ s
  refine Calls.spliced_cons (gen_prs (R := fun bs H1 => bs.length ≤ sizeLine ∧ ∀ H2 q, GxR.Tabbed P H1 H2 → H2 q = none → Q (.ref q) (upd H2 q (.tup bs))) hr TB hcode S hi hdb hs I h fun bs H1 g s5 hR hG => ?_)
  refine Calls.spliced_nil ?_
  obtain ⟨fp, wr, G, F, St, W, hst, hfp, hgm, hT, hval, hinv⟩ := hG
  obtain ⟨hz, hR⟩ := hR
  refine call_tuple_gen (hsz := hz) W hT hst hfp hgm fun s' acc hm hacc => ?_
  obtain ⟨H2, ht, J⟩ := hinv s' hm
  have hva : Vals bs acc.toList := vals_of (hacc.1.symm.trans (Array.length_toList (xs := acc)).symm) fun i b u e1 e2 => by
    obtain ⟨b', e3, r⟩ := hval i u (hacc.2 i u (by rw [← Array.getElem?_toList]; exact e2))
    rw [e1] at e3
    cases e3
    exact r
  have J2 : Inv X pins σ (upd H2 s'.heap.objs.size (.tup bs)) { s' with heap := s'.heap.push { cls := .type "tuple", data := .seq acc } } :=
    J.laid (t' := s'.toks) (fun b o e => Heap.get?_push_of_some _ e) (Nat.le_refl _) (show ObjOk X.prog X.w _ _ _ (.tup bs) from ⟨hz, acc.toList, hva, by simpa using IsTup.new s'.heap acc⟩)
  exact ⟨.ref s'.heap.objs.size, _, J2, rfl, hR _ _ ht (J.hok.fresh (Nat.le_refl _))⟩
end
end GT
namespace Mt
open PySem PySem.Spec PyProof.Rows L2
def topS (i : Nat) : Stmt := PySem.Challenge.pw_meantrace_k12_moves_counted.main.body.getD i (.Pass ⟨0, 0, 0, 0⟩)
abbrev s_bodies_of : Stmt := topS 2
abbrev N_bodies_of : List Str := ["statement", "word", "_", "body"]
theorem sc_bodies_of : FnScope N_bodies_of ["statement"] (defScope s_bodies_of) := ⟨rfl, rfl, rfl, by decide +kernel, rfl, by decide +kernel, by decide +kernel⟩
abbrev s_moves_of : Stmt := topS 5
abbrev N_moves_of : List Str := ["body", "statement"]
theorem sc_moves_of : FnScope N_moves_of ["body"] (defScope s_moves_of) := ⟨rfl, rfl, rfl, by decide +kernel, rfl, by decide +kernel, by decide +kernel⟩
abbrev s_moves_in : Stmt := topS 6
abbrev N_moves_in : List Str := ["statement", "word", "own", "inside", "body"]
theorem sc_moves_in : FnScope N_moves_in ["statement"] (defScope s_moves_in) := ⟨rfl, rfl, rfl, by decide +kernel, rfl, by decide +kernel, by decide +kernel⟩
abbrev s__law_begin : Stmt := topS 8
abbrev N__law_begin : List Str := ["script", "cell"]
theorem sc__law_begin : FnScope N__law_begin ["script"] (defScope s__law_begin) := ⟨rfl, rfl, rfl, by decide +kernel, rfl, by decide +kernel, by decide +kernel⟩
abbrev s__law_draw : Stmt := topS 9
abbrev N__law_draw : List Str := ["d", "many", "found", "size", "cell"]
theorem sc__law_draw : FnScope N__law_draw ["d", "many"] (defScope s__law_draw) := ⟨rfl, rfl, rfl, by decide +kernel, rfl, by decide +kernel, by decide +kernel⟩
abbrev s__law_pick : Stmt := topS 10
abbrev N__law_pick : List Str := ["d", "row"]
theorem sc__law_pick : FnScope N__law_pick ["d", "row"] (defScope s__law_pick) := ⟨rfl, rfl, rfl, by decide +kernel, rfl, by decide +kernel, by decide +kernel⟩
abbrev s__law_pop : Stmt := topS 11
abbrev N__law_pop : List Str := ["d", "row"]
theorem sc__law_pop : FnScope N__law_pop ["d", "row"] (defScope s__law_pop) := ⟨rfl, rfl, rfl, by decide +kernel, rfl, by decide +kernel, by decide +kernel⟩
abbrev s__law_rare : Stmt := topS 12
abbrev N__law_rare : List Str := ["d", "many"]
theorem sc__law_rare : FnScope N__law_rare ["d", "many"] (defScope s__law_rare) := ⟨rfl, rfl, rfl, by decide +kernel, rfl, by decide +kernel, by decide +kernel⟩
abbrev s__law_shuffled : Stmt := topS 13
abbrev N__law_shuffled : List Str := ["d", "row", "left", "found", "k"]
theorem sc__law_shuffled : FnScope N__law_shuffled ["d", "row"] (defScope s__law_shuffled) := ⟨rfl, rfl, rfl, by decide +kernel, rfl, by decide +kernel, by decide +kernel⟩
abbrev s__law_pool : Stmt := topS 14
abbrev N__law_pool : List Str := ["text"]
theorem sc__law_pool : FnScope N__law_pool [] (defScope s__law_pool) := ⟨rfl, rfl, rfl, by decide +kernel, rfl, by decide +kernel, by decide +kernel⟩
abbrev s__law_is_int : Stmt := topS 15
abbrev N__law_is_int : List Str := ["thing"]
theorem sc__law_is_int : FnScope N__law_is_int ["thing"] (defScope s__law_is_int) := ⟨rfl, rfl, rfl, by decide +kernel, rfl, by decide +kernel, by decide +kernel⟩
abbrev s__law_bodies : Stmt := topS 16
abbrev N__law_bodies : List Str := ["statement", "arm", "part"]
theorem sc__law_bodies : FnScope N__law_bodies ["statement"] (defScope s__law_bodies) := ⟨rfl, rfl, rfl, by decide +kernel, rfl, by decide +kernel, by decide +kernel⟩
abbrev s__law_world : Stmt := topS 17
abbrev N__law_world : List Str := ["d", "budget", "names", "world", "kind", "k"]
theorem sc__law_world : FnScope N__law_world ["d", "budget"] (defScope s__law_world) := ⟨rfl, rfl, rfl, by decide +kernel, rfl, by decide +kernel, by decide +kernel⟩
abbrev s__law_leaf : Stmt := topS 18
abbrev N__law_leaf : List Str := ["d", "world", "word", "names", "parts", "name"]
theorem sc__law_leaf : FnScope N__law_leaf ["d", "world", "word"] (defScope s__law_leaf) := ⟨rfl, rfl, rfl, by decide +kernel, rfl, by decide +kernel, by decide +kernel⟩
abbrev s__law_form : Stmt := topS 19
abbrev N__law_form : List Str := ["d", "world", "word", "bodies", "gauge", "kind", "name", "digits", "rows", "k", "digit"]
theorem sc__law_form : FnScope N__law_form ["d", "world", "word", "bodies"] (defScope s__law_form) := ⟨rfl, rfl, rfl, by decide +kernel, rfl, by decide +kernel, by decide +kernel⟩
abbrev s__law_wishes : Stmt := topS 20
abbrev N__law_wishes : List Str := ["d", "word", "want", "many", "k", "at"]
theorem sc__law_wishes : FnScope N__law_wishes ["d", "word", "want", "many"] (defScope s__law_wishes) := ⟨rfl, rfl, rfl, by decide +kernel, rfl, by decide +kernel, by decide +kernel⟩
abbrev s__law_wished : Stmt := topS 21
abbrev N__law_wished : List Str := ["d", "world", "want", "depth", "word", "many", "bodies", "wish"]
theorem sc__law_wished : FnScope N__law_wished ["d", "world", "want", "depth"] (defScope s__law_wished) := ⟨rfl, rfl, rfl, by decide +kernel, rfl, by decide +kernel, by decide +kernel⟩
abbrev s__law_willed : Stmt := topS 22
abbrev N__law_willed : List Str := ["d", "world", "want", "depth", "rows", "k"]
theorem sc__law_willed : FnScope N__law_willed ["d", "world", "want", "depth"] (defScope s__law_willed) := ⟨rfl, rfl, rfl, by decide +kernel, rfl, by decide +kernel, by decide +kernel⟩
abbrev s__law_loops : Stmt := topS 23
abbrev N__law_loops : List Str := ["d", "world", "body", "k", "rows", "j"]
theorem sc__law_loops : FnScope N__law_loops ["d", "world"] (defScope s__law_loops) := ⟨rfl, rfl, rfl, by decide +kernel, rfl, by decide +kernel, by decide +kernel⟩
abbrev s__law_count : Stmt := topS 24
abbrev N__law_count : List Str := ["body", "waiting", "one", "found", "step", "statement", "turns", "inner"]
theorem sc__law_count : FnScope N__law_count ["body"] (defScope s__law_count) := ⟨rfl, rfl, rfl, by decide +kernel, rfl, by decide +kernel, by decide +kernel⟩
abbrev s_law : Stmt := topS 25
abbrev N_law : List Str := ["script", "d", "bodies", "budget", "world", "rows", "body", "one", "told"]
theorem sc_law : FnScope N_law ["script"] (defScope s_law) := ⟨rfl, rfl, rfl, by decide +kernel, rfl, by decide +kernel, by decide +kernel⟩
/-- the code object of bodies_of and its table -/
abbrev BC (K : PySem.W.Frag) : Addr := (He.cT K ("bodies_of", none)).1
abbrev BP (K : PySem.W.Frag) : Addr := (He.cT K ("bodies_of", none)).2
def FBV : List (Str × Int) := [("process", 3), ("use", 4), ("if", 4), ("loop", 2), ("guard", 1)]
def LEAF : List Str := (["hold", "stop", "end", "mark", "add", "drop", "put", "take", "load", "unload", "interrupt"] : List String).map Str.ofString
structure Txt (w : World) (K : PySem.W.Frag) (mg : Str → Option Value) : Prop where
  b_int : mg "int" = none
  b_abs : mg "abs" = none
  b_len : mg "len" = none
  b_isinstance : mg "isinstance" = none
  b_bool : mg "bool" = none
  b_tuple : mg "tuple" = none
  b_list : mg "list" = none
  b_range : mg "range" = none
  b_all : mg "all" = none
  b_any : mg "any" = none
  b_sum : mg "sum" = none
  mt : ∃ a : Addr, mg "MOVES_OF_TWO" = some (.ref a) ∧ ∀ H : Hp, SqT K H a [V.str "hold", .str "use", .str "guard"]
  fb : ∃ (d : Addr) (es : Array DictEntry) (n : Nat), mg "FIRST_BODY" = some (.ref d) ∧ KDict K w d es n ∧ (∀ q ∈ FBV, ∃ u, PySem.W.nsIn K d q.1 = some (some u) ∧ RelV (.int q.2) u) ∧ ∀ z ∈ LEAF, PySem.W.nsIn K d z = some none
theorem upd_upd {H : Hp} {p : Addr} {a b : HO} : upd (upd H p a) p b = upd H p b := by
  funext x
  unfold upd
  split <;> rfl
theorem take_map_succ {α β : Type} {f : α → β} {l : List α} {i : Nat} {c : α} (h : l[i]? = some c) : (l.take i).map f ++ [f c] = (l.take (i + 1)).map f := by
  rw [List.take_add_one, h, List.map_append]
  rfl
theorem divW_of {n : Int} (h : 0 < n) (h2 : n < 2 ^ 64) : CDivW 0 n := wide_div h (b := 64) (by omega) (by decide) (by decide)
theorem getV {ns : List Int} {i : Nat} {x : V} (h : (ns.map V.int)[i]? = some x) : ∃ z, x = .int z ∧ ns[i]? = some z := by
  rw [List.getElem?_map] at h
  cases e : ns[i]? with
  | none =>
    rw [e] at h
    cases h
  | some z =>
    rw [e] at h
    exact ⟨z, (Option.some.inj h).symm, rfl⟩
def spBegin (K : PySem.W.Frag) : Sp := fun vs H Q _ => ∃ (a : Addr) (ns : List Int), vs = [.ref a] ∧ SqL K H a (ns.map V.int) ∧ ns.length ≤ 63 ∧ ∀ S D H', Same H H' → H D = none → DrawAt S D H' → Q (.ref D) H'
/-- a text or a list, what it holds -/
def Row (K : PySem.W.Frag) (H : Hp) (v : V) (xs : List V) : Prop := (∃ z : Str, v = .str z ∧ xs = z.cps.toList.map fun c => .str ⟨#[c]⟩) ∨ ∃ p, v = .ref p ∧ SqL K H p xs
def spPick (K : PySem.W.Frag) : Sp := fun vs H Q _ => ∃ (S D : Addr) (r : V) (xs : List V), vs = [.ref D, r] ∧ DrawAt S D H ∧ (∀ H', Go S D H H' → Row K H' r xs) ∧ 0 < xs.length ∧ xs.length ≤ 100000 ∧ ∀ H' x, x ∈ xs → Go S D H H' → Q x H'

theorem same_new {H : Hp} {p : Addr} {o : HO} (h : H p = none) : Same H (upd H p o) := fun b x e => by
  rw [upd_ne (ne_of_none e h)]
  exact e
/-- a change at a place that H does not know -/
theorem same_mut {H H' : Hp} {p : Addr} {o : HO} (s : Same H H') (h : H p = none) : Same H (upd H' p o) := fun b u e => by
  rw [upd_ne (ne_of_none e h)]
  exact s b u e
theorem iteNT {A B : Prop} (h : B) : if (!true) = true then A else B := iteF h
theorem line5 {n : Nat} (h : n ≤ 100000) : n ≤ sizeLine := Nat.le_trans h (by decide)
theorem line6 {n : Nat} (h : n < 100000) : n < sizeLine := Nat.lt_of_lt_of_le h (by decide)
/-! ### data as it stands in the heap -/
def KeepT (H H' : Hp) : Prop := ∀ p xs, Rd H p (.tup xs) → Rd H' p (.tup xs)
theorem KeepT.of_same {H H' : Hp} (s : Same H H') : KeepT H H' := fun p xs h => by
  rcases h with h | ⟨o, h⟩
  · exact .inl (s _ _ h)
  · exact .inr ⟨o, s _ _ h⟩
theorem KeepT.trans {H H1 H2 : Hp} (a : KeepT H H1) (b : KeepT H1 H2) : KeepT H H2 := fun p xs h => b p xs (a p xs h)
mutual
def noL : PyData → Bool
  | .list _ => false
  | .dict _ => false
  | .tuple ds => noLs ds
  | _ => true
def noLs : List PyData → Bool
  | [] => true
  | d :: ds => noL d && noLs ds
end
theorem sqt_keep {K : PySem.W.Frag} {H H' : Hp} {a : Addr} {xs : List V} (k : KeepT H H') (h : SqT K H a xs) : SqT K H' a xs := by
  rcases h with h | h
  · exact .inl (k _ _ h)
  · exact .inr h
mutual
theorem dp_keep {K : PySem.W.Frag} {H H' : Hp} (k : KeepT H H') : ∀ (d : PyData) (v : V), noL d = true → Dp K H v d → Dp K H' v d
  | .none, _, _, h => by
    cases h
    exact .non
  | .bool b, _, _, h => by
    cases h
    exact .bl b
  | .int i, _, _, h => by
    cases h
    exact .int i
  | .str x, _, _, h => by
    cases h
    exact .str x
  | .list ds, _, n, _ => by
    have n2 : false = true := n
    cases n2
  | .dict ds, _, n, _ => by
    have n2 : false = true := n
    cases n2
  | .tuple ds, _, n, h => by
    cases h with
    | tup h1 h2 => exact .tup (sqt_keep k h1) (dpA_keep k ds _ n h2)
theorem dpA_keep {K : PySem.W.Frag} {H H' : Hp} (k : KeepT H H') : ∀ (ds : List PyData) (xs : List V), noLs ds = true → DpAll K H xs ds → DpAll K H' xs ds
  | [], _, _, h => by
    cases h
    exact .nil
  | d :: ds, _, n, h => by
    cases h with
    | cons h1 h2 =>
      have n2 : (noL d && noLs ds) = true := n
      rw [Bool.and_eq_true] at n2
      exact .cons (dp_keep k d _ n2.1 h1) (dpA_keep k ds _ n2.2 h2)
end
theorem dp_tup {K : PySem.W.Frag} {H : Hp} {v : V} {ds : List PyData} (h : Dp K H v (.tuple ds)) : ∃ a xs, v = .ref a ∧ SqT K H a xs ∧ DpAll K H xs ds := by
  cases h with
  | tup h1 h2 => exact ⟨_, _, rfl, h1, h2⟩
theorem dp_str {K : PySem.W.Frag} {H : Hp} {v : V} {z : Str} (h : Dp K H v (.str z)) : v = .str z := by
  cases h
  rfl
theorem dp_int {K : PySem.W.Frag} {H : Hp} {v : V} {z : Int} (h : Dp K H v (.int z)) : v = .int z := by
  cases h
  rfl
theorem dp_non {K : PySem.W.Frag} {H : Hp} {v : V} (h : Dp K H v .none) : v = .non := by
  cases h
  rfl
theorem dpA_nil {K : PySem.W.Frag} {H : Hp} {xs : List V} (h : DpAll K H xs []) : xs = [] := by
  cases h
  rfl
theorem dpA_cons {K : PySem.W.Frag} {H : Hp} {xs : List V} {d : PyData} {ds : List PyData} (h : DpAll K H xs (d :: ds)) : ∃ x r, xs = x :: r ∧ Dp K H x d ∧ DpAll K H r ds := by
  cases h with
  | cons h1 h2 => exact ⟨_, _, rfl, h1, h2⟩
theorem dpA_len {K : PySem.W.Frag} {H : Hp} : ∀ {ds : List PyData} {xs : List V}, DpAll K H xs ds → xs.length = ds.length
  | [], _, h => by rw [dpA_nil h]; rfl
  | d :: ds, _, h => by
    obtain ⟨x, r, rfl, _, h2⟩ := dpA_cons h
    rw [List.length_cons, List.length_cons, dpA_len h2]
theorem dpA_at {K : PySem.W.Frag} {H : Hp} : ∀ {ds : List PyData} {xs : List V} {i : Nat} {x : V}, DpAll K H xs ds → xs[i]? = some x → ∃ d, ds[i]? = some d ∧ Dp K H x d
  | [], _, i, x, h, e => by
    rw [dpA_nil h] at e
    simp at e
  | d :: ds, _, 0, x, h, e => by
    obtain ⟨y, r, rfl, h1, h2⟩ := dpA_cons h
    have e2 : y = x := Option.some.inj e
    subst e2
    exact ⟨d, rfl, h1⟩
  | d :: ds, _, i + 1, x, h, e => by
    obtain ⟨y, r, rfl, h1, h2⟩ := dpA_cons h
    obtain ⟨d', h3, h4⟩ := dpA_at (i := i) (x := x) h2 (by simpa using e)
    exact ⟨d', by simpa using h3, h4⟩
/-! ### the table of bodies_of may grow -/
def TS (P : Addr) (H H' : Hp) : Prop := GxR.TabG H' P ∧ ∀ b o, b ≠ P → H b = some o → H' b = some o
section
variable {P p : Addr} {H H1 H2 H' : Hp} {o : HO} {K : PySem.W.Frag}
theorem TS.refl (t : GxR.TabG H P) : TS P H H := ⟨t, fun _ _ _ h => h⟩
theorem TS.trans (a : TS P H H1) (b : TS P H1 H2) : TS P H H2 := ⟨b.1, fun x o n h => b.2 x o n (a.2 x o n h)⟩
theorem TS.of_same (t : GxR.TabG H P) (s : Same H H') : TS P H H' := ⟨let ⟨ps, h, r⟩ := t; ⟨ps, s _ _ h, r⟩, fun b o _ h => s b o h⟩
theorem tab_ne (t : GxR.TabG H P) (h : H p = none) : p ≠ P := fun e => by
  obtain ⟨ps, h1, _⟩ := t
  rw [e, h1] at h
  cases h
theorem TS.new (t : GxR.TabG H P) (h : H p = none) : TS P H (upd H p o) := TS.of_same t (same_new h)
theorem TS.of_tab (t : GxR.Tabbed P H H') : TS P H H' := ⟨t.1, fun b o n h => (t.2 b n).trans h⟩
/-- a change at a place that H does not know -/
theorem TS.mut (t : TS P H H') (h : H p = none) (n : p ≠ P) : TS P H (upd H' p o) := ⟨let ⟨ps, h1, r⟩ := t.1; ⟨ps, by rw [upd_ne n.symm]; exact h1, r⟩, fun b u m e => by
  rw [upd_ne (ne_of_none e h)]
  exact t.2 b u m e⟩
theorem TS.keepT (t : GxR.TabG H P) (a : TS P H H') : KeepT H H' := fun p xs r => by
  have n : p ≠ P := fun e => by
    obtain ⟨ps, h1, _⟩ := t
    rcases r with r | ⟨o, r⟩
    · rw [e, h1] at r
      cases r
    · rw [e, h1] at r
      cases r
  rcases r with r | ⟨o, r⟩
  · exact .inl (a.2 _ _ n r)
  · exact .inr ⟨o, a.2 _ _ n r⟩
/-- a place that is free behind was free ahead -/
theorem TS.back (t : GxR.TabG H P) (a : TS P H H') (h : H' p = none) : H p = none := by
  cases q : H p with
  | none => rfl
  | some u =>
    rw [a.2 p u (tab_ne a.1 h) q] at h
    cases h
end
/-! ### trees -/
abbrev LD : Type := { d : PyData // noL d = true }
inductive S1 (B : Type) where
  | leaf (w : Str) (as : List LD)
  | draw (nm : Str) (arms : List (List Int × B))
  | use (nm : Str) (r : Int) (pt : Option Int) (b o : B)
  | iff (g nm : Str) (n : Int) (b o : B)
  | loop (n : Int) (b : B)
  | guard (b h : B)
def Bd : Nat → Type
  | 0 => Empty
  | n + 1 => List (S1 (Bd n))
def dArm {B : Type} (db : B → PyData) (a : List Int × B) : PyData := .tuple [.tuple (a.1.map PyData.int), db a.2]
def dOpt : Option Int → PyData
  | none => .none
  | some x => .int x
def dS {B : Type} (db : B → PyData) : S1 B → PyData
  | .leaf w as => .tuple (.str w :: as.map Subtype.val)
  | .draw nm arms => .tuple [.str "draw", .str nm, .tuple (arms.map (dArm db))]
  | .use nm r pt b o => .tuple [.str "use", .str nm, .int r, dOpt pt, db b, db o]
  | .iff g nm n b o => .tuple [.str "if", .str g, .str nm, .int n, db b, db o]
  | .loop n b => .tuple [.str "loop", .int n, db b]
  | .guard b h => .tuple [.str "guard", db b, db h]
def dB : (n : Nat) → Bd n → PyData
  | 0, e => nomatch e
  | n + 1, ss => .tuple (List.map (dS (dB n)) ss)
def bodS {B : Type} : S1 B → List B
  | .leaf _ _ => []
  | .draw _ arms => arms.map (·.2)
  | .use _ _ _ b o => [b, o]
  | .iff _ _ _ b o => [b, o]
  | .loop _ b => [b]
  | .guard b h => [b, h]
/-- how many statements -/
def cS {B : Type} (cb : B → Nat) (s : S1 B) : Nat := 1 + ((bodS s).map cb).sum
def cB : (n : Nat) → Bd n → Nat
  | 0, e => nomatch e
  | n + 1, ss => (List.map (cS (cB n)) ss).sum
def okS {B : Type} (ob : B → Prop) : S1 B → Prop
  | .leaf w as => w ∈ LEAF ∧ as.length ≤ 2
  | .draw _ arms => arms.length ≤ 6 ∧ ∀ a ∈ arms, ob a.2
  | .use _ _ _ b o => ob b ∧ ob o
  | .iff _ _ _ b o => ob b ∧ ob o
  | .loop n b => (1 ≤ n ∧ n ≤ 9) ∧ ob b
  | .guard b h => ob b ∧ ob h
def okB : (n : Nat) → Bd n → Prop
  | 0, e => nomatch e
  | n + 1, ss => List.length (show List (S1 (Bd n)) from ss) ≤ 1000 ∧ ∀ s ∈ (show List (S1 (Bd n)) from ss), okS (okB n) s
theorem okS_bod {B : Type} {ob : B → Prop} {s : S1 B} (h : okS ob s) : ∀ b ∈ bodS s, ob b := by
  cases s with
  | leaf w as => exact fun b hb => absurd hb List.not_mem_nil
  | draw nm arms =>
    intro b hb
    obtain ⟨a, ha, rfl⟩ := List.mem_map.mp hb
    exact h.2 a ha
  | use nm r pt b o =>
    intro x hx
    simp only [bodS, List.mem_cons, List.not_mem_nil, or_false] at hx
    rcases hx with e | e <;> subst e
    · exact h.1
    · exact h.2
  | iff g nm n b o =>
    intro x hx
    simp only [bodS, List.mem_cons, List.not_mem_nil, or_false] at hx
    rcases hx with e | e <;> subst e
    · exact h.1
    · exact h.2
  | loop n b =>
    intro x hx
    simp only [bodS, List.mem_cons, List.not_mem_nil, or_false] at hx
    subst hx
    exact h.2
  | guard b o =>
    intro x hx
    simp only [bodS, List.mem_cons, List.not_mem_nil, or_false] at hx
    rcases hx with e | e <;> subst e
    · exact h.1
    · exact h.2
theorem noLs_map {α : Type} (f : α → PyData) : ∀ l : List α, (∀ x ∈ l, noL (f x) = true) → noLs (l.map f) = true
  | [], _ => rfl
  | x :: r, h => by
    show (noL (f x) && noLs (r.map f)) = true
    rw [h x List.mem_cons_self, noLs_map f r fun y hy => h y (List.mem_cons_of_mem _ hy)]
    rfl
theorem dS_noL {B : Type} {db : B → PyData} (hb : ∀ b, noL (db b) = true) : ∀ s : S1 B, noL (dS db s) = true
  | .leaf w as => noLs_map Subtype.val as fun a _ => a.2
  | .draw nm arms => by
    show (true && (true && (noLs (arms.map (dArm db)) && true))) = true
    rw [noLs_map (dArm db) arms fun a _ => by
      show (noLs (a.1.map PyData.int) && (noL (db a.2) && true)) = true
      rw [noLs_map PyData.int a.1 fun _ _ => rfl, hb a.2]
      rfl]
    rfl
  | .use nm r pt b o => by
    show (true && (true && (true && (noL (dOpt pt) && (noL (db b) && (noL (db o) && true)))))) = true
    rw [hb b, hb o]
    cases pt <;> rfl
  | .iff g nm n b o => by
    show (true && (true && (true && (true && (noL (db b) && (noL (db o) && true)))))) = true
    rw [hb b, hb o]
    rfl
  | .loop n b => by
    show (true && (true && (noL (db b) && true))) = true
    rw [hb b]
    rfl
  | .guard b o => by
    show (true && (noL (db b) && (noL (db o) && true))) = true
    rw [hb b, hb o]
    rfl
theorem dB_noL : ∀ (n : Nat) (b : Bd n), noL (dB n b) = true
  | 0, e => nomatch e
  | n + 1, ss => noLs_map (dS (dB n)) ss fun s _ => dS_noL (dB_noL n) s
/-! ### whether a body rests -/
def RESTW : List Str := (["hold", "stop", "end"] : List String).map Str.ofString
def restS {B : Type} (rb : B → Bool) : S1 B → Bool
  | .leaf w _ => decide (w ∈ RESTW)
  | .draw _ arms => (arms.map fun a => rb a.2).all id
  | .use _ _ _ b _ => rb b
  | .iff _ _ _ b o => rb b && rb o
  | .loop _ b => rb b
  | .guard b o => rb b && rb o
def restB : (n : Nat) → Bd n → Bool
  | 0, e => nomatch e
  | n + 1, ss => (List.map (restS (restB n)) ss).any id
theorem keepT_new {H : Hp} {L : Addr} {o : HO} (h : H L = none) : KeepT H (upd H L o) := KeepT.of_same (same_new h)
def bodScope : Scope := match defBody s_bodies_of with
  | [_, .If _ [.Return (some (.Call _ [.GeneratorExp _ _ sc _] _ _)) _] _ _, _, _] => sc
  | _ => defScope s_bodies_of
theorem bod_gs {env : Env} : GT.GenS2 env bodScope "_" "body" := by
  refine ⟨by rfl, by rfl, by decide +kernel, by rfl, by rfl, by rfl, by decide, fun y hy h => ?_⟩
  have : (bodScope.names.all fun y => decide (y.2 ≠ .free)) = true := by decide +kernel
  exact absurd h (of_decide_eq_true (List.all_eq_true.mp this y hy))
theorem leaf_all : LEAF.all (fun w => ((["draw", "use", "if", "loop", "guard"] : List String).map Str.ofString).all fun z => !decide (V.str w = V.str z)) = true := by decide +kernel
theorem leaf_no (w : Str) (h : w ∈ LEAF) (z : Str) (hz : z ∈ (["draw", "use", "if", "loop", "guard"] : List String).map Str.ofString) : V.str w ≠ V.str z := fun e => by
  have h1 := List.all_eq_true.mp (List.all_eq_true.mp leaf_all w h) z hz
  rw [e] at h1
  simp at h1
/-! ### the promises -/
def spBodies (K : PySem.W.Frag) (n : Nat) : Sp := fun vs H Q _ => ∃ (v : V) (s : S1 (Bd n)), vs = [v] ∧ Dp K H v (dS (dB n) s) ∧ okS (okB n) s ∧ GxR.TabG H (BP K) ∧
  ∀ (H' : Hp) (q : Addr) (xs : List V), TS (BP K) H H' → SqT K H' q xs → DpAll K H' xs ((bodS s).map (dB n)) → Q (.ref q) H'
def spPauses (K : PySem.W.Frag) (n : Nat) : Sp := fun vs H Q _ => ∃ (v : V) (b : Bd n), vs = [v] ∧ Dp K H v (dB n b) ∧ okB n b ∧ GxR.TabG H (BP K) ∧ ∀ H', TS (BP K) H H' → Q (.bl (restB n b)) H'
def spPauseS (K : PySem.W.Frag) (n : Nat) : Sp := fun vs H Q _ => ∃ (v : V) (s : S1 (Bd n)), vs = [v] ∧ Dp K H v (dS (dB n) s) ∧ okS (okB n) s ∧ GxR.TabG H (BP K) ∧ ∀ H', TS (BP K) H H' → Q (.bl (restS (restB n) s)) H'
def spLB (K : PySem.W.Frag) (n : Nat) : Sp := fun vs H Q _ => ∃ (v : V) (s : S1 (Bd n)), vs = [v] ∧ Dp K H v (dS (dB n) s) ∧ okS (okB n) s ∧
  ∀ (H' : Hp) (q : Addr) (xs : List V), Same H H' → H' q = some (.lst xs) → DpAll K H' xs ((bodS s).map (dB n)) → Q (.ref q) H'
def spHas (K : PySem.W.Frag) (n : Nat) : Sp := fun vs H Q _ => ∃ (v : V) (b : Bd n), vs = [v] ∧ Dp K H v (dB n b) ∧ okB n b ∧ ∀ H', Same H H' → Q (.bl (restB n b)) H'
def spRests (K : PySem.W.Frag) (n : Nat) : Sp := fun vs H Q _ => ∃ (v : V) (s : S1 (Bd n)), vs = [v] ∧ Dp K H v (dS (dB n) s) ∧ okS (okB n) s ∧ ∀ H', Same H H' → Q (.bl (restS (restB n) s)) H'
/-- arms as they stand: pairs -/
theorem arms_prs {K : PySem.W.Frag} {H : Hp} {B : Type} {db : B → PyData} : ∀ {arms : List (List Int × B)} {xs : List V}, DpAll K H xs (arms.map (dArm db)) → ∃ (ps : List Addr) (bs : List V), xs = ps.map V.ref ∧ GT.Prs K H ps bs ∧ DpAll K H bs ((arms.map (·.2)).map db)
  | [], xs, h => by
    rw [dpA_nil h]
    exact ⟨[], [], rfl, ⟨rfl, fun i p e => by simp at e⟩, .nil⟩
  | a :: r, xs, h => by
    obtain ⟨x, t, rfl, h1, h2⟩ := dpA_cons h
    obtain ⟨ps, bs, rfl, ⟨hl, hp⟩, hd⟩ := arms_prs h2
    obtain ⟨p, ys, rfl, hT, hA⟩ := dp_tup h1
    obtain ⟨y0, r0, rfl, hy0, hA⟩ := dpA_cons hA
    obtain ⟨y1, r1, rfl, hy1, hA⟩ := dpA_cons hA
    cases dpA_nil hA
    refine ⟨p :: ps, y1 :: bs, rfl, ⟨by simp [hl], fun i q e => ?_⟩, .cons hy1 hd⟩
    cases i with
    | zero =>
      have e2 : p = q := Option.some.inj e
      subst e2
      exact ⟨y0, y1, rfl, hT⟩
    | succ i =>
      obtain ⟨a', b', h3, h4⟩ := hp i q (by simpa using e)
      exact ⟨a', b', by simpa using h3, h4⟩
theorem noLs_dBs {n : Nat} (bs : List (Bd n)) : noLs (bs.map (dB n)) = true := noLs_map _ _ fun b _ => dB_noL n b
section
variable {P : Program} {w : World} {K : PySem.W.Frag} {mg : Str → Option Value} {base : Heap}
/-- the rule for a def whose code object is looked at -/
theorem okC {x qual : Str} {params : Arguments} {body : List Stmt} {scope : Scope} {dvs : List V} {kws : List (Str × V)} {fd : FuncData} {CX : CXT} {N ps : List Str} {k : Nat} {sp : Sp} {p : He.Defn} (F : FunD K x qual params body scope dvs kws (He.fAd K p) fd) (S : FnScope N ps scope) (len : ∀ vs H Q E, sp vs H Q E → vs.length = ps.length)
    (hbody : ∀ (cdv : Value) (A : Around) (outer : List Env) (s : Shared) (H : Hp) (vs : List V) (Q : VK) (E : XK), cdv = .ref (He.codeOf K p) → Room k (A.deeper (envOfC qual scope s.heap.objs.size (He.fAd K p) cdv)) → sp vs H Q E →
      ∃ t, PSs (cxOf CX P w K mg base N qual scope (He.fAd K p) cdv A outer s H E) body t ∧ t { nx := fun _ H' => Q .non H', rt := Q } (start N vs) H) : FnOk P w K mg base CX (k + 1) (He.fAd K p) fd ps sp := by
  obtain ⟨oc, od, dV, kV, doc, pm, an, cdv, ct, osl, rfl, lk, hcd, _, _⟩ := F.ex
  obtain ⟨c, hc⟩ := He.codeIn_ref hcd
  have e := He.codeOf_eq lk (show _ = Value.ref c from hc)
  exact fn_of lk hcd S len fun A outer s H vs Q E hr hsp => hbody cdv A outer s H vs Q E (by rw [hc, e]) hr hsp
theorem kept_ofC {h : Heap} (X : K.In h) (G : h.Ns mainGlobals mg) {x : Str} {ps : List Str} {st : Stmt} {k : Nat} {sp : Sp}
    (hd : ∃ fd, FnP K x st (He.ga K x) fd) (hg : (He.Fa.glo x).ok K = true)
    (hb : ∀ (kV doc pm : Value) (an : Option Addr) (cdv ct : Value) (us : List Value), us.length = ps.length → bindArgs (PySem.W.fnOf x x (defArgs st) (defBody st) (defScope st) .none kV doc pm an cdv ct) ⟨us, []⟩ = pure (ps.zip us))
    (ok : ∀ fd, FnP K x st (He.fAd K (x, none)) fd → FnOk P w K mg base CX0 k (He.fAd K (x, none)) fd ps sp) : Kept P w K mg base k x ps sp := by
  obtain ⟨fd, F⟩ := hd
  exact ⟨_, fd, ok fd F, He.glo_ok X G hg, F.kp, F.bindsN hb⟩
theorem ok_bodies {n : Nat} (T : Txt w K mg) (TB : GxR.TabB base mg (BC K) (BP K)) {fd : FuncData} (F : FnP K "bodies_of" s_bodies_of (He.fAd K ("bodies_of", none)) fd) : FnOk P w K mg base CX0 1 (He.fAd K ("bodies_of", none)) fd ["statement"] (spBodies K n) := by
  refine okC F sc_bodies_of (fun vs H Q E h => ?_) (fun cdv A outer s H vs Q E hc hr h => ?_)
  · obtain ⟨v, b, rfl, _⟩ := h
    rfl
  · obtain ⟨v, s, rfl, hd, ok, ht, q⟩ := h
    obtain ⟨da, es, nn, hmg, DK, hval, hno⟩ := T.fb
    have noD := dS_noL (dB_noL n) s
    refine ⟨_, PSs.nox (pss_cons (ps_set (i := 1) sc_bodies_of.nd rfl (Or.inl rfl) (pe_ix ix_tup (pv 0) pe_int (fun _ _ => rfl)))
      (pss_cons (ps_if (pt_cmpR op_eq (pv 1) pe_str (nomark _)) (pss_one (ps_ret (GT.pe_tupG hr rfl T.b_tuple (by decide +kernel) TB hc bod_gs (pe_ix ix_tup (pv 0) pe_int (fun _ _ => rfl)) (fun _ => rfl)))) pss_nil)
      (pss_cons (ps_if (pt_cmpR (op_in_kd DK) (pv 1) (pe_glob (v := .ref _) rfl hmg rfl) (by rfl)) (pss_one (ps_ret (pe_slice sl_tup (pv 0) (po_some (pe_ix ix_kdict (pe_glob (v := .ref _) rfl hmg rfl) (pv 1) (fun _ _ => rfl))) po_none))) pss_nil)
      (pss_one (ps_ret (pe_tup pa_nil)))))), ?_⟩
    cases s with
    | leaf wd as =>
      obtain ⟨a, xs, rfl, hT, hA⟩ := dp_tup hd
      obtain ⟨x0, r0, rfl, h0, hA⟩ := dpA_cons hA
      cases dp_str h0
      refine ⟨_, rfl, a, _, _, _, rfl, rfl, hT, atI_nat (j := 0) rfl, ?_⟩
      refine ⟨_, rfl, rfl, _, rfl, ?_⟩
      have hw : wd ∈ LEAF := ok.1
      refine ite2 (fun e => ?_) (fun _ => ?_)
      · exact absurd (of_decide_eq_true e) (leaf_no wd hw "draw" (by decide +kernel))
      · refine ⟨_, rfl, _, _, rfl, rfl, hno wd hw, ?_⟩
        refine ⟨_, rfl, ?_⟩
        exact ⟨Nat.zero_le _, fun e he => q _ e [] (TS.new ht he) (SqT.of upd_same) .nil⟩
    | draw nm arms =>
      obtain ⟨a, xs, rfl, hT, hA⟩ := dp_tup hd
      obtain ⟨x0, r0, rfl, h0, hA⟩ := dpA_cons hA
      obtain ⟨x1, r1, rfl, h1, hA⟩ := dpA_cons hA
      obtain ⟨x2, r2, rfl, h2, hA⟩ := dpA_cons hA
      cases dpA_nil hA
      cases dp_str h0
      refine ⟨_, rfl, a, _, _, _, rfl, rfl, hT, atI_nat (j := 0) rfl, ?_⟩
      refine ⟨_, rfl, rfl, _, rfl, ?_⟩
      refine ite2 (fun _ => ?_) (fun e => absurd (by decide +kernel) e)
      obtain ⟨yl, ys, rfl, hyT, hyA⟩ := dp_tup h2
      obtain ⟨ps, bs, rfl, hp, hb⟩ := arms_prs hyA
      have hbl := dpA_len hb
      rw [List.length_map, List.length_map] at hbl
      refine ⟨_, rfl, a, _, _, _, rfl, rfl, hT, atI_nat (j := 2) rfl, yl, ps, bs, rfl, hyT, hp, ht, Nat.le_trans (by rw [hbl]; exact ok.1) (by decide : 6 ≤ sizeLine), fun H2 qa htb hq => ?_⟩
      have t1 := TS.of_tab htb
      have t2 := t1.trans (TS.new (o := .tup bs) t1.1 hq)
      exact q _ qa bs t2 (SqT.of upd_same) (dpA_keep (TS.keepT ht t2) _ _ (noLs_dBs _) hb)
    | use nm r pt b o =>
      obtain ⟨a, xs, rfl, hT, hA⟩ := dp_tup hd
      obtain ⟨x0, r0, rfl, h0, hA⟩ := dpA_cons hA
      obtain ⟨x1, r1, rfl, h1, hA⟩ := dpA_cons hA
      obtain ⟨x2, r2, rfl, h2, hA⟩ := dpA_cons hA
      obtain ⟨x3, r3, rfl, h3, hA⟩ := dpA_cons hA
      obtain ⟨x4, r4, rfl, h4, hA⟩ := dpA_cons hA
      obtain ⟨x5, r5, rfl, h5, hA⟩ := dpA_cons hA
      cases dpA_nil hA
      cases dp_str h0
      refine ⟨_, rfl, a, _, _, _, rfl, rfl, hT, atI_nat (j := 0) rfl, ?_⟩
      refine ⟨_, rfl, rfl, _, rfl, ?_⟩
      refine ite2 (fun e => absurd e (by decide +kernel)) (fun _ => ?_)
      obtain ⟨u, hu, ru⟩ := hval ("use", 4) (by decide +kernel)
      refine ⟨_, rfl, _, _, rfl, rfl, hu, ?_⟩
      refine ⟨_, rfl, ?_⟩
      refine ⟨_, rfl, _, rfl, da, _, _, rfl, rfl, ⟨es, nn, u, DK.at_, DK.lit, hu, ru⟩, _, rfl, a, _, rfl, hT, fun h => absurd h.1 (by show ¬ (min 4 6 = 0); decide), fun p hp => ?_⟩
      have kk := keepT_new (o := .tup [x4, x5]) hp
      exact q _ p [x4, x5] (TS.new ht hp) (SqT.of upd_same) (.cons (dp_keep kk _ _ (dB_noL n _) h4) (.cons (dp_keep kk _ _ (dB_noL n _) h5) .nil))
    | iff g nm m b o =>
      obtain ⟨a, xs, rfl, hT, hA⟩ := dp_tup hd
      obtain ⟨x0, r0, rfl, h0, hA⟩ := dpA_cons hA
      obtain ⟨x1, r1, rfl, h1, hA⟩ := dpA_cons hA
      obtain ⟨x2, r2, rfl, h2, hA⟩ := dpA_cons hA
      obtain ⟨x3, r3, rfl, h3, hA⟩ := dpA_cons hA
      obtain ⟨x4, r4, rfl, h4, hA⟩ := dpA_cons hA
      obtain ⟨x5, r5, rfl, h5, hA⟩ := dpA_cons hA
      cases dpA_nil hA
      cases dp_str h0
      refine ⟨_, rfl, a, _, _, _, rfl, rfl, hT, atI_nat (j := 0) rfl, ?_⟩
      refine ⟨_, rfl, rfl, _, rfl, ?_⟩
      refine ite2 (fun e => absurd e (by decide +kernel)) (fun _ => ?_)
      obtain ⟨u, hu, ru⟩ := hval ("if", 4) (by decide +kernel)
      refine ⟨_, rfl, _, _, rfl, rfl, hu, ?_⟩
      refine ⟨_, rfl, ?_⟩
      refine ⟨_, rfl, _, rfl, da, _, _, rfl, rfl, ⟨es, nn, u, DK.at_, DK.lit, hu, ru⟩, _, rfl, a, _, rfl, hT, fun h => absurd h.1 (by show ¬ (min 4 6 = 0); decide), fun p hp => ?_⟩
      have kk := keepT_new (o := .tup [x4, x5]) hp
      exact q _ p [x4, x5] (TS.new ht hp) (SqT.of upd_same) (.cons (dp_keep kk _ _ (dB_noL n _) h4) (.cons (dp_keep kk _ _ (dB_noL n _) h5) .nil))
    | loop m b =>
      obtain ⟨a, xs, rfl, hT, hA⟩ := dp_tup hd
      obtain ⟨x0, r0, rfl, h0, hA⟩ := dpA_cons hA
      obtain ⟨x1, r1, rfl, h1, hA⟩ := dpA_cons hA
      obtain ⟨x2, r2, rfl, h2, hA⟩ := dpA_cons hA
      cases dpA_nil hA
      cases dp_str h0
      refine ⟨_, rfl, a, _, _, _, rfl, rfl, hT, atI_nat (j := 0) rfl, ?_⟩
      refine ⟨_, rfl, rfl, _, rfl, ?_⟩
      refine ite2 (fun e => absurd e (by decide +kernel)) (fun _ => ?_)
      obtain ⟨u, hu, ru⟩ := hval ("loop", 2) (by decide +kernel)
      refine ⟨_, rfl, _, _, rfl, rfl, hu, ?_⟩
      refine ⟨_, rfl, ?_⟩
      refine ⟨_, rfl, _, rfl, da, _, _, rfl, rfl, ⟨es, nn, u, DK.at_, DK.lit, hu, ru⟩, _, rfl, a, _, rfl, hT, fun h => absurd h.1 (by show ¬ (min 2 3 = 0); decide), fun p hp => ?_⟩
      have kk := keepT_new (o := .tup [x2]) hp
      exact q _ p [x2] (TS.new ht hp) (SqT.of upd_same) (.cons (dp_keep kk _ _ (dB_noL n _) h2) .nil)
    | guard b o =>
      obtain ⟨a, xs, rfl, hT, hA⟩ := dp_tup hd
      obtain ⟨x0, r0, rfl, h0, hA⟩ := dpA_cons hA
      obtain ⟨x1, r1, rfl, h1, hA⟩ := dpA_cons hA
      obtain ⟨x2, r2, rfl, h2, hA⟩ := dpA_cons hA
      cases dpA_nil hA
      cases dp_str h0
      refine ⟨_, rfl, a, _, _, _, rfl, rfl, hT, atI_nat (j := 0) rfl, ?_⟩
      refine ⟨_, rfl, rfl, _, rfl, ?_⟩
      refine ite2 (fun e => absurd e (by decide +kernel)) (fun _ => ?_)
      obtain ⟨u, hu, ru⟩ := hval ("guard", 1) (by decide +kernel)
      refine ⟨_, rfl, _, _, rfl, rfl, hu, ?_⟩
      refine ⟨_, rfl, ?_⟩
      refine ⟨_, rfl, _, rfl, da, _, _, rfl, rfl, ⟨es, nn, u, DK.at_, DK.lit, hu, ru⟩, _, rfl, a, _, rfl, hT, fun h => absurd h.1 (by show ¬ (min 1 3 = 0); decide), fun p hp => ?_⟩
      have kk := keepT_new (o := .tup [x1, x2]) hp
      exact q _ p [x1, x2] (TS.new ht hp) (SqT.of upd_same) (.cons (dp_keep kk _ _ (dB_noL n _) h1) (.cons (dp_keep kk _ _ (dB_noL n _) h2) .nil))
end
end Mt
namespace Mt
open PySem PySem.Spec PyProof.Rows L2
theorem ixT {X : Cx} {K : PySem.W.Frag} (h : X.K = K) : IxR X (rIxT K) := h ▸ ix_tup
theorem isiT {X : Cx} {K : PySem.W.Frag} (h : X.K = K) : CallR X (.builtin "isinstance") (rIsi K) := h ▸ call_isi
theorem leaf_in_all : LEAF.all (fun w => (inV (.str w) [V.str "hold", .str "stop", .str "end"] == decide (w ∈ RESTW)) && ((!inV (.str w) [V.str "draw", .str "if", .str "guard"]) && ((!inV (.str w) [V.str "use", .str "loop"]) && ((!inV (.str w) [V.str "use", .str "if"]) && (!inV (.str w) [V.str "loop", .str "guard"]))))) = true := by decide +kernel
theorem leaf_in {w : Str} (h : w ∈ LEAF) : inV (.str w) [V.str "hold", .str "stop", .str "end"] = decide (w ∈ RESTW) ∧ inV (.str w) [V.str "draw", .str "if", .str "guard"] = false ∧ inV (.str w) [V.str "use", .str "loop"] = false ∧ inV (.str w) [V.str "use", .str "if"] = false ∧ inV (.str w) [V.str "loop", .str "guard"] = false := by
  have h1 := List.all_eq_true.mp leaf_in_all w h
  simp only [Bool.and_eq_true, Bool.not_eq_true', beq_iff_eq] at h1
  exact h1
theorem map_at {α : Type} {f : α → PyData} {l : List α} {i : Nat} {d : PyData} (h : (l.map f)[i]? = some d) : ∃ x, l[i]? = some x ∧ f x = d := by
  rw [List.getElem?_map] at h
  cases e : l[i]? with
  | none =>
    rw [e] at h
    cases h
  | some x =>
    rw [e] at h
    exact ⟨x, rfl, Option.some.inj h⟩
theorem dpA_snoc {K : PySem.W.Frag} {H : Hp} : ∀ {ds : List PyData} {xs : List V} {x : V} {d : PyData}, DpAll K H xs ds → Dp K H x d → DpAll K H (xs ++ [x]) (ds ++ [d])
  | [], _, _, _, h, hx => by
    rw [dpA_nil h]
    exact .cons hx .nil
  | d0 :: ds, _, _, _, h, hx => by
    obtain ⟨y, r, rfl, h1, h2⟩ := dpA_cons h
    exact .cons h1 (dpA_snoc h2 hx)
theorem sqt_ty {K : PySem.W.Frag} {H : Hp} {a : Addr} {xs : List V} (h : SqT K H a xs) : TyX K H (.ref a) (.type "tuple") := by
  rcases h with (h | ⟨o, h⟩) | ⟨o, its, n, hk, hc, _⟩
  · exact .base (.tup h)
  · exact .fTuple h
  · exact .kTuple hk hc
theorem dB_tup {K : PySem.W.Frag} {H : Hp} {n : Nat} {b : Bd n} {v : V} (h : Dp K H v (dB n b)) : ∃ a xs, v = .ref a ∧ SqT K H a xs := by
  cases n with
  | zero => exact nomatch b
  | succ n =>
    obtain ⟨a, xs, rfl, hT, _⟩ := dp_tup (show Dp K H v (.tuple _) from h)
    exact ⟨a, xs, rfl, hT⟩

/-! ### moves -/
def TWO : List Str := (["hold", "use", "guard"] : List String).map Str.ofString
def ownS {B : Type} : S1 B → Int
  | .leaf w _ => if w ∈ TWO then 2 else 1
  | .use _ _ _ _ _ => 2
  | .guard _ _ => 2
  | _ => 1
def mulS {B : Type} : S1 B → Int
  | .loop n _ => n
  | _ => 1
def mS {B : Type} (mb : B → Int) (s : S1 B) : Int := ownS s + mulS s * ((bodS s).map mb).sum
def mB : (n : Nat) → Bd n → Int
  | 0, e => nomatch e
  | n + 1, ss => (List.map (mS (mB n)) ss).sum
def wordS {B : Type} : S1 B → Str
  | .leaf w _ => w
  | .draw _ _ => "draw"
  | .use _ _ _ _ _ => "use"
  | .iff _ _ _ _ _ => "if"
  | .loop _ _ => "loop"
  | .guard _ _ => "guard"
theorem wordS_d {B : Type} (db : B → PyData) (s : S1 B) : ∃ ds, dS db s = .tuple (.str (wordS s) :: ds) := by
  cases s <;> exact ⟨_, rfl⟩
theorem leaf_own_all : LEAF.all (fun w => (inV (.str w) [V.str "hold", .str "use", .str "guard"] == decide (w ∈ TWO)) && (!decide (V.str w = .str "loop"))) = true := by decide +kernel
theorem own_word {B : Type} {ob : B → Prop} {s : S1 B} (ok : okS ob s) : ownS s = if inV (.str (wordS s)) [V.str "hold", .str "use", .str "guard"] = true then 2 else 1 := by
  cases s with
  | leaf w as =>
    have h := List.all_eq_true.mp leaf_own_all w ok.1
    simp only [Bool.and_eq_true, beq_iff_eq] at h
    show (if w ∈ TWO then (2 : Int) else 1) = if inV (.str w) _ = true then 2 else 1
    rw [h.1]
    by_cases q : w ∈ TWO
    · rw [if_pos q, if_pos (decide_eq_true q)]
    · rw [if_neg q, if_neg (by rw [decide_eq_false q]; decide)]
  | draw nm arms => exact (if_neg (show ¬ inV (.str ("draw" : Str)) [V.str "hold", .str "use", .str "guard"] = true by decide +kernel)).symm
  | use nm r pt b o => exact (if_pos (show inV (.str ("use" : Str)) [V.str "hold", .str "use", .str "guard"] = true by decide +kernel)).symm
  | iff g nm n b o => exact (if_neg (show ¬ inV (.str ("if" : Str)) [V.str "hold", .str "use", .str "guard"] = true by decide +kernel)).symm
  | loop n b => exact (if_neg (show ¬ inV (.str ("loop" : Str)) [V.str "hold", .str "use", .str "guard"] = true by decide +kernel)).symm
  | guard b o => exact (if_pos (show inV (.str ("guard" : Str)) [V.str "hold", .str "use", .str "guard"] = true by decide +kernel)).symm
/-- the loops alone multiply -/
theorem mul_word {B : Type} {ob : B → Prop} {s : S1 B} (ok : okS ob s) : (∃ n b, s = .loop n b ∧ 1 ≤ n ∧ n ≤ 9) ∨ (V.str (wordS s) ≠ .str "loop" ∧ mulS s = 1) := by
  cases s with
  | leaf w as =>
    have h := List.all_eq_true.mp leaf_own_all w ok.1
    rw [Bool.and_eq_true] at h
    refine .inr ⟨fun e => ?_, rfl⟩
    have h2 := h.2
    rw [decide_eq_true (show V.str w = .str "loop" from e)] at h2
    cases h2
  | draw nm arms => exact .inr ⟨by show V.str ("draw" : Str) ≠ .str "loop"; decide +kernel, rfl⟩
  | use nm r pt b o => exact .inr ⟨by show V.str ("use" : Str) ≠ .str "loop"; decide +kernel, rfl⟩
  | iff g nm n b o => exact .inr ⟨by show V.str ("if" : Str) ≠ .str "loop"; decide +kernel, rfl⟩
  | loop n b => exact .inl ⟨n, b, rfl, ok.1⟩
  | guard b o => exact .inr ⟨by show V.str ("guard" : Str) ≠ .str "loop"; decide +kernel, rfl⟩
def spMoves (K : PySem.W.Frag) (n : Nat) : Sp := fun vs H Q _ => ∃ (v : V) (b : Bd n), vs = [v] ∧ Dp K H v (dB n b) ∧ okB n b ∧ GxR.TabG H (BP K) ∧ ∀ H', TS (BP K) H H' → Q (.int (mB n b)) H'
def spMovesX (K : PySem.W.Frag) : Sp := fun vs H Q E => ∃ n, n ≤ 8 ∧ spMoves K n vs H Q E
def spMoveS (K : PySem.W.Frag) (n : Nat) : Sp := fun vs H Q _ => ∃ (v : V) (s : S1 (Bd n)), vs = [v] ∧ Dp K H v (dS (dB n) s) ∧ okS (okB n) s ∧ GxR.TabG H (BP K) ∧ ∀ H', TS (BP K) H H' → Q (.int (mS (mB n) s)) H'
def spLBx (K : PySem.W.Frag) : Sp := fun vs H Q _ => ∃ (n : Nat) (v : V) (s : S1 (Bd n)), vs = [v] ∧ Dp K H v (dS (dB n) s) ∧ okS (okB n) s ∧
  ∀ (H' : Hp) (q : Addr) (xs : List V), Same H H' → H' q = some (.lst xs) → DpAll K H' xs ((bodS s).map (dB n)) → Q (.ref q) H'
def spIsInt : Sp := fun vs H Q _ => ∃ i : Int, vs = [.int i] ∧ Q (.bl true) H
theorem bods_len {n : Nat} {s : S1 (Bd n)} (ok : okS (okB n) s) : (bodS s).length ≤ 1000 := by
  cases s with
  | leaf wd as => exact Nat.zero_le _
  | draw nm arms => exact Nat.le_trans (by show (arms.map _).length ≤ 6; rw [List.length_map]; exact ok.1) (by decide)
  | use nm r pt b o => show 2 ≤ 1000; decide
  | iff g nm m b o => show 2 ≤ 1000; decide
  | loop m b => show 1 ≤ 1000; decide
  | guard b o => show 2 ≤ 1000; decide
theorem int_list {H : Hp} {L : Addr} {K : PySem.W.Frag} {α : Type} {l : List α} {f : α → Int} (h : H L = some (.lst (l.map fun s => V.int (f s)))) : SqL K H L ((l.map f).map V.int) := SqL.of (by rw [h, List.map_map]; rfl)
section
variable {P : Program} {w : World} {K : PySem.W.Frag} {mg : Str → Option Value} {base : Heap}
theorem ok__law_is_int (T : Txt w K mg) {f : Addr} {fd : FuncData} (F : FnP K "_law_is_int" s__law_is_int f fd) : FnOk P w K mg base CX0 1 f fd ["thing"] spIsInt := by
  refine F.ok sc__law_is_int (fun vs H Q E h => ?_) (fun cdv A outer s H vs Q E hr h => ?_)
  · obtain ⟨p, rfl, _⟩ := h
    rfl
  · obtain ⟨i, rfl, q⟩ := h
    refine ⟨_, PSs.nox (pss_one (ps_ret (pe_and (pe_callB call_isi (by rfl) T.b_isinstance (by decide +kernel) (pa_cons (pv 0) (pa_cons (pe_bltn (v := .ty "int") (u := .type "int") (by rfl) T.b_int (by decide +kernel) rfl) pa_nil))) (pe_one (pe_not (pe_callB call_isi (by rfl) T.b_isinstance (by decide +kernel) (pa_cons (pv 0) (pa_cons (pe_bltn (v := .ty "bool") (u := .type "bool") (by rfl) T.b_bool (by decide +kernel) rfl) pa_nil)))))))), ?_⟩
    refine ⟨_, rfl, _, .ty "int", .type "int", .type "int", true, rfl, .ty _, .base (.int _), kit_ty (by decide +kernel), true, rfl, ?_⟩
    exact ⟨_, rfl, _, .ty "bool", .type "int", .type "bool", false, rfl, .ty _, .base (.int _), kit_ty (by decide +kernel), false, rfl, q⟩
theorem ok_moves0 {f : Addr} {fd : FuncData} (F : FnP K "moves_of" s_moves_of f fd) : FnOk P w K mg base CX0 2 f fd ["body"] (spMoves K 0) := by
  refine F.ok sc_moves_of (fun vs H Q E h => ?_) (fun cdv A outer s H vs Q E hr h => ?_)
  · obtain ⟨v, b, _⟩ := h
    exact nomatch b
  · obtain ⟨v, b, _⟩ := h
    exact nomatch b
theorem ok_moves {n : Nat} (T : Txt w K mg) (D_moves_in : Kept P w K mg base (2 * n + 3) "moves_in" ["statement"] (spMoveS K n)) {f : Addr} {fd : FuncData} (F : FnP K "moves_of" s_moves_of f fd) :
    FnOk P w K mg base CX0 (2 * n + 4) f fd ["body"] (spMoves K (n + 1)) := by
  refine F.ok sc_moves_of (fun vs H Q E h => ?_) (fun cdv A outer s H vs Q E hr h => ?_)
  · obtain ⟨v, b, rfl, _⟩ := h
    rfl
  · obtain ⟨v, b, rfl, hd, ⟨okl, ok⟩, ht, q⟩ : ∃ (v : V) (b : List (S1 (Bd n))), vs = [v] ∧ Dp K H v (.tuple (b.map (dS (dB n)))) ∧ (b.length ≤ 1000 ∧ ∀ s ∈ b, okS (okB n) s) ∧ GxR.TabG H (BP K) ∧ ∀ H', TS (BP K) H H' → Q (.int ((b.map (mS (mB n))).sum)) H' := h
    refine ⟨_, PSs.nox (pss_one (ps_ret (pe_callB (cr_sum rfl) (by rfl) T.b_sum (by decide +kernel) (pa_cons (pe_lc (own := [("statement", 1)]) (g := (gName 1)) (tt := tYes) rfl sc_moves_of.nd (pi_tup (pv 0)) (blkOk_by (N := N_moves_of) (sc := defScope s_moves_of) (by decide +kernel)) (fun _ _ _ _ _ => (pg_name (i := 1) sc_moves_of.nd rfl (Or.inl rfl))) (fun _ _ _ _ _ => pts_nil) (fun _ _ _ _ _ => (pe_d D_moves_in (hr.mono (by omega)) (by rfl) (pa_cons (pv 1) pa_nil)))) pa_nil)))), ?_⟩
    obtain ⟨a, xs, rfl, hT, hA⟩ := dp_tup hd
    have xl := dpA_len hA
    rw [List.length_map] at xl
    refine ⟨_, rfl, a, rfl, ⟨_, hT⟩, fun L hL => lc_tup (K := K) (a := a) (xs := xs) (fun i H' => TS (BP K) H H' ∧ H' L = some (.lst ((b.take i).map fun s => V.int (mS (mB n) s)))) ⟨TS.new ht hL, upd_same⟩ (fun i H' _ e => sqt_keep (TS.keepT ht e.1) hT) ?_ ?_⟩
    · rintro i x H1 hi ⟨t1, hL1⟩
      obtain ⟨d, hd1, hd2⟩ := dpA_at hA hi
      obtain ⟨s, hs, rfl⟩ := map_at hd1
      have hm := List.mem_of_getElem? hs
      have nL := tab_ne ht hL
      refine ⟨rfl, _, rfl, x, s, rfl, dp_keep (TS.keepT ht t1) _ _ (dS_noL (dB_noL n) s) hd2, ok s hm, t1.1, fun H2 t2 => ?_⟩
      refine ⟨_, t2.2 _ _ nL hL1, ?_, TS.mut (t1.trans t2) hL nL, ?_⟩
      · rw [List.length_map, List.length_take]
        exact Nat.lt_of_le_of_lt (Nat.min_le_right _ _) (small1000 okl)
      · rw [upd_same, take_map_succ (f := fun s => V.int (mS (mB n) s)) hs]
    · rintro H1 ⟨t1, hL1⟩
      rw [List.take_of_length_le (by omega)] at hL1
      exact ⟨L, b.map (mS (mB n)), rfl, SqL.of (by rw [hL1, List.map_map]; rfl), q _ t1⟩
theorem ok_min {n : Nat} (T : Txt w K mg) (D_bodies_of : Kept P w K mg base 1 "bodies_of" ["statement"] (spBodies K n)) (D_moves_of : Kept P w K mg base (2 * n + 2) "moves_of" ["body"] (spMoves K n)) {f : Addr} {fd : FuncData} (F : FnP K "moves_in" s_moves_in f fd) :
    FnOk P w K mg base CX0 (2 * n + 3) f fd ["statement"] (spMoveS K n) := by
  refine F.ok sc_moves_in (fun vs H Q E h => ?_) (fun cdv A outer s H vs Q E hr h => ?_)
  · obtain ⟨v, b, rfl, _⟩ := h
    rfl
  · obtain ⟨v, s, rfl, hd, ok, ht, q⟩ := h
    obtain ⟨ma, hmt, hMT⟩ := T.mt
    refine ⟨_, PSs.nox (pss_cons (ps_set (i := 1) sc_moves_in.nd rfl (Or.inl rfl) (pe_ix ix_tup (pv 0) pe_int (fun _ _ => rfl)))
      (Evl.pss_cut (ps_set (i := 2) sc_moves_in.nd rfl (Or.inl rfl) (pe_ifExp (pt_cmpR op_in_seq (pv 1) (pe_glob (v := .ref _) rfl hmt rfl) (by rfl)) pe_int pe_int))
      (pss_cons (ps_set (i := 3) sc_moves_in.nd rfl (Or.inl rfl) (pe_callB (cr_sum rfl) (by rfl) T.b_sum (by decide +kernel) (pa_cons (pe_lc (own := [("body", 4)]) (g := (gName 4)) (tt := tYes) rfl sc_moves_in.nd (pi_tup (pe_d D_bodies_of (hr.mono (by omega)) (by rfl) (pa_cons (pv 0) pa_nil))) (blkOk_by (N := N_moves_in) (sc := defScope s_moves_in) (by decide +kernel)) (fun _ _ _ _ _ => (pg_name (i := 4) sc_moves_in.nd rfl (Or.inl rfl))) (fun _ _ _ _ _ => pts_nil) (fun _ _ _ _ _ => (pe_d D_moves_of (hr.mono (by omega)) (by rfl) (pa_cons (pv 4) pa_nil)))) pa_nil)))
      (pss_cons (ps_if (pt_cmpR op_eq (pv 1) pe_str (nomark _)) (pss_one (ps_ret (pe_op op_add (pv 2) (pe_op op_mul (pe_ix ix_tup (pv 0) pe_int (fun _ _ => rfl)) (pv 3))))) pss_nil)
      (pss_one (ps_ret (pe_op op_add (pv 2) (pv 3)))))))), ?_⟩
    have noD := dS_noL (dB_noL n) s
    obtain ⟨ds, ew⟩ := wordS_d (dB n) s
    obtain ⟨a, xs, rfl, hT, hA⟩ := dp_tup (show Dp K H v (.tuple _) from by rw [← ew]; exact hd)
    obtain ⟨x0, r0, rfl, h0, hA⟩ := dpA_cons hA
    cases dp_str h0
    refine ⟨_, rfl, a, _, _, _, rfl, rfl, hT, atI_nat (j := 0) rfl, ?_⟩
    refine ⟨fun σ' H' => σ' = [some (.ref a), some (.str (wordS s)), some (.int (ownS s)), none, none] ∧ H' = H, ?_, ?_⟩
    · rw [own_word ok]
      refine ⟨_, rfl, ma, _, rfl, .inr (hMT H), rfl, by rfl, _, rfl, ?_⟩
      refine ite2 (fun e => ?_) (fun e => ?_)
      · exact ⟨by rw [if_pos (show inV (.str (wordS s)) [V.str "hold", .str "use", .str "guard"] = true from e)]; rfl, rfl⟩
      · exact ⟨by rw [if_neg (show ¬ inV (.str (wordS s)) [V.str "hold", .str "use", .str "guard"] = true from e)]; rfl, rfl⟩
    · rintro σ' H' ⟨rfl, rfl⟩
      refine ⟨_, rfl, _, s, rfl, hd, ok, ht, fun H1 qa ys t1 hq hA2 => ?_⟩
      have yl := dpA_len hA2
      rw [List.length_map] at yl
      have bl := bods_len ok
      refine ⟨qa, rfl, ⟨_, hq⟩, fun L hL => lc_tup (K := K) (a := qa) (xs := ys) (fun i H2 => TS (BP K) H1 H2 ∧ H2 L = some (.lst (((bodS s).take i).map fun b => V.int (mB n b)))) ⟨TS.new t1.1 hL, upd_same⟩ (fun i H2 _ e => sqt_keep (TS.keepT t1.1 e.1) hq) ?_ ?_⟩
      · rintro i x H2 hi ⟨t4, hL1⟩
        obtain ⟨d, hd1, hd2⟩ := dpA_at hA2 hi
        obtain ⟨b, hb, rfl⟩ := map_at hd1
        have okb := okS_bod ok b (List.mem_of_getElem? hb)
        have nL := tab_ne t1.1 hL
        refine ⟨rfl, _, rfl, x, b, rfl, dp_keep (TS.keepT t1.1 t4) _ _ (dB_noL n b) hd2, okb, t4.1, fun H3 t5 => ?_⟩
        refine ⟨_, t5.2 _ _ nL hL1, ?_, TS.mut (t4.trans t5) hL nL, ?_⟩
        · rw [List.length_map, List.length_take]
          exact Nat.lt_of_le_of_lt (Nat.min_le_right _ _) (small1000 bl)
        · rw [upd_same, take_map_succ (f := fun b => V.int (mB n b)) hb]
      · rintro H2 ⟨t4, hL1⟩
        rw [List.take_of_length_le (by omega)] at hL1
        have t2 := t1.trans t4
        have q1 := q _ t2
        refine ⟨L, _, rfl, int_list hL1, ?_⟩
        refine ⟨_, rfl, rfl, _, rfl, ?_⟩
        rcases mul_word ok with ⟨m, b, rfl, m1, m9⟩ | ⟨nw, e1⟩
        · refine ite2 (fun _ => ?_) (fun e => absurd (show decide (V.str ("loop" : Str) = V.str "loop") = true by decide +kernel) e)
          obtain ⟨x1, r1, rfl, h1, _⟩ := dpA_cons (show DpAll K H' r0 (.int m :: _) from by
            have e3 : ds = [.int m, dB n b] := by
              have := ew
              injection this with e4
              injection e4 with _ e5
              exact e5.symm
            rw [← e3]
            exact (dpA_cons hA).elim fun _ h => h.elim fun _ h => by
              obtain ⟨e6, _, h7⟩ := h
              exact (List.cons.inj e6).2 ▸ h7)
          cases dp_int h1
          refine ⟨_, rfl, _, rfl, a, _, _, _, rfl, rfl, sqt_keep (TS.keepT ht t2) hT, atI_nat (j := 1) rfl, _, rfl, _, _, rfl, rfl, .inl ⟨by omega, by omega⟩, _, _, rfl, rfl, q1⟩
        · refine ite2 (fun e => absurd (of_decide_eq_true e) nw) (fun _ => ?_)
          refine ⟨_, rfl, _, rfl, _, _, rfl, rfl, ?_⟩
          have e2 : mS (mB n) s = ownS s + ((bodS s).map (mB n)).sum := by
            unfold mS
            rw [e1]
            first | done | rw [Int.one_mul]
          rw [e2] at q1
          exact q1
theorem ok_lb (T : Txt w K mg) {f : Addr} {fd : FuncData} (F : FnP K "_law_bodies" s__law_bodies f fd) :
    FnOk P w K mg base CX0 1 f fd ["statement"] (spLBx K) := by
  refine F.ok sc__law_bodies (fun vs H Q E h => ?_) (fun cdv A outer s H vs Q E hr h => ?_)
  · obtain ⟨n, v, b, rfl, _⟩ := h
    rfl
  · obtain ⟨n, v, s, rfl, hd, ok, q⟩ := h
    refine ⟨_, PSs.nox (pss_cons (ps_if (pt_cmpR op_eq (pe_ix ix_tup (pv 0) pe_int (fun _ _ => rfl)) pe_str (nomark _)) (pss_one (ps_ret (pe_lc (own := [("arm", 1)]) (g := (gName 1)) (tt := tYes) rfl sc__law_bodies.nd (pi_tup (pe_ix ix_tup (pv 0) pe_int (fun _ _ => rfl))) (blkOk_by (N := N__law_bodies) (sc := defScope s__law_bodies) (by decide +kernel)) (fun _ _ _ _ _ => (pg_name (i := 1) sc__law_bodies.nd rfl (Or.inl rfl))) (fun _ _ _ _ _ => pts_nil) (fun _ _ _ _ _ => (pe_ix (ixT (K := K) rfl) (pv 1) pe_int (fun _ _ => rfl)))))) pss_nil)
      (pss_cons (ps_if (pt_cmpR op_in_seq (pe_ix ix_tup (pv 0) pe_int (fun _ _ => rfl)) (pe_tup (pa_cons pe_str (pa_cons pe_str pa_nil))) (by rfl)) (pss_one (ps_ret (pe_lst (pa_cons (pe_ix ix_tup (pv 0) pe_int (fun _ _ => rfl)) (pa_cons (pe_ix ix_tup (pv 0) pe_int (fun _ _ => rfl)) pa_nil))))) pss_nil)
      (pss_cons (ps_if (pt_cmpR op_in_seq (pe_ix ix_tup (pv 0) pe_int (fun _ _ => rfl)) (pe_tup (pa_cons pe_str (pa_cons pe_str pa_nil))) (by rfl)) (pss_one (ps_ret (pe_lc (own := [("part", 2)]) (g := (gName 2)) rfl sc__law_bodies.nd (pi_tup (pv 0)) (blkOk_by (N := N__law_bodies) (sc := defScope s__law_bodies) (by decide +kernel)) (fun _ _ _ _ _ => (pg_name (i := 2) sc__law_bodies.nd rfl (Or.inl rfl))) (fun _ _ _ _ _ => (pts_one (pt_val (pe_callB (isiT (K := K) rfl) (by rfl) T.b_isinstance (by decide +kernel) (pa_cons (pv 2) (pa_cons (pe_bltn (v := .ty "tuple") (u := .type "tuple") (by rfl) T.b_tuple (by decide +kernel) rfl) pa_nil)))))) (fun _ _ _ _ _ => (pv 2))))) pss_nil)
      (pss_one (ps_ret (pe_lst pa_nil)))))), ?_⟩
    have noD := dS_noL (dB_noL n) s
    cases s with
    | leaf wd as =>
      obtain ⟨a, xs, rfl, hT, hA⟩ := dp_tup hd
      obtain ⟨x0, r0, rfl, h0, hA⟩ := dpA_cons hA
      cases dp_str h0
      obtain ⟨_, _, _, i4, i5⟩ := leaf_in ok.1
      refine ⟨_, rfl, a, _, _, _, rfl, rfl, hT, atI_nat (j := 0) rfl, rfl, _, rfl, ?_⟩
      refine ite2 (fun e => absurd (of_decide_eq_true e) (leaf_no wd ok.1 "draw" (by decide +kernel))) (fun _ => ?_)
      refine ⟨_, rfl, a, _, _, _, rfl, rfl, hT, atI_nat (j := 0) rfl, by show 2 ≤ sizeLine; decide, fun p0 hp0 => ⟨p0, _, rfl, .inr (SqT.of upd_same), rfl, by rfl, _, rfl, ?_⟩⟩
      have s0 := same_new (o := .tup [V.str "use", .str "if"]) hp0
      refine ite2 (fun e => absurd e (by rw [i4]; decide)) (fun _ => ?_)
      refine ⟨_, rfl, a, _, _, _, rfl, rfl, sqt_keep (KeepT.of_same s0) hT, atI_nat (j := 0) rfl, by show 2 ≤ sizeLine; decide, fun p1 hp1 => ⟨p1, _, rfl, .inr (SqT.of upd_same), rfl, by rfl, _, rfl, ?_⟩⟩
      have s1 := s0.trans (same_new (o := .tup [V.str "loop", .str "guard"]) hp1)
      refine ite2 (fun e => absurd e (by rw [i5]; decide)) (fun _ => ?_)
      exact ⟨Nat.zero_le _, fun L hL => q _ L [] (s1.trans (same_new hL)) upd_same .nil⟩
    | draw nm arms =>
      obtain ⟨a, xs, rfl, hT, hA⟩ := dp_tup hd
      obtain ⟨x0, r0, rfl, h0, hA⟩ := dpA_cons hA
      obtain ⟨x1, r1, rfl, h1, hA⟩ := dpA_cons hA
      obtain ⟨x2, r2, rfl, h2, hA⟩ := dpA_cons hA
      cases dpA_nil hA
      cases dp_str h0
      refine ⟨_, rfl, a, _, _, _, rfl, rfl, hT, atI_nat (j := 0) rfl, rfl, _, rfl, ?_⟩
      refine ite2 (fun _ => ?_) (fun e => absurd (by decide +kernel) e)
      obtain ⟨yl, ys, rfl, hyT, hyA⟩ := dp_tup h2
      have al : (arms.map (dArm (dB n))).length = ys.length := (dpA_len hyA).symm
      rw [List.length_map] at al
      have okl : arms.length ≤ 6 := ok.1
      refine ⟨_, rfl, a, _, _, _, rfl, rfl, hT, atI_nat (j := 2) rfl, yl, rfl, ⟨_, hyT⟩, fun L hL => lc_tup (K := K) (a := yl) (xs := ys) (fun i H' => Same H H' ∧ ∃ zs, H' L = some (.lst zs) ∧ DpAll K H zs (((arms.take i).map (·.2)).map (dB n))) ⟨same_new hL, [], upd_same, .nil⟩ (fun i H' _ e => sqt_keep (KeepT.of_same e.1) hyT) ?_ ?_⟩
      · rintro i x H1 hi ⟨s1, zs, hz, hzA⟩
        obtain ⟨d, hd1, hd2⟩ := dpA_at hyA hi
        obtain ⟨ar, har, rfl⟩ := map_at hd1
        obtain ⟨pa, zs2, rfl, hpT, hpA⟩ := dp_tup hd2
        obtain ⟨y0, w0, rfl, _, hpA⟩ := dpA_cons hpA
        obtain ⟨y1, w1, rfl, hy1, hpA⟩ := dpA_cons hpA
        cases dpA_nil hpA
        have zl := dpA_len hzA
        rw [List.length_map, List.length_map, List.length_take] at zl
        refine ⟨rfl, _, rfl, pa, _, _, _, rfl, rfl, sqt_keep (KeepT.of_same s1) hpT, atI_nat (j := 1) rfl, zs, hz, small1000 (by omega), same_mut s1 hL, zs ++ [y1], upd_same, ?_⟩
        have e : (arms.take (i + 1)) = arms.take i ++ [ar] := by
          rw [List.take_add_one, har]
          rfl
        rw [e, List.map_append, List.map_append]
        exact dpA_snoc hzA hy1
      · rintro H1 ⟨s1, zs, hz, hzA⟩
        rw [List.take_of_length_le (by omega)] at hzA
        exact q _ L zs s1 hz (dpA_keep (KeepT.of_same s1) _ _ (noLs_dBs _) hzA)
    | use nm r pt b o =>
      obtain ⟨a, xs, rfl, hT, hA⟩ := dp_tup hd
      obtain ⟨x0, r0, rfl, h0, hA⟩ := dpA_cons hA
      obtain ⟨x1, r1, rfl, h1, hA⟩ := dpA_cons hA
      obtain ⟨x2, r2, rfl, h2, hA⟩ := dpA_cons hA
      obtain ⟨x3, r3, rfl, h3, hA⟩ := dpA_cons hA
      obtain ⟨x4, r4, rfl, h4, hA⟩ := dpA_cons hA
      obtain ⟨x5, r5, rfl, h5, hA⟩ := dpA_cons hA
      cases dpA_nil hA
      cases dp_str h0
      refine ⟨_, rfl, a, _, _, _, rfl, rfl, hT, atI_nat (j := 0) rfl, rfl, _, rfl, ?_⟩
      refine ite2 (fun e => absurd e (by decide +kernel)) (fun _ => ?_)
      refine ⟨_, rfl, a, _, _, _, rfl, rfl, hT, atI_nat (j := 0) rfl, by show 2 ≤ sizeLine; decide, fun p0 hp0 => ⟨p0, _, rfl, .inr (SqT.of upd_same), rfl, by rfl, _, rfl, ?_⟩⟩
      have s0 := same_new (o := .tup [V.str "use", .str "if"]) hp0
      have hT0 := sqt_keep (KeepT.of_same s0) hT
      refine ite2 (fun _ => ?_) (fun e => absurd (by decide +kernel) e)
      refine ⟨_, rfl, a, _, _, _, rfl, rfl, hT0, atI_nat (j := 4) rfl, _, rfl, a, _, _, _, rfl, rfl, hT0, atI_nat (j := 5) rfl, by show 2 ≤ sizeLine; decide, fun L hL => ?_⟩
      have s1 := s0.trans (same_new (o := .lst [x4, x5]) hL)
      exact q _ L [x4, x5] s1 upd_same (.cons (dp_keep (KeepT.of_same s1) _ _ (dB_noL n _) h4) (.cons (dp_keep (KeepT.of_same s1) _ _ (dB_noL n _) h5) .nil))
    | iff g nm m b o =>
      obtain ⟨a, xs, rfl, hT, hA⟩ := dp_tup hd
      obtain ⟨x0, r0, rfl, h0, hA⟩ := dpA_cons hA
      obtain ⟨x1, r1, rfl, h1, hA⟩ := dpA_cons hA
      obtain ⟨x2, r2, rfl, h2, hA⟩ := dpA_cons hA
      obtain ⟨x3, r3, rfl, h3, hA⟩ := dpA_cons hA
      obtain ⟨x4, r4, rfl, h4, hA⟩ := dpA_cons hA
      obtain ⟨x5, r5, rfl, h5, hA⟩ := dpA_cons hA
      cases dpA_nil hA
      cases dp_str h0
      refine ⟨_, rfl, a, _, _, _, rfl, rfl, hT, atI_nat (j := 0) rfl, rfl, _, rfl, ?_⟩
      refine ite2 (fun e => absurd e (by decide +kernel)) (fun _ => ?_)
      refine ⟨_, rfl, a, _, _, _, rfl, rfl, hT, atI_nat (j := 0) rfl, by show 2 ≤ sizeLine; decide, fun p0 hp0 => ⟨p0, _, rfl, .inr (SqT.of upd_same), rfl, by rfl, _, rfl, ?_⟩⟩
      have s0 := same_new (o := .tup [V.str "use", .str "if"]) hp0
      have hT0 := sqt_keep (KeepT.of_same s0) hT
      refine ite2 (fun _ => ?_) (fun e => absurd (by decide +kernel) e)
      refine ⟨_, rfl, a, _, _, _, rfl, rfl, hT0, atI_nat (j := 4) rfl, _, rfl, a, _, _, _, rfl, rfl, hT0, atI_nat (j := 5) rfl, by show 2 ≤ sizeLine; decide, fun L hL => ?_⟩
      have s1 := s0.trans (same_new (o := .lst [x4, x5]) hL)
      exact q _ L [x4, x5] s1 upd_same (.cons (dp_keep (KeepT.of_same s1) _ _ (dB_noL n _) h4) (.cons (dp_keep (KeepT.of_same s1) _ _ (dB_noL n _) h5) .nil))
    | loop m b =>
      obtain ⟨a, xs, rfl, hT, hA⟩ := dp_tup hd
      obtain ⟨x0, r0, rfl, h0, hA⟩ := dpA_cons hA
      obtain ⟨x1, r1, rfl, h1, hA⟩ := dpA_cons hA
      obtain ⟨x2, r2, rfl, h2, hA⟩ := dpA_cons hA
      cases dpA_nil hA
      cases dp_str h0
      refine ⟨_, rfl, a, _, _, _, rfl, rfl, hT, atI_nat (j := 0) rfl, rfl, _, rfl, ?_⟩
      refine ite2 (fun e => absurd e (by decide +kernel)) (fun _ => ?_)
      refine ⟨_, rfl, a, _, _, _, rfl, rfl, hT, atI_nat (j := 0) rfl, by show 2 ≤ sizeLine; decide, fun p0 hp0 => ⟨p0, _, rfl, .inr (SqT.of upd_same), rfl, by rfl, _, rfl, ?_⟩⟩
      have s0 := same_new (o := .tup [V.str "use", .str "if"]) hp0
      have hT0 := sqt_keep (KeepT.of_same s0) hT
      refine ite2 (fun e => absurd e (by decide +kernel)) (fun _ => ?_)
      refine ⟨_, rfl, a, _, _, _, rfl, rfl, hT0, atI_nat (j := 0) rfl, by show 2 ≤ sizeLine; decide, fun p1 hp1 => ⟨p1, _, rfl, .inr (SqT.of upd_same), rfl, by rfl, _, rfl, ?_⟩⟩
      have s1 := s0.trans (same_new (o := .tup [V.str "loop", .str "guard"]) hp1)
      have hT1 := sqt_keep (KeepT.of_same s1) hT
      refine ite2 (fun _ => ?_) (fun e => absurd (by decide +kernel) e)
      generalize upd (upd H p0 (HO.tup [V.str "use", .str "if"])) p1 (HO.tup [V.str "loop", .str "guard"]) = H1 at s1 hT1
      refine ⟨_, rfl, a, rfl, ⟨_, hT1⟩, fun L hL => lc_tup (K := K) (a := a) (xs := [V.str "loop", x1, x2]) (fun i H' => H' = upd H1 L (.lst (([[], [], [], [x2]] : List (List V)).getD i []))) rfl (fun i H' _ e => by subst e; exact sqt_keep (KeepT.of_same (same_new hL)) hT1) ?_ ?_⟩
      · rintro i x H2 hi rfl
        have hi' : i < 3 := (List.getElem?_eq_some_iff.mp hi).1
        match i, hi, hi' with
        | 0, hi, _ =>
          obtain rfl := Option.some.inj hi
          exact ⟨rfl, _, rfl, _, .ty "tuple", .type "str", .type "tuple", false, rfl, .ty _, .base (.str _), kit_ty (by decide +kernel), false, rfl, rfl⟩
        | 1, hi, _ =>
          obtain rfl := Option.some.inj hi
          cases dp_int h1
          exact ⟨rfl, _, rfl, _, .ty "tuple", .type "int", .type "tuple", false, rfl, .ty _, .base (.int _), kit_ty (by decide +kernel), false, rfl, rfl⟩
        | 2, hi, _ =>
          obtain rfl := Option.some.inj hi
          obtain ⟨b2, ys, rfl, hb2⟩ := dB_tup h2
          refine ⟨rfl, _, rfl, _, .ty "tuple", .type "tuple", .type "tuple", true, rfl, .ty _, sqt_ty (sqt_keep (KeepT.of_same (s1.trans (same_new hL))) hb2), kit_ty (by decide +kernel), true, rfl, ?_⟩
          exact ⟨_, rfl, _, upd_same, by show 0 < sizeLine; decide, by rw [upd_upd]; rfl⟩
      · rintro H2 rfl
        have s2 := s1.trans (same_new (o := .lst [x2]) hL)
        exact q _ L [x2] s2 upd_same (.cons (dp_keep (KeepT.of_same s2) _ _ (dB_noL n _) h2) .nil)
    | guard b o =>
      obtain ⟨a, xs, rfl, hT, hA⟩ := dp_tup hd
      obtain ⟨x0, r0, rfl, h0, hA⟩ := dpA_cons hA
      obtain ⟨x1, r1, rfl, h1, hA⟩ := dpA_cons hA
      obtain ⟨x2, r2, rfl, h2, hA⟩ := dpA_cons hA
      cases dpA_nil hA
      cases dp_str h0
      refine ⟨_, rfl, a, _, _, _, rfl, rfl, hT, atI_nat (j := 0) rfl, rfl, _, rfl, ?_⟩
      refine ite2 (fun e => absurd e (by decide +kernel)) (fun _ => ?_)
      refine ⟨_, rfl, a, _, _, _, rfl, rfl, hT, atI_nat (j := 0) rfl, by show 2 ≤ sizeLine; decide, fun p0 hp0 => ⟨p0, _, rfl, .inr (SqT.of upd_same), rfl, by rfl, _, rfl, ?_⟩⟩
      have s0 := same_new (o := .tup [V.str "use", .str "if"]) hp0
      have hT0 := sqt_keep (KeepT.of_same s0) hT
      refine ite2 (fun e => absurd e (by decide +kernel)) (fun _ => ?_)
      refine ⟨_, rfl, a, _, _, _, rfl, rfl, hT0, atI_nat (j := 0) rfl, by show 2 ≤ sizeLine; decide, fun p1 hp1 => ⟨p1, _, rfl, .inr (SqT.of upd_same), rfl, by rfl, _, rfl, ?_⟩⟩
      have s1 := s0.trans (same_new (o := .tup [V.str "loop", .str "guard"]) hp1)
      have hT1 := sqt_keep (KeepT.of_same s1) hT
      refine ite2 (fun _ => ?_) (fun e => absurd (by decide +kernel) e)
      generalize upd (upd H p0 (HO.tup [V.str "use", .str "if"])) p1 (HO.tup [V.str "loop", .str "guard"]) = H1 at s1 hT1
      refine ⟨_, rfl, a, rfl, ⟨_, hT1⟩, fun L hL => lc_tup (K := K) (a := a) (xs := [V.str "guard", x1, x2]) (fun i H' => H' = upd H1 L (.lst (([[], [], [x1], [x1, x2]] : List (List V)).getD i []))) rfl (fun i H' _ e => by subst e; exact sqt_keep (KeepT.of_same (same_new hL)) hT1) ?_ ?_⟩
      · rintro i x H2 hi rfl
        have hi' : i < 3 := (List.getElem?_eq_some_iff.mp hi).1
        match i, hi, hi' with
        | 0, hi, _ =>
          obtain rfl := Option.some.inj hi
          exact ⟨rfl, _, rfl, _, .ty "tuple", .type "str", .type "tuple", false, rfl, .ty _, .base (.str _), kit_ty (by decide +kernel), false, rfl, rfl⟩
        | 1, hi, _ =>
          obtain rfl := Option.some.inj hi
          obtain ⟨b1, ys, rfl, hb1⟩ := dB_tup h1
          refine ⟨rfl, _, rfl, _, .ty "tuple", .type "tuple", .type "tuple", true, rfl, .ty _, sqt_ty (sqt_keep (KeepT.of_same (s1.trans (same_new hL))) hb1), kit_ty (by decide +kernel), true, rfl, ?_⟩
          exact ⟨_, rfl, _, upd_same, by show 0 < sizeLine; decide, by rw [upd_upd]; rfl⟩
        | 2, hi, _ =>
          obtain rfl := Option.some.inj hi
          obtain ⟨b2, ys, rfl, hb2⟩ := dB_tup h2
          refine ⟨rfl, _, rfl, _, .ty "tuple", .type "tuple", .type "tuple", true, rfl, .ty _, sqt_ty (sqt_keep (KeepT.of_same (s1.trans (same_new hL))) hb2), kit_ty (by decide +kernel), true, rfl, ?_⟩
          exact ⟨_, rfl, _, upd_same, by show 1 < sizeLine; decide, by rw [upd_upd]; rfl⟩
      · rintro H2 rfl
        have s2 := s1.trans (same_new (o := .lst [x1, x2]) hL)
        exact q _ L [x1, x2] s2 upd_same (.cons (dp_keep (KeepT.of_same s2) _ _ (dB_noL n _) h1) (.cons (dp_keep (KeepT.of_same s2) _ _ (dB_noL n _) h2) .nil))
end
end Mt
namespace Mt
open PySem PySem.Spec PyProof.Rows L2
structure El where
  j : Nat
  s : S1 (Bd j)
  t : Int
def dE (e : El) : PyData := .tuple [dS (dB e.j) e.s, .int e.t]
theorem dE_noL (e : El) : noL (dE e) = true := by
  show (noL (dS (dB e.j) e.s) && true) = true
  rw [dS_noL (dB_noL e.j) e.s]
  rfl
def wE (e : El) : Nat := cS (cB e.j) e.s
def vE (e : El) : Int := e.t * mS (mB e.j) e.s
theorem wE_pos (e : El) : 1 ≤ wE e := by
  show 1 ≤ 1 + _
  omega
theorem w_len : ∀ es : List El, es.length ≤ (es.map wE).sum
  | [] => Nat.le_refl _
  | e :: r => by
    have := w_len r
    have := wE_pos e
    rw [List.length_cons, List.map_cons, List.sum_cons]
    omega
def els (j : Nat) (t : Int) (ss : List (S1 (Bd j))) : List El := ss.map fun s => ⟨j, s, t⟩
theorem els_w (j : Nat) (t : Int) : ∀ ss : List (S1 (Bd j)), ((els j t ss).map wE).sum = (ss.map (cS (cB j))).sum
  | [] => rfl
  | s :: r => by
    show cS (cB j) s + ((els j t r).map wE).sum = (cS (cB j) s :: r.map (cS (cB j))).sum
    rw [List.sum_cons, els_w j t r]
theorem els_v (j : Nat) (t : Int) : ∀ ss : List (S1 (Bd j)), ((els j t ss).map vE).sum = t * (ss.map (mS (mB j))).sum
  | [] => by
    show (0 : Int) = t * 0
    rw [Int.mul_zero]
  | s :: r => by
    show t * mS (mB j) s + ((els j t r).map vE).sum = t * (mS (mB j) s :: r.map (mS (mB j))).sum
    rw [List.sum_cons, els_v j t r, Int.mul_add]
theorem noLs_of' {α : Type} {f : α → PyData} (h : ∀ a, noL (f a) = true) (l : List α) : noLs (l.map f) = true := noLs_map f l fun a _ => h a
theorem keepT_lst' {H : Hp} {L : Addr} {o : HO} {l : List V} (h : H L = some (.lst l)) : KeepT H (upd H L o) := fun p xs r => by
  have n : p ≠ L := fun e => by
    rw [e] at r
    rcases r with r | ⟨ob, r⟩
    · rw [h] at r
      cases r
    · rw [h] at r
      cases r
  rcases r with r | ⟨o, r⟩
  · exact .inl (by rw [upd_ne n]; exact r)
  · exact .inr ⟨o, by rw [upd_ne n]; exact r⟩
theorem dpA_app {K : PySem.W.Frag} {H : Hp} : ∀ {ds es : List PyData} {xs ys : List V}, DpAll K H xs ds → DpAll K H ys es → DpAll K H (xs ++ ys) (ds ++ es)
  | [], _, _, _, h, h2 => by
    rw [dpA_nil h]
    exact h2
  | d :: r, _, _, _, h, h2 => by
    obtain ⟨x, t, rfl, h3, h4⟩ := dpA_cons h
    exact .cons h3 (dpA_app h4 h2)
theorem dpA_last {K : PySem.W.Frag} {H : Hp} : ∀ {ds : List PyData} {zs : List V} {d : PyData}, DpAll K H zs (ds ++ [d]) → ∃ z, zs[zs.length - 1]? = some z ∧ Dp K H z d ∧ DpAll K H zs.dropLast ds
  | [], zs, d, h => by
    obtain ⟨x, t, rfl, h3, h4⟩ := dpA_cons h
    rw [dpA_nil h4]
    exact ⟨x, rfl, h3, .nil⟩
  | c :: r, zs, d, h => by
    obtain ⟨x, t, rfl, h3, h4⟩ := dpA_cons (show DpAll K H zs (c :: (r ++ [d])) from h)
    obtain ⟨z, h5, h6, h7⟩ := dpA_last h4
    have hl := dpA_len h4
    rw [List.length_append, List.length_singleton] at hl
    obtain ⟨y, t2, rfl⟩ : ∃ y t2, t = y :: t2 := by
      cases t with
      | nil => cases hl
      | cons y t2 => exact ⟨y, t2, rfl⟩
    refine ⟨z, ?_, h6, ?_⟩
    · rw [List.length_cons, Nat.add_sub_cancel]
      rw [List.length_cons, Nat.add_sub_cancel] at h5
      rw [List.length_cons, List.getElem?_cons_succ]
      exact h5
    · rw [List.dropLast_cons_of_ne_nil (List.cons_ne_nil _ _)]
      exact .cons h3 h7
theorem alg (t o m S : Int) : t * (o + m * S) = o * t + m * t * S := by
  rw [Int.mul_add, Int.mul_comm t o, ← Int.mul_assoc, Int.mul_comm t m]
theorem sum_take {α : Type} (f : α → Nat) (i : Nat) (l : List α) : ((l.take i).map f).sum ≤ (l.map f).sum := by
  have e : (l.map f).sum = ((l.take i).map f).sum + ((l.drop i).map f).sum := by
    rw [← List.sum_append, ← List.map_append, List.take_append_drop]
  omega
theorem same_back {H H' : Hp} {p : Addr} (s : Same H H') (h : H' p = none) : H p = none := by
  cases q : H p with
  | none => rfl
  | some u =>
    rw [s _ _ q] at h
    cases h
def spCount (K : PySem.W.Frag) : Sp := fun vs H Q _ => ∃ (n : Nat) (v : V) (b : Bd n), vs = [v] ∧ Dp K H v (dB n b) ∧ okB n b ∧ cB n b ≤ 199 ∧ ∀ H', Same H H' → Q (.int (mB n b)) H'
section
variable {P : Program} {w : World} {K : PySem.W.Frag} {mg : Str → Option Value} {base : Heap}
theorem ok_count (T : Txt w K mg) (D__law_bodies : Kept P w K mg base 1 "_law_bodies" ["statement"] (spLBx K)) {f : Addr} {fd : FuncData} (F : FnP K "_law_count" s__law_count f fd) :
    FnOk P w K mg base CX0 2 f fd ["body"] (spCount K) := by
  refine F.ok sc__law_count (fun vs H Q E h => ?_) (fun cdv A outer s H vs Q E hr h => ?_)
  · obtain ⟨n, v, b, rfl, _⟩ := h
    rfl
  · obtain ⟨n0, v, b0, rfl, hd, ok, hc, q⟩ := h
    refine ⟨_, PSs.nox (pss_cons (ps_setLc (i := 1) (own := [("one", 2)]) (g := (gName 2)) (tt := tYes) rfl sc__law_count.nd rfl rfl (sw_true rfl rfl rfl (by decide +kernel)) (pi_tup (pv 0)) (blkOk_by (N := N__law_count) (sc := defScope s__law_count) (by decide +kernel)) (fun _ _ _ _ _ => (pg_name (i := 2) sc__law_count.nd rfl (Or.inl rfl))) (fun _ _ _ _ _ => pts_nil) (fun _ _ _ _ _ => (pe_tup (pa_cons (pv 2) (pa_cons pe_int pa_nil)))))
      (pss_cons (ps_set (i := 3) sc__law_count.nd rfl (Or.inl rfl) pe_int)
      (pss_cons (ps_for PassesOwn.never rfl (pi_range1 (by rfl) T.b_range (pa_cons pe_int pa_nil)) (pg_name (i := 4) sc__law_count.nd rfl (Or.inl rfl)) (pss_cons (ps_if (pt_cmpR op_eq (pe_callB call_len (by rfl) T.b_len (by decide +kernel) (pa_cons (pv 1) pa_nil)) pe_int (nomark _)) (pss_one (ps_ret (pv 3))) pss_nil)
      (pss_cons (ps_asg (pe_bm0 PySem.F.plainAttrs_list PySem.F.slot_list_pop PySem.F.type_list_pop mt_pop (pv 1)) (pg_tup rfl (pgs_cons (pg_name (i := 5) sc__law_count.nd rfl (Or.inl rfl)) (pgs_cons (pg_name (i := 6) sc__law_count.nd rfl (Or.inr rfl)) pgs_nil))))
      (pss_cons (ps_aug (i := 3) sc__law_count.nd rfl (Or.inl rfl) (pv 6) ip_add)
      (Evl.pss_cut (ps_if (pt_cmpR op_in_seq (pe_ix ix_tup (pv 5) pe_int (fun _ _ => rfl)) (pe_tup (pa_cons pe_str (pa_cons pe_str (pa_cons pe_str pa_nil)))) (by rfl)) (pss_one (ps_aug (i := 3) sc__law_count.nd rfl (Or.inl rfl) (pv 6) ip_add)) pss_nil)
      (Evl.pss_cut (ps_if (pt_cmpR op_eq (pe_ix ix_tup (pv 5) pe_int (fun _ _ => rfl)) pe_str (nomark _)) (pss_one (ps_set (i := 6) sc__law_count.nd rfl (Or.inr rfl) (pe_op op_mul (pv 6) (pe_ix ix_tup (pv 5) pe_int (fun _ _ => rfl))))) pss_nil)
      (pss_one (ps_for PassesOwn.never rfl (pi_list (pe_d D__law_bodies (hr.mono (by decide)) (by rfl) (pa_cons (pv 5) pa_nil))) (pg_name (i := 7) sc__law_count.nd rfl (Or.inl rfl)) (pss_one (ps_set (i := 1) sc__law_count.nd rfl (Or.inl rfl) (pe_op op_cat (pv 1) (pe_lc (own := [("one", 2)]) (g := (gName 2)) (tt := tYes) rfl sc__law_count.nd (pi_tup (pv 7)) (blkOk_by (N := N__law_count) (sc := defScope s__law_count) (by decide +kernel)) (fun _ _ _ _ _ => (pg_name (i := 2) sc__law_count.nd rfl (Or.inl rfl))) (fun _ _ _ _ _ => pts_nil) (fun _ _ _ _ _ => (pe_tup (pa_cons (pv 2) (pa_cons (pv 6) pa_nil))))))))))))))))
      (pss_one (ps_ret (pe_un un_neg pe_int)))))), ?_⟩
    obtain ⟨n, rfl⟩ : ∃ n, n0 = n + 1 := by
      cases n0 with
      | zero => exact nomatch b0
      | succ n => exact ⟨n, rfl⟩
    obtain ⟨b, rfl⟩ : ∃ b : List (S1 (Bd n)), b = b0 := ⟨b0, rfl⟩
    have okl : b.length ≤ 1000 := ok.1
    have oks : ∀ s ∈ b, okS (okB n) s := ok.2
    have hcs : (b.map (cS (cB n))).sum ≤ 199 := hc
    have q1 : ∀ H', Same H H' → Q (.int ((b.map (mS (mB n))).sum)) H' := q
    obtain ⟨a, xs, rfl, hT, hA⟩ := dp_tup (show Dp K H v (.tuple (b.map (dS (dB n)))) from hd)
    have xl := dpA_len hA
    rw [List.length_map] at xl
    refine ⟨_, rfl, a, rfl, ⟨_, hT⟩, fun L0 hL0 => lc_tup (K := K) (a := a) (xs := xs) (fun i H' => Same H H' ∧ ∃ zs, H' L0 = some (.lst zs) ∧ zs.length = i ∧ DpAll K H' zs ((els n 1 (b.take i)).map dE)) ⟨same_new hL0, [], upd_same, rfl, .nil⟩ (fun i H' _ e => sqt_keep (KeepT.of_same e.1) hT) ?_ ?_⟩
    · rintro i x H1 hi ⟨s1, zs, hz, zl, hzA⟩
      obtain ⟨d, hd1, hd2⟩ := dpA_at hA hi
      obtain ⟨s, hs, rfl⟩ := map_at hd1
      have hi' := (List.getElem?_eq_some_iff.mp hi).1
      refine ⟨rfl, _, rfl, by show 2 ≤ sizeLine; decide, fun p hp => ?_⟩
      have s2 := same_new (o := .tup [x, .int 1]) hp
      refine ⟨zs, s2 _ _ hz, small1000 (by omega), same_mut (s1.trans s2) hL0, zs ++ [.ref p], upd_same, by rw [List.length_append, List.length_singleton, zl], ?_⟩
      have k2 := keepT_lst' (o := .lst (zs ++ [.ref p])) (s2 _ _ hz)
      have e : els n 1 (b.take (i + 1)) = els n 1 (b.take i) ++ [⟨n, s, 1⟩] := by
        unfold els
        rw [List.take_add_one, hs, List.map_append]
        rfl
      rw [e, List.map_append]
      exact dpA_snoc (dpA_keep ((KeepT.of_same s2).trans k2) _ _ (noLs_of' dE_noL _) hzA) (.tup (sqt_keep k2 (SqT.of upd_same)) (.cons (dp_keep ((KeepT.of_same (s1.trans s2)).trans k2) _ _ (dS_noL (dB_noL n) s) hd2) (.cons (.int 1) .nil)))
    · rintro H1 ⟨s1, zs, hz, zl, hzA⟩
      rw [List.take_of_length_le (by omega)] at hzA
      refine ⟨_, rfl, by decide, by decide, for_range (lo := 0) (n := 200) (fun i σ H' => ∃ (y4 y5 y6 y7 : Option V) (L : Addr) (zs : List V) (es : List El) (found : Int), σ = [some (.ref a), some (.ref L), none, some (.int found), y4, y5, y6, y7] ∧ Same H H' ∧ H L = none ∧ H' L = some (.lst zs) ∧ DpAll K H' zs (es.map dE) ∧ (∀ e ∈ es, okS (okB e.j) e.s) ∧ (es.map wE).sum + i = (b.map (cS (cB n))).sum ∧ found + (es.map vE).sum = (b.map (mS (mB n))).sum) ⟨_, _, _, _, L0, zs, els n 1 b, 0, rfl, s1, hL0, hz, hzA, fun e he => ?_, by rw [els_w]; rfl, by rw [els_v, Int.one_mul, Int.zero_add]⟩ ?_ ?_⟩
      · obtain ⟨s, hs, rfl⟩ := List.mem_map.mp he
        exact oks s hs
      · rintro i σ H2 hi ⟨y4, y5, y6, y7, L, zs, es, found, rfl, s2, hL, hz2, hA2, ok2, w2, v2⟩
        have zl := dpA_len hA2
        rw [List.length_map] at zl
        have wl := w_len es
        refine ⟨_, rfl, _, _, rfl, .inl ⟨_, SqL.of hz2, rfl⟩, rfl, _, rfl, ?_⟩
        refine ite2 (fun e => ?_) (fun e => ?_)
        · have e0 : es = [] := by
            have e1 := of_decide_eq_true (show decide (V.int (zs.length : Int) = V.int 0) = true from e)
            injection e1 with e3
            exact List.eq_nil_of_length_eq_zero (by omega)
          subst e0
          have e4 : found = (b.map (mS (mB n))).sum := by
            have : found + 0 = _ := v2
            omega
          rw [← e4] at q1
          exact ⟨_, rfl, q1 _ s2⟩
        · obtain ⟨es0, el, rfl⟩ : ∃ es0 el, es = es0 ++ [el] := by
            have hne : es ≠ [] := fun e0 => e (by
              rw [e0] at zl
              exact decide_eq_true (by rw [show zs.length = 0 from zl]; rfl))
            exact ⟨es.dropLast, es.getLast hne, (List.dropLast_concat_getLast hne).symm⟩
          rw [List.map_append] at hA2
          obtain ⟨z, hz3, hzd, hA3⟩ := dpA_last (show DpAll K H2 zs (es0.map dE ++ [dE el]) from hA2)
          obtain ⟨pa, ps, rfl, hpT, hpA⟩ := dp_tup hzd
          obtain ⟨x0, r0, rfl, hx0, hpA⟩ := dpA_cons hpA
          obtain ⟨x1, r1, rfl, hx1, hpA⟩ := dpA_cons hpA
          cases dpA_nil hpA
          cases dp_int hx1
          have k3 := keepT_lst' (o := .lst zs.dropLast) hz2
          refine ⟨_, rfl, .inl ⟨rfl, _, SqL.of hz2⟩, L, zs, _, rfl, rfl, hz2, hz3, pa, _, rfl, sqt_keep k3 hpT, rfl, ?_⟩
          -- the statement
          have okE : okS (okB el.j) el.s := ok2 el (List.mem_append_right _ (List.mem_singleton.mpr rfl))
          have ok3 : ∀ e ∈ es0, okS (okB e.j) e.s := fun e he => ok2 e (List.mem_append_left _ he)
          rw [List.map_append, List.sum_append] at w2
          rw [List.map_append, List.sum_append] at v2
          have w3 : (es0.map wE).sum + (cS (cB el.j) el.s + 0) + i = (b.map (cS (cB n))).sum := w2
          have v3 : found + ((es0.map vE).sum + (el.t * mS (mB el.j) el.s + 0)) = (b.map (mS (mB n))).sum := v2
          have hx3 := dp_keep k3 _ _ (dS_noL (dB_noL el.j) el.s) hx0
          have hA4 := dpA_keep k3 _ _ (noLs_of' dE_noL _) hA3
          have hz4 : (upd H2 L (.lst zs.dropLast)) L = some (.lst zs.dropLast) := upd_same
          have s4 := same_mut (o := .lst zs.dropLast) s2 hL
          generalize upd H2 L (.lst zs.dropLast) = H3 at hx3 hA4 hz4 s4
          generalize zs.dropLast = zs3 at hA4 hz4
          clear hA2 hA3 w2 v2 hz2 hz3 hzd hpT hx0 k3 e wl zl
          obtain ⟨j, st, t⟩ := el
          have hx3' : Dp K H3 x0 (dS (dB j) st) := hx3
          have okE' : okS (okB j) st := okE
          clear okE hx3
          refine ⟨_, _, rfl, _, _, rfl, rfl, _, rfl, _, rfl, _, _, rfl, rfl, ?_⟩
          obtain ⟨ds, ew⟩ := wordS_d (dB j) st
          obtain ⟨sa, sxs, rfl, hsT, hsA⟩ := dp_tup (show Dp K H3 x0 (.tuple _) from by rw [← ew]; exact hx3')
          obtain ⟨w0, wr, rfl, hw0, hsA2⟩ := dpA_cons hsA
          cases dp_str hw0
          refine ⟨fun σ' H' => σ' = [some (.ref a), some (.ref L), none, some (.int (found + ownS st * t)), some (.int (0 + (i : Int))), some (.ref sa), some (.int t), y7] ∧ Same H3 H', ?_, ?_⟩
          · refine ⟨_, rfl, sa, _, _, _, rfl, rfl, hsT, atI_nat (j := 0) rfl, by show 3 ≤ sizeLine; decide, fun p0 hp0 => ⟨p0, _, rfl, .inr (SqT.of upd_same), rfl, by rfl, _, rfl, ?_⟩⟩
            have eo := own_word okE'
            refine ite2 (fun e => ?_) (fun e => ?_)
            · rw [if_pos (show inV (.str (wordS st)) [V.str "hold", .str "use", .str "guard"] = true from e)] at eo
              refine ⟨_, rfl, _, rfl, _, _, rfl, rfl, ?_, same_new hp0⟩
              rw [eo, show found + 2 * t = found + t + t by omega]
              rfl
            · rw [if_neg (show ¬ inV (.str (wordS st)) [V.str "hold", .str "use", .str "guard"] = true from e)] at eo
              refine ⟨?_, same_new hp0⟩
              rw [eo, Int.one_mul]
              rfl
          · rintro σ' H4 ⟨rfl, s34⟩
            refine ⟨fun σ' H' => σ' = [some (.ref a), some (.ref L), none, some (.int (found + ownS st * t)), some (.int (0 + (i : Int))), some (.ref sa), some (.int (mulS st * t)), y7] ∧ H' = H4, ?_, ?_⟩
            · have hsT4 := sqt_keep (KeepT.of_same s34) hsT
              refine ⟨_, rfl, sa, _, _, _, rfl, rfl, hsT4, atI_nat (j := 0) rfl, rfl, _, rfl, ?_⟩
              rcases mul_word okE' with ⟨m, b', rfl, m1, m9⟩ | ⟨nw, e1⟩
              · refine ite2 (fun _ => ?_) (fun e => absurd (show decide (V.str ("loop" : Str) = V.str "loop") = true by decide +kernel) e)
                obtain ⟨x1, r1, rfl, h1, _⟩ := dpA_cons (show DpAll K H3 wr (.int m :: [dB j b']) from by
                  have e3 : ds = [.int m, dB j b'] := by
                    have := ew
                    injection this with e4
                    injection e4 with _ e5
                    exact e5.symm
                  rw [← e3]
                  exact hsA2)
                cases dp_int h1
                refine ⟨_, rfl, _, rfl, sa, _, _, _, rfl, rfl, hsT4, atI_nat (j := 1) rfl, _, _, rfl, rfl, .inr ⟨by omega, by omega⟩, ?_, rfl⟩
                rw [show mulS (S1.loop m b') = m from rfl, Int.mul_comm m t]
                rfl
              · refine ite2 (fun e => absurd (of_decide_eq_true e) nw) (fun _ => ?_)
                refine ⟨?_, rfl⟩
                rw [e1, Int.one_mul]
            · rintro σ' H5 ⟨rfl, rfl⟩
              have hx5 := dp_keep (KeepT.of_same s34) _ _ (dS_noL (dB_noL j) st) hx3'
              have hz5 := s34 _ _ hz4
              have hA5 := dpA_keep (KeepT.of_same s34) _ _ (noLs_of' dE_noL _) hA4
              have s5 := s4.trans s34
              refine ⟨_, rfl, j, _, st, rfl, hx5, okE', fun H6 qa ys s56 hq hyA => ?_⟩
              have yl := dpA_len hyA
              rw [List.length_map] at yl
              have blen := bods_len okE'
              have w4 : (es0.map wE).sum + (1 + ((bodS st).map (cB j)).sum) + i = (b.map (cS (cB n))).sum := w3
              have v4 : found + ((es0.map vE).sum + (t * (ownS st + mulS st * ((bodS st).map (mB j)).sum) + 0)) = (b.map (mS (mB n))).sum := v3
              clear w3 v3 ok2 hx1 hpA
              refine ⟨qa, rfl, ⟨_, SqL.of hq⟩, for_list (K := K) (a := qa) (xs := ys) (fun k σ H' => ∃ (y8 : Option V) (L' : Addr) (zs' : List V) (es' : List El), σ = [some (.ref a), some (.ref L'), none, some (.int (found + ownS st * t)), some (.int (0 + (i : Int))), some (.ref sa), some (.int (mulS st * t)), y8] ∧ Same H6 H' ∧ H L' = none ∧ H' L' = some (.lst zs') ∧ DpAll K H' zs' (es'.map dE) ∧ (∀ e ∈ es', okS (okB e.j) e.s) ∧ (es'.map wE).sum = (es0.map wE).sum + (((bodS st).take k).map (cB j)).sum ∧ (es'.map vE).sum = (es0.map vE).sum + mulS st * t * (((bodS st).take k).map (mB j)).sum) ⟨y7, L, zs3, es0, rfl, fun _ _ h => h, hL, s56 _ _ hz5, dpA_keep (KeepT.of_same s56) _ _ (noLs_of' dE_noL _) hA5, ok3, rfl, by rw [List.take_zero]; show _ = _ + mulS st * t * 0; rw [Int.mul_zero, Int.add_zero]⟩ (fun k σ H' _ ⟨_, _, _, _, _, s, _⟩ => SqL.of (s _ _ hq)) ?_ ?_⟩
              · rintro k x σ H7 hk ⟨y8, L', zs', es', rfl, s67, hL', hz7, hA7, ok7, w7, v7⟩
                obtain ⟨d, hd1, hd2⟩ := dpA_at hyA hk
                obtain ⟨bb, hbb, rfl⟩ := map_at hd1
                have okb := okS_bod okE' bb (List.mem_of_getElem? hbb)
                obtain ⟨m, rfl⟩ : ∃ m, j = m + 1 := by
                  cases j with
                  | zero => exact nomatch bb
                  | succ m => exact ⟨m, rfl⟩
                obtain ⟨bl, rfl⟩ : ∃ bl : List (S1 (Bd m)), bl = bb := ⟨bb, rfl⟩
                have okbl : bl.length ≤ 1000 := okb.1
                have okbs : ∀ s ∈ bl, okS (okB m) s := okb.2
                obtain ⟨xa, xxs, rfl, hxT, hxA⟩ := dp_tup (show Dp K H6 x (.tuple (bl.map (dS (dB m)))) from hd2)
                have xxl := dpA_len hxA
                rw [List.length_map] at xxl
                have hxT7 := sqt_keep (KeepT.of_same s67) hxT
                have zl7 := dpA_len hA7
                rw [List.length_map] at zl7
                have el7 := w_len es'
                have tk : (((bodS st).take k).map (cB (m + 1))).sum ≤ ((bodS st).map (cB (m + 1))).sum := sum_take _ _ _
                refine ⟨_, rfl, _, rfl, xa, rfl, ⟨_, hxT7⟩, fun Lc hLc => lc_tup (K := K) (a := xa) (xs := xxs) (fun u H' => Same H7 H' ∧ ∃ ws, H' Lc = some (.lst ws) ∧ ws.length = u ∧ DpAll K H' ws ((els m (mulS st * t) (bl.take u)).map dE)) ⟨same_new hLc, [], upd_same, rfl, .nil⟩ (fun u H' _ e => sqt_keep (KeepT.of_same e.1) hxT7) ?_ ?_⟩
                · rintro u xu H8 hu ⟨s8, ws, hw8, wl8, hwA⟩
                  obtain ⟨d, hd3, hd4⟩ := dpA_at hxA hu
                  obtain ⟨s', hs', rfl⟩ := map_at hd3
                  have hu' := (List.getElem?_eq_some_iff.mp hu).1
                  refine ⟨rfl, _, rfl, _, rfl, by show 2 ≤ sizeLine; decide, fun p hp => ?_⟩
                  have s9 := same_new (o := .tup [xu, .int (mulS st * t)]) hp
                  refine ⟨ws, s9 _ _ hw8, small1000 (by omega), same_mut (s8.trans s9) hLc, ws ++ [.ref p], upd_same, by rw [List.length_append, List.length_singleton, wl8], ?_⟩
                  have k2 := keepT_lst' (o := .lst (ws ++ [.ref p])) (s9 _ _ hw8)
                  have e : els m (mulS st * t) (bl.take (u + 1)) = els m (mulS st * t) (bl.take u) ++ [⟨m, s', mulS st * t⟩] := by
                    unfold els
                    rw [List.take_add_one, hs', List.map_append]
                    rfl
                  rw [e, List.map_append]
                  exact dpA_snoc (dpA_keep ((KeepT.of_same s9).trans k2) _ _ (noLs_of' dE_noL _) hwA) (.tup (sqt_keep k2 (SqT.of upd_same)) (.cons (dp_keep ((KeepT.of_same ((s67.trans s8).trans s9)).trans k2) _ _ (dS_noL (dB_noL m) s') hd4) (.cons (.int _) .nil)))
                · rintro H8 ⟨s8, ws, hw8, wl8, hwA⟩
                  rw [List.take_of_length_le (by omega)] at hwA
                  refine ⟨L', Lc, zs', ws, rfl, rfl, s8 _ _ hz7, hw8, line5 (by omega), fun q3 hq3 => ?_⟩
                  have sA := s8.trans (same_new (o := .lst (zs' ++ ws)) hq3)
                  refine ⟨_, q3, zs' ++ ws, es' ++ els m (mulS st * t) bl, rfl, s67.trans sA, same_back (((s5.trans s56).trans s67).trans s8) hq3, upd_same, ?_, fun e he => ?_, ?_, ?_⟩
                  · rw [List.map_append]
                    exact dpA_app (dpA_keep (KeepT.of_same sA) _ _ (noLs_of' dE_noL _) hA7) (dpA_keep (KeepT.of_same (same_new hq3)) _ _ (noLs_of' dE_noL _) hwA)
                  · rcases List.mem_append.mp he with h | h
                    · exact ok7 e h
                    · obtain ⟨s', hs', rfl⟩ := List.mem_map.mp h
                      exact okbs s' hs'
                  · rw [List.map_append, List.sum_append, els_w, w7, List.take_add_one, hbb, List.map_append, List.sum_append]
                    show _ + (bl.map (cS (cB m))).sum = _ + (_ + (cB (m + 1) bl + 0))
                    show _ + cB (m + 1) bl = _
                    omega
                  · rw [List.map_append, List.sum_append, els_v, v7, List.take_add_one, hbb, List.map_append, List.sum_append]
                    show _ + mulS st * t * mB (m + 1) bl = _ + mulS st * t * (_ + (mB (m + 1) bl + 0))
                    rw [Int.add_zero, Int.mul_add, Int.add_assoc]
              · rintro σ H7 ⟨y8, L', zs', es', rfl, s67, hL', hz7, hA7, ok7, w7, v7⟩
                rw [List.take_of_length_le (by omega)] at w7 v7
                refine ⟨_, _, _, _, L', zs', es', found + ownS st * t, rfl, (s5.trans s56).trans s67, hL', hz7, hA7, ok7, ?_, ?_⟩
                · rw [w7]
                  omega
                · rw [v7, ← v4, alg]
                  omega
      · rintro σ H2 ⟨y4, y5, y6, y7, L, zs, es, found, rfl, s2, hL, hz2, hA2, ok2, w2, v2⟩
        exact absurd w2 (by omega)
end
end Mt
namespace Mt
open PySem PySem.Spec PyProof.Rows L2
def NT (o : HO) : Prop := (∀ xs, o ≠ .tup xs) ∧ ∀ ob u, o ≠ .frz ob u
theorem nt_lst (l : List V) : NT (.lst l) := ⟨fun _ e => (nomatch e), fun _ _ e => (nomatch e)⟩
theorem nt_dk (l : List (Key × V)) : NT (.dK l) := ⟨fun _ e => (nomatch e), fun _ _ e => (nomatch e)⟩
theorem DrawAt.upd {S D L : Addr} {H : Hp} {o : HO} (d : DrawAt S D H) (n1 : L ≠ D) (n2 : L ≠ S) : DrawAt S D (upd H L o) := by
  obtain ⟨cs, h1⟩ := d.cells
  obtain ⟨i, r, c, h0, h2⟩ := d.at_
  exact ⟨d.ne, ⟨cs, by rw [upd_ne n2.symm]; exact h1⟩, ⟨i, r, c, h0, by rw [upd_ne n1.symm]; exact h2⟩⟩
/-- the draws, and one thing F that may change -/
structure StF (S D F : Addr) (H : Hp) : Prop where
  dr : DrawAt S D H
  nS : F ≠ S
  fl : ∃ o, H F = some o ∧ NT o
def GoL (S D F : Addr) (H H' : Hp) : Prop := StF S D F H' ∧ ∀ b o, H b = some o → b ≠ D → b ≠ F → H' b = some o
section
variable {S D F L p : Addr} {H H1 H2 H' : Hp} {o : HO} {K : PySem.W.Frag}
theorem StF.of_draw (d : DrawAt S D H) : StF S D D H := ⟨d, d.ne.symm, let ⟨_, _, _, _, h⟩ := d.at_; ⟨_, h, nt_lst _⟩⟩
theorem StF.free (st : StF S D F H) (h : H p = none) : p ≠ D ∧ p ≠ S ∧ p ≠ F := by
  obtain ⟨o, hF, _⟩ := st.fl
  exact ⟨(st.dr.free h).1, (st.dr.free h).2, (ne_of_none hF h).symm⟩
theorem GoL.refl (st : StF S D F H) : GoL S D F H H := ⟨st, fun _ _ h _ _ => h⟩
theorem GoL.trans (a : GoL S D F H H1) (b : GoL S D F H1 H2) : GoL S D F H H2 := ⟨b.1, fun x o h n m => b.2 x o (a.2 x o h n m) n m⟩
theorem GoL.of_go (st : StF S D F H) (g : Go S D H H') : GoL S D F H H' := by
  refine ⟨⟨g.1, st.nS, ?_⟩, fun b o h n _ => g.2 b o h n⟩
  obtain ⟨o, hF, nt⟩ := st.fl
  by_cases e : F = D
  · rw [e]
    obtain ⟨_, _, _, _, h⟩ := g.1.at_
    exact ⟨_, h, nt_lst _⟩
  · exact ⟨o, g.2 F _ hF e, nt⟩
theorem GoL.to_go (g : GoL S D D H H') : Go S D H H' := ⟨g.1.dr, fun b o h n => g.2 b o h n n⟩
theorem GoL.mut (st : StF S D F H) (g : GoL S D F H H') (h : H L = none) : GoL S D F H (upd H' L o) := by
  obtain ⟨n1, n2, n3⟩ := st.free h
  obtain ⟨u, hF, nt⟩ := g.1.fl
  exact ⟨⟨g.1.dr.upd n1 n2, st.nS, ⟨u, by rw [upd_ne n3.symm]; exact hF, nt⟩⟩, fun b v hb m1 m2 => by
    rw [upd_ne (ne_of_none hb h)]
    exact g.2 b v hb m1 m2⟩
theorem GoL.new (st : StF S D F H) (h : H p = none) : GoL S D F H (upd H p o) := GoL.mut st (GoL.refl st) h
theorem GoL.setF (nD : F ≠ D) (nt : NT o) (g : GoL S D F H H') : GoL S D F H (upd H' F o) :=
  ⟨⟨g.1.dr.upd nD g.1.nS, g.1.nS, ⟨o, upd_same, nt⟩⟩, fun b v hb m1 m2 => by
    rw [upd_ne m2]
    exact g.2 b v hb m1 m2⟩
theorem GoL.back (st : StF S D F H) (g : GoL S D F H H') (h : H' p = none) : H p = none := by
  cases q : H p with
  | none => rfl
  | some u =>
    obtain ⟨n1, n2, n3⟩ := g.1.free h
    rw [g.2 p u q n1 n3] at h
    cases h
theorem nt_not {xs : List V} (nt : NT o) (h : H p = some o) (r : Rd H L (.tup xs)) : L ≠ p := fun e => by
  subst e
  rcases r with r | ⟨ob, r⟩
  · rw [h] at r
    exact nt.1 _ (Option.some.inj r)
  · rw [h] at r
    exact nt.2 _ _ (Option.some.inj r)
theorem GoL.keepT (st : StF S D F H) (g : GoL S D F H H') : KeepT H H' := fun p xs r => by
  obtain ⟨_, _, _, _, hD⟩ := st.dr.at_
  obtain ⟨o, hF, nt⟩ := st.fl
  have n1 := nt_not (nt_lst _) hD r
  have n2 := nt_not nt hF r
  rcases r with r | ⟨o, r⟩
  · exact .inl (g.2 _ _ r n1 n2)
  · exact .inr ⟨o, g.2 _ _ r n1 n2⟩
theorem Go.keepT (d : DrawAt S D H) (g : Go S D H H') : KeepT H H' := GoL.keepT (StF.of_draw d) (GoL.of_go (StF.of_draw d) g)
theorem keepT_nt {o2 : HO} (nt : NT o2) (h : H L = some o2) : KeepT H (upd H L o) := fun p xs r => by
  have n := nt_not nt h r
  rcases r with r | ⟨o, r⟩
  · exact .inl (by rw [upd_ne n]; exact r)
  · exact .inr ⟨o, by rw [upd_ne n]; exact r⟩
theorem noLs_of {α : Type} {f : α → PyData} (h : ∀ a, noL (f a) = true) (l : List α) : noLs (l.map f) = true := noLs_map f l fun a _ => h a
end
/-- a list that is being filled -/
structure BL (K : PySem.W.Frag) (S D F L : Addr) (H0 H : Hp) {α : Type} (f : α → PyData) (as : List α) : Prop where
  g : GoL S D F H0 H
  l : ∃ zs, H L = some (.lst zs) ∧ DpAll K H zs (as.map f)
section
variable {S D F L : Addr} {H0 H H1 : Hp} {K : PySem.W.Frag} {α : Type} {f : α → PyData} {as : List α}
theorem BL.nil (st : StF S D F H0) (h : H0 L = none) : BL K S D F L H0 (upd H0 L (.lst [])) f [] := ⟨GoL.new st h, [], upd_same, .nil⟩
theorem BL.go (st : StF S D F H0) (hL : H0 L = none) (hn : ∀ a, noL (f a) = true) (b : BL K S D F L H0 H f as) (g : GoL S D F H H1) : BL K S D F L H0 H1 f as := by
  obtain ⟨zs, h1, h2⟩ := b.l
  obtain ⟨n1, n2, n3⟩ := st.free hL
  exact ⟨b.g.trans g, zs, g.2 _ _ h1 n1 n3, dpA_keep (GoL.keepT b.g.1 g) _ _ (noLs_of hn as) h2⟩
theorem BL.add (st : StF S D F H0) (hL : H0 L = none) (hn : ∀ a, noL (f a) = true) {a : α} {x : V} {zs : List V} (g : GoL S D F H0 H) (h1 : H L = some (.lst zs)) (h2 : DpAll K H zs (as.map f)) (hx : Dp K H x (f a)) :
    BL K S D F L H0 (upd H L (.lst (zs ++ [x]))) f (as ++ [a]) := by
  have k := keepT_nt (o := .lst (zs ++ [x])) (nt_lst _) h1
  refine ⟨GoL.mut st g hL, zs ++ [x], upd_same, ?_⟩
  rw [List.map_append]
  exact dpA_snoc (dpA_keep k _ _ (noLs_of hn as) h2) (dp_keep k _ _ (hn a) hx)
theorem BL.len (b : BL K S D F L H0 H f as) : ∃ zs, H L = some (.lst zs) ∧ DpAll K H zs (as.map f) ∧ zs.length = as.length := by
  obtain ⟨zs, h1, h2⟩ := b.l
  exact ⟨zs, h1, h2, by have := dpA_len h2; rw [List.length_map] at this; exact this⟩
theorem GoL.drop {H' : Hp} (g : GoL S D F H H') (h : H F = none) : Go S D H H' := ⟨g.1.dr, fun b o hb n => g.2 b o hb n (ne_of_none hb h)⟩
end
theorem snoc_str (l : List Str) (z : Str) : l.map V.str ++ [V.str z] = (l ++ [z]).map V.str := by
  rw [List.map_append]
  rfl
theorem int_noL (p : Int) : noL (.int p) = true := rfl
theorem str_noL (p : Str) : noL (.str p) = true := rfl
/-! ### promises of the small draws -/
def spPop : Sp := fun vs H Q _ => ∃ (S D p : Addr) (xs : List V), vs = [.ref D, .ref p] ∧ DrawAt S D H ∧ p ≠ D ∧ H p = some (.lst xs) ∧ 0 < xs.length ∧ xs.length ≤ 1000 ∧ ∀ (H1 : Hp) (j : Nat) (x : V), Go S D H H1 → xs[j]? = some x → Q x (upd H1 p (.lst (xs.eraseIdx j)))
def spRare : Sp := fun vs H Q _ => ∃ (S D : Addr) (m : Int), vs = [.ref D, .int m] ∧ 0 < m ∧ m < 1000 ∧ DrawAt S D H ∧ ∀ H' b, Go S D H H' → Q (.bl b) H'
def spShuf (K : PySem.W.Frag) : Sp := fun vs H Q _ => ∃ (S D p : Addr) (xs : List V), vs = [.ref D, .ref p] ∧ DrawAt S D H ∧ SqL K H p xs ∧ xs.length ≤ 1000 ∧
  ∀ (H' : Hp) (q : Addr) (ys : List V), Go S D H H' → H q = none → H' q = some (.lst ys) → ys.length = xs.length → (∀ y ∈ ys, y ∈ xs) → Q (.ref q) H'
abbrev PA : Str := "a b2 sum left r k0 carry z9z full tail n m8 aa busy cnt p t4 even2 ab1 head u v2 w lowest high mid "
abbrev PB : Str := "s t e f g h i j k x y q7 deep turn gate l5 next1 o c0 d two zz1 near far9 last ring2 "
abbrev PC : Str := "aaaaaaa8 b c1 top2 net3 row col7 v"
def POOL : List Str := Txt.split (PA ++ PB ++ PC) " "
theorem pool_len : POOL.length = 60 := by decide +kernel
def spPool : Sp := fun vs H Q _ => vs = [] ∧ ∀ p, H p = none → Q (.ref p) (upd H p (.lst (POOL.map V.str)))
section
variable {P : Program} {w : World} {K : PySem.W.Frag} {mg : Str → Option Value} {base : Heap}
theorem ok__law_draw (T : Txt w K mg) {f : Addr} {fd : FuncData} (F : FnP K "_law_draw" s__law_draw f fd) : FnOk P w K mg base CX0 1 f fd ["d", "many"] spDraw := by
  refine F.ok sc__law_draw (fun vs H Q E h => ?_) (fun cdv A outer s H vs Q E hr h => ?_)
  · obtain ⟨S, D, m, rfl, _⟩ := h
    rfl
  · obtain ⟨S, D, m, rfl, hm, d, q⟩ := h
    obtain ⟨cs, hS⟩ := id d.cells
    obtain ⟨i, r, c, h0, hD⟩ := id d.at_
    have hm0 : 0 < m := hm.1
    refine ⟨_, PSs.nox (pss_cons (ps_if (pt_cmpR op_gt (pe_ix ix_list (pv 0) pe_int (fun _ _ => rfl)) pe_int (nomark _)) (pss_cons (ps_set (i := 2) sc__law_draw.nd rfl (Or.inl rfl) (pe_ix ix_list (pv 0) pe_int (fun _ _ => rfl)))
      (pss_cons (ps_asg (pe_op op_fdivW (pv 2) (pv 1)) (pg_sub (pv 0) pe_int set_list))
      (pss_one (ps_ret (pe_op op_mod (pe_callTy call_int1 (by rfl) T.b_int (by decide +kernel) (pa_cons (pv 2) pa_nil)) (pv 1)))))) pss_nil)
      (pss_cons (ps_set (i := 3) sc__law_draw.nd rfl (Or.inl rfl) pe_int)
      (Evl.pss_cut (ps_if (pt_cmpR op_lt (pe_ix ix_list (pv 0) pe_int (fun _ _ => rfl)) (pe_callB call_len (by rfl) T.b_len (by decide +kernel) (pa_cons (pe_ix ix_list (pv 0) pe_int (fun _ _ => rfl)) pa_nil)) (nomark _)) (pss_cons (ps_set (i := 4) sc__law_draw.nd rfl (Or.inl rfl) (pe_ix ix_list (pe_ix ix_list (pv 0) pe_int (fun _ _ => rfl)) (pe_ix ix_list (pv 0) pe_int (fun _ _ => rfl)) (fun _ _ => rfl)))
      (pss_one (ps_set (i := 3) sc__law_draw.nd rfl (Or.inl rfl) (pe_op op_add (pe_op op_mul pe_int (pe_callB call_abs (by rfl) T.b_abs (by decide +kernel) (pa_cons (pv 4) pa_nil))) (pe_callTy call_int1 (by rfl) T.b_int (by decide +kernel) (pa_cons (pe_cmpR op_lt (pv 4) pe_int (nomark _)) pa_nil)))))) pss_nil)
      (pss_cons (ps_augS (pv 0) pe_int get_list pe_int ip_add set_list)
      (pss_cons (ps_if (pt_cmpR op_ge (pv 3) (pe_op op_mul pe_int (pe_op op_pow pe_int pe_int)) (nomark _)) (pss_cons (ps_set (i := 2) sc__law_draw.nd rfl (Or.inl rfl) (pe_op op_mod (pe_callTy call_int1 (by rfl) T.b_int (by decide +kernel) (pa_cons (pe_op op_fdivW (pv 3) pe_int) pa_nil)) (pe_op op_shl pe_int pe_int)))
      (pss_cons (ps_asg (pe_op op_fdivW (pv 2) (pv 1)) (pg_sub (pv 0) pe_int set_list))
      (pss_one (ps_ret (pe_op op_mod (pe_callTy call_int1 (by rfl) T.b_int (by decide +kernel) (pa_cons (pv 2) pa_nil)) (pv 1)))))) pss_nil)
      (pss_cons (ps_asg (pe_op op_mod (pe_callTy call_int1 (by rfl) T.b_int (by decide +kernel) (pa_cons (pe_op op_add (pe_op op_add (pe_op op_add (pe_op op_mul (pe_ix ix_list (pv 0) pe_int (fun _ _ => rfl)) pe_int) (pe_op op_mul (pe_op op_mod (pe_callTy call_int1 (by rfl) T.b_int (by decide +kernel) (pa_cons (pv 3) pa_nil)) pe_int) pe_int)) (pe_op op_mul (pe_ix ix_list (pv 0) pe_int (fun _ _ => rfl)) pe_int)) pe_int) pa_nil)) pe_int) (pg_sub (pv 0) pe_int set_list))
      (pss_one (ps_ret (pe_op op_mod (pe_callTy call_int1 (by rfl) T.b_int (by decide +kernel) (pa_cons (pe_op op_fdivW (pe_ix ix_list (pv 0) pe_int (fun _ _ => rfl)) pe_int) pa_nil)) (pv 1)))))))))), ?_⟩
    refine ⟨_, rfl, D, _, _, _, rfl, rfl, SqL.of hD, atI_nat (j := 2) rfl, _, _, rfl, rfl, _, rfl, ?_⟩
    refine ite2 (fun e => ?_) (fun e => ?_)
    · refine ⟨_, rfl, D, _, _, _, rfl, rfl, SqL.of hD, atI_nat (j := 2) rfl, ?_⟩
      refine ⟨_, rfl, _, rfl, _, _, rfl, rfl, hm, _, rfl, D, _, _, 2, rfl, rfl, hD, rfl, ?_⟩
      refine ⟨_, rfl, .inl ⟨_, rfl, _, rfl, _, _, rfl, rfl, hm0, ?_⟩⟩
      refine q _ _ (Int.emod_nonneg _ (by omega)) (Int.emod_lt_of_pos _ hm0) ⟨d.set h0, Keep.refl.set⟩
    · refine ⟨fun σ' H' => ∃ (z : Int) (x : Option V), σ' = [some (.ref D), some (.int m), none, some (.int z), x] ∧ H' = H, ?_, ?_⟩
      · refine ⟨_, rfl, D, _, _, _, rfl, rfl, SqL.of hD, atI_nat (j := 1) rfl, ?_⟩
        refine ⟨_, rfl, D, _, _, _, rfl, rfl, SqL.of hD, atI_nat (j := 0) rfl, _, _, rfl, .inl ⟨_, SqL.of hS, rfl⟩, _, _, rfl, rfl, _, rfl, ?_⟩
        refine ite2 (fun e1 => ?_) (fun e1 => ?_)
        · have e2 : i < ((cs.map V.int).length : Int) := of_decide_eq_true e1
          have e3 : i.toNat < (cs.map V.int).length := by omega
          have e4 : i.toNat < cs.length := by rw [List.length_map] at e3; exact e3
          have e5 : (cs.map V.int)[i.toNat]? = some (.int cs[i.toNat]) := by
            rw [List.getElem?_map, List.getElem?_eq_getElem e4]
            rfl
          have e6 : atI (cs.map V.int) i = some (.int cs[i.toNat]) := by
            have := atI_nat (xs := cs.map V.int) e5
            rw [show ((i.toNat : Nat) : Int) = i by omega] at this
            exact this
          refine ⟨_, rfl, D, _, _, _, rfl, rfl, SqL.of hD, atI_nat (j := 0) rfl, ?_⟩
          refine ⟨_, rfl, D, _, _, _, rfl, rfl, SqL.of hD, atI_nat (j := 1) rfl, ?_⟩
          refine ⟨S, _, _, _, rfl, rfl, SqL.of hS, e6, ?_⟩
          refine ⟨_, rfl, _, rfl, _, _, rfl, rfl, .inl ⟨by decide, by decide⟩, ?_⟩
          refine ⟨_, rfl, _, _, rfl, rfl, .inr ⟨_, rfl, _, _, rfl, rfl, ?_⟩⟩
          exact ⟨_, _, rfl, rfl⟩
        · exact ⟨_, _, rfl, rfl⟩
      · rintro σ' H' ⟨z, x, rfl, rfl⟩
        refine ⟨_, rfl, D, _, _, _, rfl, rfl, SqL.of hD, atI_nat (j := 1) rfl, ?_⟩
        refine ⟨_, _, rfl, rfl, D, _, _, 1, rfl, rfl, hD, rfl, ?_⟩
        have hD1 : (upd H' D (.lst [.ref S, .int (i + 1), .int r, .int c])) D = some (.lst [.ref S, .int (i + 1), .int r, .int c]) := upd_same
        have d1 : DrawAt S D (upd H' D (.lst [.ref S, .int (i + 1), .int r, .int c])) := d.set (by omega)
        refine ⟨_, rfl, _, _, rfl, rfl, ⟨by decide, by decide, by decide⟩, _, _, rfl, rfl, .inl ⟨by decide, by decide⟩, _, _, rfl, rfl, _, rfl, ?_⟩
        refine ite2 (fun e1 => ?_) (fun e1 => ?_)
        · refine ⟨_, rfl, _, _, rfl, rfl, ⟨by decide, by decide⟩, .inl ⟨_, rfl, _, _, rfl, rfl, ⟨by decide, by decide, by decide⟩, ?_⟩⟩
          refine ⟨_, _, rfl, rfl, ?_, ?_⟩
          · show (0 : Int) < 1 * 2 ^ (6000 : Int).toNat
            exact Int.mul_pos (by decide) (Int.pow_pos (by decide))
          · refine ⟨_, rfl, _, rfl, _, _, rfl, rfl, hm, _, rfl, D, _, _, 2, rfl, rfl, hD1, rfl, ?_⟩
            refine ⟨_, rfl, .inl ⟨_, rfl, _, rfl, _, _, rfl, rfl, hm0, ?_⟩⟩
            exact q _ _ (Int.emod_nonneg _ (by omega)) (Int.emod_lt_of_pos _ hm0) ⟨d1.set (by omega), Keep.refl.set.set⟩
        · refine ⟨_, rfl, D, _, _, _, rfl, rfl, SqL.of hD1, atI_nat (j := 3) rfl, _, _, rfl, rfl, .inr ⟨by decide, by decide⟩, ?_⟩
          refine ⟨_, rfl, .inl ⟨_, rfl, _, _, rfl, rfl, (by show (0 : Int) < 2147483629; decide), _, _, rfl, rfl, .inr ⟨by decide, by decide⟩, _, _, rfl, rfl, ?_⟩⟩
          refine ⟨_, rfl, D, _, _, _, rfl, rfl, SqL.of hD1, atI_nat (j := 1) rfl, _, _, rfl, rfl, .inr ⟨by decide, by decide⟩, _, _, rfl, rfl, _, _, rfl, rfl, .inl ⟨_, rfl, ?_⟩⟩
          refine ⟨_, _, rfl, rfl, (by show (0 : Int) < 2147483647; decide), _, rfl, D, _, _, 3, rfl, rfl, hD1, rfl, ?_⟩
          refine ⟨_, rfl, D, _, _, _, rfl, rfl, SqL.of upd_same, atI_nat (j := 3) rfl, _, _, rfl, rfl, ⟨by decide, by decide⟩, ?_⟩
          refine .inl ⟨_, rfl, _, rfl, _, _, rfl, rfl, hm0, ?_⟩
          exact q _ _ (Int.emod_nonneg _ (by omega)) (Int.emod_lt_of_pos _ hm0) ⟨d1.set (by omega), Keep.refl.set.set⟩
theorem ok__law_begin (T : Txt w K mg) {f : Addr} {fd : FuncData} (F : FnP K "_law_begin" s__law_begin f fd) : FnOk P w K mg base CX0 1 f fd ["script"] (spBegin K) := by
  refine F.ok sc__law_begin (fun vs H Q E h => ?_) (fun cdv A outer s H vs Q E hr h => ?_)
  · obtain ⟨a, ns, rfl, _⟩ := h
    rfl
  · obtain ⟨a, ns, rfl, hS, hlen, q⟩ := h
    refine ⟨_, PSs.nox (pss_one (ps_ret (pe_lst (pa_cons (pe_lc (own := [("cell", 1)]) (g := (gName 1)) (tt := tYes) rfl sc__law_begin.nd (pi_list (pv 0)) (blkOk_by (N := N__law_begin) (sc := defScope s__law_begin) (by decide +kernel)) (fun _ _ _ _ _ => (pg_name (i := 1) sc__law_begin.nd rfl (Or.inl rfl))) (fun _ _ _ _ _ => pts_nil) (fun _ _ _ _ _ => (pe_callTy call_int1 (by rfl) T.b_int (by decide +kernel) (pa_cons (pv 1) pa_nil)))) (pa_cons pe_int (pa_cons pe_int (pa_cons pe_int pa_nil))))))), ?_⟩
    refine ⟨_, rfl, a, rfl, ⟨_, hS⟩, fun L hL => lc_list (xs := ns.map V.int) (fun i H' => H' = upd H L (.lst ((ns.take i).map V.int))) rfl (fun i H' _ e => ?_) ?_ ?_⟩
    · subst e
      exact (show Same H _ from fun b o h => by rw [upd_ne (ne_of_none h hL)]; exact h).seq hS
    · rintro i x H1 hi rfl
      obtain ⟨z, rfl, hz⟩ := getV hi
      refine ⟨rfl, _, rfl, .inl ⟨_, rfl, _, upd_same, ?_, ?_⟩⟩
      · rw [List.length_map, List.length_take]
        exact Nat.lt_of_le_of_lt (Nat.min_le_right _ _) (small1000 (by omega))
      · rw [upd_upd, take_map_succ (f := V.int) hz]
    · rintro H' rfl
      refine ⟨by show 4 ≤ sizeLine; decide, fun D hD => ?_⟩
      have nLD : D ≠ L := fun e => by
        rw [e, upd_same] at hD
        cases hD
      have hD0 : H D = none := by
        rw [upd_ne nLD] at hD
        exact hD
      refine q L D _ (fun b o h => ?_) hD0 ⟨fun e => nLD e.symm, ⟨ns, ?_⟩, ⟨0, 0, 7, by decide, upd_same⟩⟩
      · rw [upd_ne (ne_of_none h hD0), upd_ne (ne_of_none h hL)]
        exact h
      · rw [upd_ne (fun e => nLD e.symm), upd_same]
        rw [List.take_of_length_le (by rw [List.length_map]; exact Nat.le_refl _)]
theorem ok__law_pick (T : Txt w K mg) (D__law_draw : Kept P w K mg base 1 "_law_draw" ["d", "many"] spDraw) {f : Addr} {fd : FuncData} (F : FnP K "_law_pick" s__law_pick f fd) : FnOk P w K mg base CX0 2 f fd ["d", "row"] (spPick K) := by
  refine F.ok sc__law_pick (fun vs H Q E h => ?_) (fun cdv A outer s H vs Q E hr h => ?_)
  · obtain ⟨S, D, r, xs, rfl, _⟩ := h
    rfl
  · obtain ⟨S, D, r, xs, rfl, d, hR, h0, h1, q⟩ := h
    refine ⟨_, PSs.nox (pss_one (ps_ret (pe_ix ix_seq (pv 1) (pe_d D__law_draw (hr.mono (by decide)) (by rfl) (pa_cons (pv 0) (pa_cons (pe_callB call_len (by rfl) T.b_len (by decide +kernel) (pa_cons (pv 1) pa_nil)) pa_nil))) (fun _ _ => rfl)))), ?_⟩
    refine ⟨r, rfl, _, rfl, _, rfl, r, xs.length, rfl, ?_, ?_⟩
    · rcases hR H (Go.refl d) with ⟨z, rfl, rfl⟩ | ⟨p, rfl, hp⟩
      · refine ⟨?_, by simp [Str.length]⟩
        rw [List.length_map] at h1
        have : z.length = z.cps.toList.length := by simp [Str.length]
        rw [this]
        exact Nat.le_trans h1 (by decide)
      · exact .inl ⟨_, hp, rfl⟩
    · refine ⟨S, D, _, rfl, divW_of (by omega) (by omega), d, fun H' v hv0 hv1 g => ?_⟩
      have hv : v.toNat < xs.length := by omega
      have e : ((v.toNat : Nat) : Int) = v := by omega
      have ex : xs[v.toNat]? = some xs[v.toNat] := List.getElem?_eq_getElem hv
      have ea : atI xs v = some xs[v.toNat] := by
        have := atI_nat (xs := xs) ex
        rw [e] at this
        exact this
      rcases hR H' g with ⟨z, rfl, rfl⟩ | ⟨p, rfl, hp⟩
      · refine .inr (.inr ⟨z, v, z.cps.toList[v.toNat]'(by rw [List.length_map] at hv; exact hv), rfl, rfl, ?_, ?_, ?_⟩)
        · rw [List.length_map] at h1
          have : z.length = z.cps.toList.length := by simp [Str.length]
          rw [this]
          exact Nat.le_trans h1 (by decide)
        · have := atI_nat (xs := z.cps.toList) (List.getElem?_eq_getElem (show v.toNat < z.cps.toList.length by rw [List.length_map] at hv; exact hv))
          rw [e] at this
          exact this
        · refine q H' _ ?_ g
          exact List.mem_map_of_mem (List.getElem_mem _)
      · exact .inl ⟨p, xs, v, _, rfl, rfl, hp, ea, q H' _ (List.getElem_mem _) g⟩
theorem ok__law_pop (T : Txt w K mg) (D__law_draw : Kept P w K mg base 1 "_law_draw" ["d", "many"] spDraw) {f : Addr} {fd : FuncData} (F : FnP K "_law_pop" s__law_pop f fd) : FnOk P w K mg base CX0 2 f fd ["d", "row"] spPop := by
  refine F.ok sc__law_pop (fun vs H Q E h => ?_) (fun cdv A outer s H vs Q E hr h => ?_)
  · obtain ⟨S, D, p, xs, rfl, _⟩ := h
    rfl
  · obtain ⟨S, D, p, xs, rfl, d, nD, hp, h0, h1, q⟩ := h
    refine ⟨_, PSs.nox (pss_one (ps_ret (pe_bm PySem.F.plainAttrs_list PySem.F.slot_list_pop PySem.F.type_list_pop mt_popAt (pv 1) (pa_cons (pe_d D__law_draw (hr.mono (by decide)) (by rfl) (pa_cons (pv 0) (pa_cons (pe_callB call_len (by rfl) T.b_len (by decide +kernel) (pa_cons (pv 1) pa_nil)) pa_nil))) pa_nil)))), ?_⟩
    refine ⟨_, rfl, .inl ⟨rfl, _, SqL.of hp⟩, _, rfl, _, rfl, _, _, rfl, .inl ⟨_, SqL.of hp, rfl⟩, S, D, _, rfl, divW_of (by omega) (by omega), d, fun H1 v v0 v1 g => ?_⟩
    have hv : v.toNat < xs.length := by omega
    have ex : xs[v.toNat]? = some xs[v.toNat] := List.getElem?_eq_getElem hv
    refine ⟨p, xs, v, v.toNat, _, rfl, rfl, g.2 _ _ hp nD, by omega, by omega, ?_, ex, q H1 _ _ g ex⟩
    exact seqIndex_of v0 (by omega)
theorem ok__law_rare (T : Txt w K mg) (D__law_draw : Kept P w K mg base 1 "_law_draw" ["d", "many"] spDraw) {f : Addr} {fd : FuncData} (F : FnP K "_law_rare" s__law_rare f fd) : FnOk P w K mg base CX0 2 f fd ["d", "many"] spRare := by
  refine F.ok sc__law_rare (fun vs H Q E h => ?_) (fun cdv A outer s H vs Q E hr h => ?_)
  · obtain ⟨S, D, m, rfl, _⟩ := h
    rfl
  · obtain ⟨S, D, m, rfl, m0, m1, d, q⟩ := h
    refine ⟨_, PSs.nox (pss_one (ps_ret (pe_cmpR op_eq (pe_d D__law_draw (hr.mono (by decide)) (by rfl) (pa_cons (pv 0) (pa_cons (pv 1) pa_nil))) (pe_op op_fdivW (pv 1) pe_int) (nomark _)))), ?_⟩
    exact ⟨_, rfl, _, rfl, S, D, m, rfl, divW_of m0 (by omega), d, fun H1 v _ _ g => ⟨_, rfl, _, _, rfl, rfl, ⟨by decide, by decide⟩, rfl, q H1 _ g⟩⟩
theorem ok__law_pool (T : Txt w K mg) {f : Addr} {fd : FuncData} (F : FnP K "_law_pool" s__law_pool f fd) : FnOk P w K mg base CX0 1 f fd [] spPool := by
  refine F.ok sc__law_pool (fun vs H Q E h => ?_) (fun cdv A outer s H vs Q E hr h => ?_)
  · obtain ⟨rfl, _⟩ := h
    rfl
  · obtain ⟨rfl, q⟩ := h
    refine ⟨_, PSs.nox (pss_cons (ps_set (i := 0) sc__law_pool.nd rfl (Or.inl rfl) pe_str)
      (pss_cons (ps_set (i := 0) sc__law_pool.nd rfl (Or.inl rfl) (pe_op op_add_str (pv 0) pe_str))
      (pss_one (ps_ret (pe_split (pe_op op_add_str (pv 0) pe_str) pe_str))))), ?_⟩
    exact ⟨_, rfl, _, _, rfl, rfl, by decide +kernel, _, rfl, _, _, rfl, rfl, by decide +kernel, ⟨_, rfl⟩, _, _, rfl, rfl, by decide +kernel, by decide +kernel, fun p hp => q p hp⟩
theorem ok__law_shuffled (T : Txt w K mg) (D__law_draw : Kept P w K mg base 1 "_law_draw" ["d", "many"] spDraw) {f : Addr} {fd : FuncData} (F : FnP K "_law_shuffled" s__law_shuffled f fd) : FnOk P w K mg base CX0 2 f fd ["d", "row"] (spShuf K) := by
  refine F.ok sc__law_shuffled (fun vs H Q E h => ?_) (fun cdv A outer s H vs Q E hr h => ?_)
  · obtain ⟨S, D, p, xs, rfl, _⟩ := h
    rfl
  · obtain ⟨S, D, p, xs, rfl, d, hp, hl, q⟩ := h
    refine ⟨_, PSs.nox (pss_cons (ps_set (i := 2) sc__law_shuffled.nd rfl (Or.inl rfl) (pe_callTy call_list_of (by rfl) T.b_list (by decide +kernel) (pa_cons (pv 1) pa_nil)))
      (pss_cons (ps_set (i := 3) sc__law_shuffled.nd rfl (Or.inl rfl) (pe_lst pa_nil))
      (pss_cons (ps_for PassesOwn.never rfl (pi_range1 (by rfl) T.b_range (pa_cons (pe_callB call_len (by rfl) T.b_len (by decide +kernel) (pa_cons (pv 2) pa_nil)) pa_nil)) (pg_name (i := 4) sc__law_shuffled.nd rfl (Or.inl rfl)) (pss_one (ps_expr (pe_bm PySem.F.plainAttrs_list PySem.F.slot_list_append PySem.F.type_list_append mt_append (pv 3) (pa_cons (pe_bm PySem.F.plainAttrs_list PySem.F.slot_list_pop PySem.F.type_list_pop mt_popAt (pv 2) (pa_cons (pe_d D__law_draw (hr.mono (by decide)) (by rfl) (pa_cons (pv 0) (pa_cons (pe_callB call_len (by rfl) T.b_len (by decide +kernel) (pa_cons (pv 2) pa_nil)) pa_nil))) pa_nil)) pa_nil)))))
      (pss_one (ps_ret (pv 3)))))), ?_⟩
    refine ⟨_, rfl, p, xs, rfl, .inl hp, fun l hl0 => ⟨Nat.zero_le _, fun f hf => ?_⟩⟩
    have g1 := Go.new (o := .lst xs) d hl0
    have g2 := g1.trans (Go.new (o := .lst []) g1.1 hf)
    have nlf : l ≠ f := fun e => by
      rw [← e, upd_same] at hf
      cases hf
    have hf0 : H f = none := by
      rw [upd_ne nlf.symm] at hf
      exact hf
    have hll : (upd (upd H l (.lst xs)) f (.lst [])) l = some (.lst xs) := by
      rw [upd_ne nlf, upd_same]
    have nlD := (d.free hl0).1
    have nfD := (d.free hf0).1
    refine ⟨_, rfl, _, _, rfl, .inl ⟨_, SqL.of hll, rfl⟩, xs.length, rfl, by omega, by omega, for_range (lo := 0) (n := xs.length) (fun i σ H' => ∃ (y : Option V) (ls fs : List V), σ = [some (.ref D), some (.ref p), some (.ref l), some (.ref f), y] ∧ Go S D H H' ∧ H' l = some (.lst ls) ∧ H' f = some (.lst fs) ∧ ls.length + i = xs.length ∧ fs.length = i ∧ (∀ y ∈ ls, y ∈ xs) ∧ ∀ y ∈ fs, y ∈ xs) ⟨_, xs, [], rfl, g2, hll, upd_same, rfl, rfl, fun _ h => h, fun _ h => absurd h List.not_mem_nil⟩ ?_ ?_⟩
    · rintro i σ H1 hi ⟨y, ls, fs, rfl, g, h1, h2, e1, e2, m1, m2⟩
      refine ⟨_, rfl, .inl ⟨rfl, _, SqL.of h2⟩, _, rfl, .inl ⟨rfl, _, SqL.of h1⟩, _, rfl, _, rfl, _, _, rfl, .inl ⟨_, SqL.of h1, rfl⟩, S, D, _, rfl, divW_of (by omega) (by omega), g.1, fun H2 v v0 v1 g3 => ?_⟩
      have hv : v.toNat < ls.length := by omega
      have ex : ls[v.toNat]? = some ls[v.toNat] := List.getElem?_eq_getElem hv
      have h1' := g3.2 _ _ h1 nlD
      have h2' := g3.2 _ _ h2 nfD
      refine ⟨l, ls, v, v.toNat, _, rfl, rfl, h1', by omega, by omega, seqIndex_of v0 (by omega), ex, ?_⟩
      have h2'' : (upd H2 l (.lst (ls.eraseIdx v.toNat))) f = some (.lst fs) := by
        rw [upd_ne nlf.symm]
        exact h2'
      refine ⟨f, fs, _, rfl, rfl, h2'', line6 (by omega), ?_⟩
      have g4 := g.trans g3
      refine ⟨_, ls.eraseIdx v.toNat, fs ++ [ls[v.toNat]], rfl, ⟨(g4.1.upd nlD (d.free hl0).2).upd nfD (d.free hf0).2, fun b o hb n => ?_⟩, ?_, upd_same, ?_, ?_, fun y hy => m1 y (List.mem_of_mem_eraseIdx hy), fun y hy => ?_⟩
      · rw [upd_ne (ne_of_none hb hf0), upd_ne (ne_of_none hb hl0)]
        exact g4.2 b o hb n
      · rw [upd_ne nlf, upd_same]
      · rw [List.length_eraseIdx_of_lt hv]
        omega
      · rw [List.length_append, List.length_singleton, e2]
      · rcases List.mem_append.mp hy with h | h
        · exact m2 y h
        · rw [List.mem_singleton.mp h]
          exact m1 _ (List.getElem_mem hv)
    · rintro σ H1 ⟨y, ls, fs, rfl, g, h1, h2, e1, e2, m1, m2⟩
      exact ⟨_, rfl, q H1 f fs g hf0 h2 e2 m2⟩
end
end Mt
namespace Mt
open PySem PySem.Spec PyProof.Rows L2
/-! ### the world: a dict with a number that goes down, and lists that stay -/
def K5 : List Str := (["stream", "resource", "belt", "counter", "mark"] : List String).map Str.ofString
def ALLK : List Str := (["stream", "resource", "belt", "counter", "mark", "store", "process"] : List String).map Str.ofString
abbrev Ent : Type := Str × Addr × List Str
def ent (e : Ent) : Key × V := (.inr e.1, .ref e.2.1)
def kvsOf (c b : Int) (es : List Ent) : List (Key × V) := (.inr "left", .int c) :: (.inr "base", .int b) :: es.map ent
structure WK where
  base : Int
  es : List Ent
def EntOk (H : Hp) (D Wd : Addr) (e : Ent) : Prop := H e.2.1 = some (.lst (e.2.2.map V.str)) ∧ e.2.1 ≠ D ∧ e.2.1 ≠ Wd ∧ 0 < e.2.2.length ∧ e.2.2.length ≤ 6
structure WSt (S D Wd : Addr) (k : WK) (c : Int) (H : Hp) : Prop where
  st : StF S D Wd H
  nD : Wd ≠ D
  d : H Wd = some (.dK (kvsOf c k.base k.es))
  b : 2 ≤ k.base ∧ k.base ≤ 6
  ks : k.es.map (·.1) = ALLK
  ls : ∀ e ∈ k.es, EntOk H D Wd e
theorem key_ne {a b : Str} (h : a ≠ b) : ¬ (Sum.inr a : Key) = .inr b := fun e => h (by injection e)
theorem valV_ent (z : Str) : ∀ es : List Ent, z ∈ es.map (·.1) → ∃ e ∈ es, e.1 = z ∧ valV (es.map ent) (.inr z) = some (.ref e.2.1)
  | [], h => absurd h List.not_mem_nil
  | e :: r, h => by
    by_cases q : e.1 = z
    · exact ⟨e, List.mem_cons_self, q, by rw [List.map_cons]; exact valV_pos (p := ent e) (by rw [← q]; rfl)⟩
    · have h2 : z ∈ r.map (·.1) := by
        rcases List.mem_cons.mp h with h | h
        · exact absurd h.symm q
        · exact h
      obtain ⟨e2, h3, h4, h5⟩ := valV_ent z r h2
      refine ⟨e2, List.mem_cons_of_mem _ h3, h4, ?_⟩
      rw [List.map_cons, valV_neg (show ¬ (ent e).1 = .inr z from key_ne q)]
      exact h5
theorem allk_no : ∀ z ∈ ALLK, z ≠ "left" ∧ z ≠ "base" := by
  have : ALLK.all (fun z => decide (z ≠ "left") && decide (z ≠ "base")) = true := by decide +kernel
  intro z hz
  have h := List.all_eq_true.mp this z hz
  rw [Bool.and_eq_true] at h
  exact ⟨of_decide_eq_true h.1, of_decide_eq_true h.2⟩
section
variable {S D Wd p : Addr} {k : WK} {c : Int} {H H' : Hp}
theorem WSt.get (s : WSt S D Wd k c H) {z : Str} (hz : z ∈ ALLK) : ∃ (a : Addr) (ns : List Str), DGet H Wd (.str z) (some (.ref a)) ∧ H a = some (.lst (ns.map V.str)) ∧ a ≠ D ∧ a ≠ Wd ∧ 0 < ns.length ∧ ns.length ≤ 6 := by
  obtain ⟨n1, n2⟩ := allk_no z hz
  obtain ⟨e, he, h1, h2⟩ := valV_ent z k.es (by rw [s.ks]; exact hz)
  obtain ⟨h3, h4, h5, h6, h7⟩ := s.ls e he
  refine ⟨e.2.1, e.2.2, ?_, h3, h4, h5, h6, h7⟩
  have := DGet.k (k := .inr z) s.d
  rw [show valV (kvsOf c k.base k.es) (.inr z) = some (.ref e.2.1) from by
    unfold kvsOf
    rw [valV_neg (key_ne (Ne.symm n1)), valV_neg (key_ne (Ne.symm n2))]
    exact h2] at this
  exact this
theorem WSt.left (s : WSt S D Wd k c H) : DGet H Wd (.str "left") (some (.int c)) := by
  have := DGet.k (k := .inr "left") s.d
  rw [show valV (kvsOf c k.base k.es) (.inr "left") = some (.int c) from valV_pos rfl] at this
  exact this
theorem WSt.bas (s : WSt S D Wd k c H) : DGet H Wd (.str "base") (some (.int k.base)) := by
  have := DGet.k (k := .inr "base") s.d
  rw [show valV (kvsOf c k.base k.es) (.inr "base") = some (.int k.base) from by
    unfold kvsOf
    rw [valV_neg (key_ne (by decide +kernel))]
    exact valV_pos rfl] at this
  exact this
theorem WSt.put (s : WSt S D Wd k c H) (c' : Int) : DPut H Wd (.str "left") (.int c') (upd H Wd (.dK (kvsOf c' k.base k.es))) := by
  have hl : (kvsOf c k.base k.es).length < sizeLine := by
    have := congrArg List.length s.ks
    rw [List.length_map] at this
    have e : ALLK.length = 7 := rfl
    refine line6 ?_
    unfold kvsOf
    rw [List.length_cons, List.length_cons, List.length_map, this, e]
    decide
  have := DPut.k (k := .inr "left") (v := .int c') s.d hl
  rw [show putK (kvsOf c k.base k.es) (.inr "left") (.int c') = kvsOf c' k.base k.es from by
    unfold putK
    rw [if_pos (by unfold kvsOf; rw [List.any_cons]; rfl)]
    unfold kvsOf
    rw [List.map_cons, List.map_cons, if_pos rfl, if_neg (key_ne (by decide +kernel))]
    congr 2
    rw [List.map_map]
    refine List.map_congr_left fun e he => ?_
    have hz : e.1 ∈ ALLK := by
      rw [← s.ks]
      exact List.mem_map_of_mem he
    exact if_neg (key_ne (allk_no _ hz).1)] at this
  exact this
theorem WSt.go (s : WSt S D Wd k c H) (g : Go S D H H') : WSt S D Wd k c H' :=
  ⟨(GoL.of_go s.st g).1, s.nD, g.2 _ _ s.d s.nD, s.b, s.ks, fun e he => let ⟨h1, h2, h3, h4, h5⟩ := s.ls e he; ⟨g.2 _ _ h1 h2, h2, h3, h4, h5⟩⟩
theorem WSt.set (s : WSt S D Wd k c H) (c' : Int) : WSt S D Wd k c' (upd H Wd (.dK (kvsOf c' k.base k.es))) ∧ GoL S D Wd H (upd H Wd (.dK (kvsOf c' k.base k.es))) := by
  have g : GoL S D Wd H (upd H Wd (.dK (kvsOf c' k.base k.es))) := GoL.setF s.nD (nt_dk _) (GoL.refl s.st)
  exact ⟨⟨g.1, s.nD, upd_same, s.b, s.ks, fun e he => let ⟨h1, h2, h3, h4, h5⟩ := s.ls e he; ⟨by rw [upd_ne h3]; exact h1, h2, h3, h4, h5⟩⟩, g⟩
theorem WSt.new {o : HO} (s : WSt S D Wd k c H) (h : H p = none) : WSt S D Wd k c (upd H p o) := s.go (Go.new s.st.dr h)
end
def spWorld : Sp := fun vs H Q _ => ∃ (S D : Addr) (c : Int), vs = [.ref D, .int c] ∧ DrawAt S D H ∧ ∀ (H' : Hp) (Wd : Addr) (k : WK), Go S D H H' → H Wd = none → WSt S D Wd k c H' → Q (.ref Wd) H'
theorem k5_ok : (List.range 5).all (fun i => decide (K5.getD i "" ∉ (["left", "base"] : List Str) ++ K5.take i)) = true := by decide +kernel
theorem valV_no {kvs : List (Key × V)} {k : Key} (h : k ∉ kvs.map (·.1)) : valV kvs k = none := by
  induction kvs with
  | nil => rfl
  | cons p r ih =>
    rw [List.map_cons, List.mem_cons, not_or] at h
    rw [valV_neg (fun e => h.1 e.symm)]
    exact ih h.2
theorem Go.mut {S D L : Addr} {H H' : Hp} {o : HO} (d : DrawAt S D H) (g : Go S D H H') (h : H L = none) : Go S D H (upd H' L o) := (GoL.mut (StF.of_draw d) (GoL.of_go (StF.of_draw d) g) h).to_go
theorem erase_map {α β : Type} (f : α → β) : ∀ (l : List α) (j : Nat), (l.map f).eraseIdx j = (l.eraseIdx j).map f
  | [], _ => rfl
  | _ :: _, 0 => rfl
  | x :: r, j + 1 => by
    show f x :: (r.map f).eraseIdx j = f x :: (r.eraseIdx j).map f
    rw [erase_map f r j]
/-- the world that is being made -/
structure WB (S D : Addr) (H : Hp) (nm Wd : Addr) (c b : Int) (es : List Ent) (ls : List Str) (H' : Hp) : Prop where
  g : Go S D H H'
  hn : H' nm = some (.lst (ls.map V.str))
  hd : H' Wd = some (.dK (kvsOf c b es))
  el : ∀ e ∈ es, EntOk H' D Wd e ∧ e.2.1 ≠ nm
section
variable {S D nm Wd L : Addr} {H H' H1 : Hp} {c b : Int} {es : List Ent} {ls : List Str} {o : HO}
theorem WB.go (x : WB S D H nm Wd c b es ls H') (n1 : nm ≠ D) (n2 : Wd ≠ D) (g : Go S D H' H1) : WB S D H nm Wd c b es ls H1 :=
  ⟨x.g.trans g, g.2 _ _ x.hn n1, g.2 _ _ x.hd n2, fun e he => let ⟨⟨h1, h2, h3, h4, h5⟩, h6⟩ := x.el e he; ⟨⟨g.2 _ _ h1 h2, h2, h3, h4, h5⟩, h6⟩⟩
theorem WB.pop (x : WB S D H nm Wd c b es ls H') (d : DrawAt S D H) (hn : H nm = none) (n : Wd ≠ nm) (j : Nat) : WB S D H nm Wd c b es (ls.eraseIdx j) (upd H' nm (.lst ((ls.map V.str).eraseIdx j))) :=
  ⟨Go.mut d x.g hn, by rw [upd_same, erase_map], by rw [upd_ne n]; exact x.hd, fun e he => let ⟨⟨h1, h2, h3, h4, h5⟩, h6⟩ := x.el e he; ⟨⟨by rw [upd_ne h6]; exact h1, h2, h3, h4, h5⟩, h6⟩⟩
theorem WB.mutL (x : WB S D H nm Wd c b es ls H') (d : DrawAt S D H) (hL : H L = none) (n1 : L ≠ nm) (n2 : L ≠ Wd) (n3 : ∀ e ∈ es, e.2.1 ≠ L) : WB S D H nm Wd c b es ls (upd H' L o) :=
  ⟨Go.mut d x.g hL, by rw [upd_ne n1.symm]; exact x.hn, by rw [upd_ne n2.symm]; exact x.hd, fun e he => let ⟨⟨h1, h2, h3, h4, h5⟩, h6⟩ := x.el e he; ⟨⟨by rw [upd_ne (n3 e he)]; exact h1, h2, h3, h4, h5⟩, h6⟩⟩
theorem WB.fresh (x : WB S D H nm Wd c b es ls H') (d : DrawAt S D H) (h : H' L = none) : H L = none ∧ L ≠ nm ∧ L ≠ Wd ∧ (∀ e ∈ es, e.2.1 ≠ L) ∧ L ≠ D :=
  ⟨Go.free x.g d h, (ne_of_none x.hn h).symm, (ne_of_none x.hd h).symm, fun e he => ne_of_none (x.el e he).1.1 h, (x.g.1.free h).1⟩
theorem WB.add (x : WB S D H nm Wd c b es ls H') (d : DrawAt S D H) (hW : H Wd = none) (nW : Wd ≠ D) (n : Wd ≠ nm) {z : Str} {zs : List Str} (hz : z ∉ (["left", "base"] : List Str) ++ es.map (·.1)) (hes : es.length ≤ 10) (h1 : H' L = some (.lst (zs.map V.str))) (n1 : L ≠ D) (n2 : L ≠ Wd) (n3 : L ≠ nm) (z1 : 0 < zs.length) (z2 : zs.length ≤ 6) :
    DPut H' Wd (.str z) (.ref L) (upd H' Wd (.dK (kvsOf c b (es ++ [(z, L, zs)])))) ∧ WB S D H nm Wd c b (es ++ [(z, L, zs)]) ls (upd H' Wd (.dK (kvsOf c b (es ++ [(z, L, zs)])))) := by
  have hk : valV (kvsOf c b es) (.inr z) = none := valV_no fun h => by
    unfold kvsOf at h
    simp only [List.map_cons, List.mem_cons] at h
    apply hz
    rcases h with h | h | h
    · have h' : z = "left" := by
        injection h
      rw [h']
      exact List.mem_cons_self
    · have h' : z = "base" := by
        injection h
      rw [h']
      exact List.mem_cons_of_mem _ List.mem_cons_self
    · rw [List.map_map] at h
      obtain ⟨e, he, q⟩ := List.mem_map.mp h
      have q' : e.1 = z := by
        injection q
      exact List.mem_append_right _ (List.mem_map.mpr ⟨e, he, q'⟩)
  have hp := DPut.k (k := .inr z) (v := .ref L) x.hd (line6 (by
    unfold kvsOf
    rw [List.length_cons, List.length_cons, List.length_map]
    omega))
  rw [putK_new _ hk] at hp
  have e : kvsOf c b es ++ [(Sum.inr z, V.ref L)] = kvsOf c b (es ++ [(z, L, zs)]) := by
    unfold kvsOf
    rw [List.map_append]
    rfl
  rw [e] at hp
  refine ⟨hp, Go.mut d x.g hW, by rw [upd_ne n.symm]; exact x.hn, upd_same, fun e' he => ?_⟩
  rcases List.mem_append.mp he with h | h
  · obtain ⟨⟨h1, h2, h3, h4, h5⟩, h6⟩ := x.el e' h
    exact ⟨⟨by rw [upd_ne h3]; exact h1, h2, h3, h4, h5⟩, h6⟩
  · rw [List.mem_singleton.mp h]
    exact ⟨⟨by rw [upd_ne n2]; exact h1, n1, n2, z1, z2⟩, n3⟩
end
theorem kvs_new (c b : Int) : mergeK [] [((.inr "left" : Key), V.int c), (.inr "base", V.int b)] = kvsOf c b [] := by
  show putK (putK [] (Sum.inr "left" : Key) (V.int c)) (Sum.inr "base" : Key) (V.int b) = _
  rw [putK_new _ (valV_nil (k := (.inr "left" : Key)))]
  rw [putK_new]
  · rfl
  · show valV [((Sum.inr "left" : Key), V.int c)] (.inr "base") = none
    rw [valV_neg (key_ne (by decide +kernel))]
    exact valV_nil
section
variable {P : Program} {w : World} {K : PySem.W.Frag} {mg : Str → Option Value} {base : Heap}
theorem ok__law_world (T : Txt w K mg) (D__law_draw : Kept P w K mg base 1 "_law_draw" ["d", "many"] spDraw) (D__law_pop : Kept P w K mg base 2 "_law_pop" ["d", "row"] spPop) (D__law_pool : Kept P w K mg base 1 "_law_pool" [] spPool) {f : Addr} {fd : FuncData} (F : FnP K "_law_world" s__law_world f fd) : FnOk P w K mg base CX0 3 f fd ["d", "budget"] spWorld := by
  refine F.ok sc__law_world (fun vs H Q E h => ?_) (fun cdv A outer s H vs Q E hr h => ?_)
  · obtain ⟨S, D, c, rfl, _⟩ := h
    rfl
  · obtain ⟨S, D, c, rfl, d, q⟩ := h
    refine ⟨_, PSs.nox (pss_cons (ps_set (i := 2) sc__law_world.nd rfl (Or.inr rfl) (pe_d0 D__law_pool (hr.mono (by decide)) (by rfl)))
      (pss_cons (ps_set (i := 3) sc__law_world.nd rfl (Or.inl rfl) (pe_disp (pps_cons pe_str (pv 1) (pps_cons pe_str (pe_op op_add pe_int (pe_d D__law_draw (hr.mono (by decide)) (by rfl) (pa_cons (pv 0) (pa_cons pe_int pa_nil)))) pps_nil)) (by rfl) (by rfl) (fun z => by cases z) (by decide)))
      (pss_cons (ps_for PassesOwn.never rfl (pi_list (pe_lst (pa_cons pe_str (pa_cons pe_str (pa_cons pe_str (pa_cons pe_str (pa_cons pe_str pa_nil))))))) (pg_name (i := 4) sc__law_world.nd rfl (Or.inl rfl)) (pss_one (ps_asg (pe_lst (pa_cons (pe_d D__law_pop (hr.mono (by decide)) (by rfl) (pa_cons (pv 0) (pa_cons (pv 2) pa_nil))) pa_nil)) (pg_sub (pv 3) (pv 4) (set_dict (hu_of hr))))))
      (pss_cons (ps_asg (pe_lc (own := [("k", 5)]) (g := (gName 5)) (tt := tYes) rfl sc__law_world.nd (pi_range1 (by rfl) T.b_range (pa_cons (pe_op op_add pe_int (pe_d D__law_draw (hr.mono (by decide)) (by rfl) (pa_cons (pv 0) (pa_cons pe_int pa_nil)))) pa_nil)) (blkOk_by (N := N__law_world) (sc := defScope s__law_world) (by decide +kernel)) (fun _ _ _ _ _ => (pg_name (i := 5) sc__law_world.nd rfl (Or.inl rfl))) (fun _ _ _ _ _ => pts_nil) (fun _ _ _ _ _ => (pe_d D__law_pop (hr.mono (by decide)) (by rfl) (pa_cons (pv 0) (pa_cons (pv 2) pa_nil))))) (pg_sub (pv 3) pe_str (set_dict (hu_of hr))))
      (pss_cons (ps_asg (pe_lc (own := [("k", 5)]) (g := (gName 5)) (tt := tYes) rfl sc__law_world.nd (pi_range1 (by rfl) T.b_range (pa_cons (pe_op op_add pe_int (pe_d D__law_draw (hr.mono (by decide)) (by rfl) (pa_cons (pv 0) (pa_cons pe_int pa_nil)))) pa_nil)) (blkOk_by (N := N__law_world) (sc := defScope s__law_world) (by decide +kernel)) (fun _ _ _ _ _ => (pg_name (i := 5) sc__law_world.nd rfl (Or.inl rfl))) (fun _ _ _ _ _ => pts_nil) (fun _ _ _ _ _ => (pe_d D__law_pop (hr.mono (by decide)) (by rfl) (pa_cons (pv 0) (pa_cons (pv 2) pa_nil))))) (pg_sub (pv 3) pe_str (set_dict (hu_of hr))))
      (pss_one (ps_ret (pv 3)))))))), ?_⟩
    refine ⟨rfl, fun nm hnm => ?_⟩
    have g1 := Go.new (o := .lst (POOL.map V.str)) d hnm
    have nmD := (d.free hnm).1
    refine fun Wd hWd => ⟨_, rfl, _, rfl, S, D, 5, rfl, divW_of (by decide) (by decide), (g1.trans (Go.new (o := .dK []) g1.1 hWd)).1, fun H2 v v0 v1 g2 => ⟨_, _, rfl, rfl, ?_, [(.inr "left", .int c), (.inr "base", .int (2 + v))], rfl, by show 2 ≤ 15; decide, ?_⟩⟩
    · exact g2.2 _ _ upd_same (g1.1.free hWd).1
    have nWm : Wd ≠ nm := fun e => by
      rw [e, upd_same] at hWd
      cases hWd
    have hWd0 : H Wd = none := by
      rw [upd_ne nWm] at hWd
      exact hWd
    have WdD := (d.free hWd0).1
    rw [kvs_new]
    have x0 : WB S D H nm Wd c (2 + v) [] POOL (upd H2 Wd (.dK (kvsOf c (2 + v) []))) :=
      ⟨Go.mut d ((g1.trans (Go.new (o := .dK []) g1.1 hWd)).trans g2) hWd0, by
        rw [upd_ne nWm.symm]
        refine g2.2 _ _ ?_ nmD
        rw [upd_ne nWm.symm, upd_same], upd_same, fun e he => absurd he List.not_mem_nil⟩
    generalize upd H2 Wd (.dK (kvsOf c (2 + v) [])) = Hx at x0
    refine ⟨by show 5 ≤ sizeLine; decide, fun KL hKL => ?_⟩
    obtain ⟨kf1, kf2, kf3, kf4, kf5⟩ := x0.fresh d hKL
    refine ⟨KL, rfl, ⟨_, SqL.of upd_same⟩, for_list (K := K) (a := KL) (xs := K5.map V.str) (fun i σ H' => ∃ (y : Option V) (es : List Ent) (ls : List Str), σ = [some (.ref D), some (.int c), some (.ref nm), some (.ref Wd), y, none] ∧ WB S D H nm Wd c (2 + v) es ls H' ∧ H' KL = some (.lst (K5.map V.str)) ∧ es.map (·.1) = K5.take i ∧ ls.length + i = 60) ⟨none, [], POOL, rfl, x0.mutL d kf1 kf2 kf3 kf4, upd_same, rfl, pool_len⟩ (fun i σ H' _ ⟨_, _, _, _, _, h, _⟩ => SqL.of h) ?_ ?_⟩
    · rintro i x σ H' hi ⟨y, es, ls, rfl, x1, hKL1, ek, ll⟩
      obtain ⟨z, rfl, hz⟩ : ∃ z, x = V.str z ∧ K5[i]? = some z := by
        rw [List.getElem?_map] at hi
        cases e : K5[i]? with
        | none =>
          rw [e] at hi
          cases hi
        | some z =>
          rw [e] at hi
          exact ⟨z, (Option.some.inj hi).symm, rfl⟩
      have i5 : i < 5 := (List.getElem?_eq_some_iff.mp hz).1
      refine ⟨_, rfl, _, rfl, S, D, nm, _, rfl, x1.g.1, nmD, x1.hn, by rw [List.length_map]; omega, by rw [List.length_map]; omega, fun H5 j2 yv g5 hy => ?_⟩
      have x3 := (x1.go nmD WdD g5).pop d hnm nWm j2
      have hj2 : j2 < ls.length := by
        have := (List.getElem?_eq_some_iff.mp hy).1
        rw [List.length_map] at this
        exact this
      obtain ⟨z0, hz0⟩ : ∃ z0, yv = V.str z0 := by
        rw [List.getElem?_map, List.getElem?_eq_getElem hj2] at hy
        exact ⟨_, (Option.some.inj hy).symm⟩
      subst hz0
      have hKL5 : (upd H5 nm (.lst ((ls.map V.str).eraseIdx j2))) KL = some (.lst (K5.map V.str)) := by
        rw [upd_ne kf2]
        exact g5.2 _ _ hKL1 kf5
      refine ⟨by show 1 ≤ sizeLine; decide, fun L hL => ?_⟩
      obtain ⟨f1, f2, f3, f4, f5⟩ := x3.fresh d hL
      have x4 := x3.mutL (o := .lst [V.str z0]) d f1 f2 f3 f4
      have nLK : KL ≠ L := ne_of_none hKL5 hL
      have hzn : z ∉ (["left", "base"] : List Str) ++ es.map (·.1) := by
        rw [ek]
        have h := List.all_eq_true.mp k5_ok i (List.mem_range.mpr i5)
        have e : K5.getD i "" = z := by
          rw [List.getD_eq_getElem?_getD, hz]
          rfl
        rw [e] at h
        exact of_decide_eq_true h
      have el : es.length = i := by
        have := congrArg List.length ek
        rw [List.length_map, List.length_take] at this
        have e5 : K5.length = 5 := rfl
        omega
      obtain ⟨hput, x5⟩ := x4.add (L := L) (zs := [z0]) d hWd0 WdD nWm hzn (by omega) upd_same f5 f3 f2 (by show 0 < 1; decide) (by show 1 ≤ 6; decide)
      refine ⟨_, rfl, _, rfl, Wd, _, rfl, hput, _, _, _, rfl, x5, ?_, ?_, ?_⟩
      · rw [upd_ne kf3, upd_ne nLK]
        exact hKL5
      · rw [List.map_append, ek, List.take_add_one, hz]
        rfl
      · rw [List.length_eraseIdx_of_lt hj2]
        omega
    · rintro σ H' ⟨y, es, ls, rfl, x1, hKL1, ek, ll⟩
      have ek5 : es.map (·.1) = K5 := ek
      have el5 : es.length = 5 := by
        have := congrArg List.length ek5
        rw [List.length_map] at this
        exact this
      clear ek
      have ll5 : ls.length = 55 := by
        have e5 : (K5.map V.str).length = 5 := rfl
        omega
      refine ⟨_, rfl, S, D, 4, rfl, divW_of (by decide) (by decide), x1.g.1, fun H3 m m0 m1 g3 => ⟨_, _, rfl, rfl, _, rfl, by omega, by omega, fun L hL => lc_range (lo := 0) (n := (1 + m).toNat) (fun j H' => ∃ (zs ls : List Str), WB S D H nm Wd c (2 + v) es ls H' ∧ H' L = some (.lst (zs.map V.str)) ∧ zs.length = j ∧ ls.length + j = 55) ?_ ?_ ?_⟩⟩
      · have x1 := x1.go nmD WdD g3
        obtain ⟨f1, f2, f3, f4, f5⟩ := x1.fresh d hL
        exact ⟨[], _, x1.mutL d f1 f2 f3 f4, upd_same, rfl, by omega⟩
      · rintro j H4 hj ⟨zs, ls, x2, hzs, zl, ll⟩
        have x1 := x1.go nmD WdD g3
        obtain ⟨f1, f2, f3, f4, f5⟩ := x1.fresh d hL
        refine ⟨rfl, _, rfl, _, rfl, S, D, nm, _, rfl, x2.g.1, nmD, x2.hn, by rw [List.length_map]; omega, by rw [List.length_map]; omega, fun H5 j2 y g5 hy => ?_⟩
        have x3 := (x2.go nmD WdD g5).pop d hnm nWm j2
        have hL5 : (upd H5 nm (.lst ((ls.map V.str).eraseIdx j2))) L = some (.lst (zs.map V.str)) := by
          rw [upd_ne f2]
          exact g5.2 _ _ hzs f5
        have hj2 : j2 < ls.length := by
          have := (List.getElem?_eq_some_iff.mp hy).1
          rw [List.length_map] at this
          exact this
        obtain ⟨z0, hz0⟩ : ∃ z0, y = V.str z0 := by
          rw [List.getElem?_map, List.getElem?_eq_getElem hj2] at hy
          exact ⟨_, (Option.some.inj hy).symm⟩
        subst hz0
        refine ⟨_, hL5, line6 (by rw [List.length_map]; omega), zs ++ [z0], ls.eraseIdx j2, x3.mutL d f1 f2 f3 f4, by rw [upd_same, snoc_str], by rw [List.length_append, List.length_singleton, zl], ?_⟩
        rw [List.length_eraseIdx_of_lt hj2]
        omega
      · rintro H4 ⟨zs, ls, x2, hzs, zl, ll⟩
        have x1 := x1.go nmD WdD g3
        obtain ⟨f1, f2, f3, f4, f5⟩ := x1.fresh d hL
        obtain ⟨hput, x3⟩ := x2.add (z := "store") d hWd0 WdD nWm (by rw [ek5]; decide +kernel) (by omega) hzs f5 f3 f2 (by omega) (by omega)
        refine ⟨_, rfl, Wd, _, rfl, hput, ?_⟩
        generalize (upd H4 Wd (.dK (kvsOf c (2 + v) (es ++ [(("store" : Str), L, zs)])))) = Hy at x3
        generalize hes : es ++ [(("store" : Str), L, zs)] = es2 at x3
        have ek6 : es2.map (·.1) = K5 ++ [("store" : Str)] := by rw [← hes, List.map_append, ek5]; rfl
        have el6 : es2.length = 6 := by
          have := congrArg List.length ek6
          rw [List.length_map] at this
          exact this
        have ll6 : ls.length ≤ 54 ∧ 51 ≤ ls.length := by omega
        clear hes hput f1 f2 f3 f4 f5 x1 x2 hzs
        refine ⟨_, rfl, S, D, 6, rfl, divW_of (by decide) (by decide), x3.g.1, fun H3 m m0 m1 g3 => ⟨_, _, rfl, rfl, _, rfl, by omega, by omega, fun L hL => lc_range (lo := 0) (n := (1 + m).toNat) (fun j H' => ∃ (zs ls' : List Str), WB S D H nm Wd c (2 + v) es2 ls' H' ∧ H' L = some (.lst (zs.map V.str)) ∧ zs.length = j ∧ ls'.length + j = ls.length) ?_ ?_ ?_⟩⟩
        · have x1 := x3.go nmD WdD g3
          obtain ⟨f1, f2, f3, f4, f5⟩ := x1.fresh d hL
          exact ⟨[], _, x1.mutL d f1 f2 f3 f4, upd_same, rfl, by omega⟩
        · rintro j H4 hj ⟨zs, ls', x2, hzs, zl, ll⟩
          have x1 := x3.go nmD WdD g3
          obtain ⟨f1, f2, f3, f4, f5⟩ := x1.fresh d hL
          refine ⟨rfl, _, rfl, _, rfl, S, D, nm, _, rfl, x2.g.1, nmD, x2.hn, by rw [List.length_map]; omega, by rw [List.length_map]; omega, fun H5 j2 y g5 hy => ?_⟩
          have x9 := (x2.go nmD WdD g5).pop d hnm nWm j2
          have hL6 : (upd H5 nm (.lst ((ls'.map V.str).eraseIdx j2))) L = some (.lst (zs.map V.str)) := by
            rw [upd_ne f2]
            exact g5.2 _ _ hzs f5
          have hj2 : j2 < ls'.length := by
            have := (List.getElem?_eq_some_iff.mp hy).1
            rw [List.length_map] at this
            exact this
          obtain ⟨z0, hz0⟩ : ∃ z0, y = V.str z0 := by
            rw [List.getElem?_map, List.getElem?_eq_getElem hj2] at hy
            exact ⟨_, (Option.some.inj hy).symm⟩
          subst hz0
          refine ⟨_, hL6, line6 (by rw [List.length_map]; omega), zs ++ [z0], ls'.eraseIdx j2, x9.mutL d f1 f2 f3 f4, by rw [upd_same, snoc_str], by rw [List.length_append, List.length_singleton, zl], ?_⟩
          rw [List.length_eraseIdx_of_lt hj2]
          omega
        · rintro H4 ⟨zs, ls', x2, hzs, zl, ll⟩
          have x1 := x3.go nmD WdD g3
          obtain ⟨f1, f2, f3, f4, f5⟩ := x1.fresh d hL
          obtain ⟨hput, x9⟩ := x2.add (z := "process") d hWd0 WdD nWm (by rw [ek6]; decide +kernel) (by omega) hzs f5 f3 f2 (by omega) (by omega)
          refine ⟨_, rfl, Wd, _, rfl, hput, ?_⟩
          have ek7 : (es2 ++ [(("process" : Str), L, zs)]).map (·.1) = ALLK := by rw [List.map_append, ek6]; rfl
          exact ⟨_, rfl, q _ Wd ⟨2 + v, es2 ++ [(("process" : Str), L, zs)]⟩ x9.g hWd0 ⟨⟨x9.g.1, (d.free hWd0).2, ⟨_, x9.hd, nt_dk _⟩⟩, WdD, x9.hd, ⟨by show 2 ≤ 2 + v; omega, by show 2 + v ≤ 6; omega⟩, ek7, fun e he => (x9.el e he).1⟩⟩
end
end Mt
namespace Mt
open PySem PySem.Spec PyProof.Rows L2
theorem cutV_len (xs : List V) (lo hi : Option Int) : (cutV xs lo hi).length ≤ xs.length := by
  unfold cutV
  rw [List.length_take, List.length_drop]
  omega
theorem cutV_mem {xs : List V} {lo hi : Option Int} {x : V} (h : x ∈ cutV xs lo hi) : x ∈ xs := by
  unfold cutV at h
  exact List.mem_of_mem_drop (List.mem_of_mem_take h)
def spLeaf (K : PySem.W.Frag) : Sp := fun vs H Q _ => ∃ (S D Wd : Addr) (k : WK) (c : Int) (wd : Str), vs = [.ref D, .ref Wd, .str wd] ∧ wd ∈ LEAF ∧ WSt S D Wd k c H ∧
  ∀ (H' : Hp) (v : V) (as : List LD), Go S D H H' → as.length ≤ 2 → Dp K H' v (.tuple (.str wd :: as.map Subtype.val)) → Q v H'
section
variable {P : Program} {w : World} {K : PySem.W.Frag} {mg : Str → Option Value} {base : Heap}
theorem ok_leaf (T : Txt w K mg) (D__law_draw : Kept P w K mg base 1 "_law_draw" ["d", "many"] spDraw) (D__law_pick : Kept P w K mg base 2 "_law_pick" ["d", "row"] (spPick K)) (D__law_shuffled : Kept P w K mg base 2 "_law_shuffled" ["d", "row"] (spShuf K))
    {f : Addr} {fd : FuncData} (F : FnP K "_law_leaf" s__law_leaf f fd) : FnOk P w K mg base CX0 3 f fd ["d", "world", "word"] (spLeaf K) := by
  refine F.ok sc__law_leaf (fun vs H Q E h => ?_) (fun cdv A outer s H vs Q E hr h => ?_)
  · obtain ⟨S, D, Wd, k, c, wd, rfl, _⟩ := h
    rfl
  · obtain ⟨S, D, Wd, k, c, wd, rfl, hw, ws, q⟩ := h
    refine ⟨_, PSs.nox (pss_cons (ps_if (pt_cmpR op_eq (pv 2) pe_str (nomark _)) (pss_one (ps_ret (pe_tup (pa_cons (pv 2) (pa_cons (pe_op op_add pe_int (pe_d D__law_draw (hr.mono (by decide)) (by rfl) (pa_cons (pv 0) (pa_cons pe_int pa_nil)))) pa_nil))))) pss_nil)
      (pss_cons (ps_if (pt_cmpR op_in_seq (pv 2) (pe_tup (pa_cons pe_str (pa_cons pe_str pa_nil))) (by rfl)) (pss_cons (ps_set (i := 3) sc__law_leaf.nd rfl (Or.inl rfl) (pe_d D__law_shuffled (hr.mono (by decide)) (by rfl) (pa_cons (pv 0) (pa_cons (pe_dget (hu_of hr) (pv 1) pe_str (fun _ _ => rfl)) pa_nil))))
      (pss_cons (ps_set (i := 4) sc__law_leaf.nd rfl (Or.inl rfl) (pe_lst pa_nil))
      (pss_cons (ps_for PassesOwn.never rfl (pi_list (pe_slice sl_list (pv 3) po_none (po_some (pe_op op_add pe_int (pe_d D__law_draw (hr.mono (by decide)) (by rfl) (pa_cons (pv 0) (pa_cons (pe_callB call_len (by rfl) T.b_len (by decide +kernel) (pa_cons (pv 3) pa_nil)) pa_nil))))))) (pg_name (i := 5) sc__law_leaf.nd rfl (Or.inl rfl)) (pss_one (ps_expr (pe_bm PySem.F.plainAttrs_list PySem.F.slot_list_append PySem.F.type_list_append mt_append (pv 4) (pa_cons (pe_tup (pa_cons (pv 5) (pa_cons (pe_op op_add pe_int (pe_d D__law_draw (hr.mono (by decide)) (by rfl) (pa_cons (pv 0) (pa_cons pe_int pa_nil)))) pa_nil))) pa_nil)))))
      (pss_one (ps_ret (pe_tup (pa_cons (pv 2) (pa_cons (pe_callTy call_tuple_of (by rfl) T.b_tuple (by decide +kernel) (pa_cons (pv 4) pa_nil)) pa_nil)))))))) pss_nil)
      (pss_cons (ps_if (pt_cmpR op_in_seq (pv 2) (pe_tup (pa_cons pe_str (pa_cons pe_str pa_nil))) (by rfl)) (pss_one (ps_ret (pe_tup (pa_cons (pv 2) (pa_cons (pe_d D__law_pick (hr.mono (by decide)) (by rfl) (pa_cons (pv 0) (pa_cons (pe_dget (hu_of hr) (pv 1) pe_str (fun _ _ => rfl)) pa_nil))) (pa_cons (pe_op op_add pe_int (pe_d D__law_draw (hr.mono (by decide)) (by rfl) (pa_cons (pv 0) (pa_cons pe_int pa_nil)))) pa_nil)))))) pss_nil)
      (pss_cons (ps_if (pt_cmpR op_in_seq (pv 2) (pe_tup (pa_cons pe_str (pa_cons pe_str pa_nil))) (by rfl)) (pss_one (ps_ret (pe_tup (pa_cons (pv 2) (pa_cons (pe_d D__law_pick (hr.mono (by decide)) (by rfl) (pa_cons (pv 0) (pa_cons (pe_dget (hu_of hr) (pv 1) pe_str (fun _ _ => rfl)) pa_nil))) pa_nil))))) pss_nil)
      (pss_cons (ps_if (pt_cmpR op_eq (pv 2) pe_str (nomark _)) (pss_one (ps_ret (pe_tup (pa_cons (pv 2) (pa_cons (pe_d D__law_pick (hr.mono (by decide)) (by rfl) (pa_cons (pv 0) (pa_cons (pe_dget (hu_of hr) (pv 1) pe_str (fun _ _ => rfl)) pa_nil))) pa_nil))))) pss_nil)
      (pss_cons (ps_if (pt_cmpR op_eq (pv 2) pe_str (nomark _)) (pss_one (ps_ret (pe_tup (pa_cons (pv 2) (pa_cons (pe_d D__law_pick (hr.mono (by decide)) (by rfl) (pa_cons (pv 0) (pa_cons (pe_op op_cat (pe_dget (hu_of hr) (pv 1) pe_str (fun _ _ => rfl)) (pe_dget (hu_of hr) (pv 1) pe_str (fun _ _ => rfl))) pa_nil))) pa_nil))))) pss_nil)
      (pss_one (ps_ret (pe_tup (pa_cons (pv 2) pa_nil)))))))))), ?_⟩
    have hw2 : wd ∈ (["hold", "stop", "end", "mark", "add", "drop", "put", "take", "load", "unload", "interrupt"] : List Str) := hw
    simp only [List.mem_cons, List.not_mem_nil, or_false] at hw2
    rcases hw2 with h | h | h | h | h | h | h | h | h | h | h
    · subst h
      have g0 := Go.refl ws.st.dr
      refine ⟨_, rfl, rfl, _, rfl, ?_⟩
      refine ite2 (fun _ => ?_) (fun e => absurd (by decide +kernel) e)
      exact ⟨_, rfl, _, rfl, S, D, 9, rfl, divW_of (by decide) (by decide), ws.st.dr, fun H1 v v0 v1 h1 => ⟨_, _, rfl, rfl, by show 2 ≤ sizeLine; decide, fun p hp => q _ _ [⟨.int (1 + v), rfl⟩] ((g0.trans h1).trans (Go.new h1.1 hp)) (Nat.le_of_ble_eq_true rfl) (.tup (SqT.of upd_same) (.cons (.str _) (.cons (.int _) .nil)))⟩⟩
    · subst h
      have g0 := Go.refl ws.st.dr
      refine ⟨_, rfl, rfl, _, rfl, ?_⟩
      refine ite2 (fun e => absurd e (by decide +kernel)) (fun _ => ?_)
      refine ⟨_, rfl, by show 2 ≤ sizeLine; decide, fun p1 hp1 => ⟨p1, _, rfl, .inr (SqT.of upd_same), rfl, by rfl, _, rfl, ?_⟩⟩
      have ws1 := ws.new (o := .tup [V.str "put", .str "take"]) hp1
      have g1 := g0.trans (Go.new (o := .tup [V.str "put", .str "take"]) g0.1 hp1)
      refine ite2 (fun e => absurd e (by decide +kernel)) (fun _ => ?_)
      refine ⟨_, rfl, by show 2 ≤ sizeLine; decide, fun p2 hp2 => ⟨p2, _, rfl, .inr (SqT.of upd_same), rfl, by rfl, _, rfl, ?_⟩⟩
      have ws2 := ws1.new (o := .tup [V.str "add", .str "drop"]) hp2
      have g2 := g1.trans (Go.new (o := .tup [V.str "add", .str "drop"]) g1.1 hp2)
      refine ite2 (fun e => absurd e (by decide +kernel)) (fun _ => ?_)
      refine ⟨_, rfl, by show 2 ≤ sizeLine; decide, fun p3 hp3 => ⟨p3, _, rfl, .inr (SqT.of upd_same), rfl, by rfl, _, rfl, ?_⟩⟩
      have ws3 := ws2.new (o := .tup [V.str "load", .str "unload"]) hp3
      have g3 := g2.trans (Go.new (o := .tup [V.str "load", .str "unload"]) g2.1 hp3)
      refine ite2 (fun e => absurd e (by decide +kernel)) (fun _ => ?_)
      refine ⟨_, rfl, rfl, _, rfl, ?_⟩
      refine ite2 (fun e => absurd e (by decide +kernel)) (fun _ => ?_)
      refine ⟨_, rfl, rfl, _, rfl, ?_⟩
      refine ite2 (fun e => absurd e (by decide +kernel)) (fun _ => ?_)
      exact ⟨_, rfl, by show 1 ≤ sizeLine; decide, fun p hp => q _ _ [] (g3.trans (Go.new g3.1 hp)) (Nat.le_of_ble_eq_true rfl) (.tup (SqT.of upd_same) (.cons (.str _) .nil))⟩
    · subst h
      have g0 := Go.refl ws.st.dr
      refine ⟨_, rfl, rfl, _, rfl, ?_⟩
      refine ite2 (fun e => absurd e (by decide +kernel)) (fun _ => ?_)
      refine ⟨_, rfl, by show 2 ≤ sizeLine; decide, fun p1 hp1 => ⟨p1, _, rfl, .inr (SqT.of upd_same), rfl, by rfl, _, rfl, ?_⟩⟩
      have ws1 := ws.new (o := .tup [V.str "put", .str "take"]) hp1
      have g1 := g0.trans (Go.new (o := .tup [V.str "put", .str "take"]) g0.1 hp1)
      refine ite2 (fun e => absurd e (by decide +kernel)) (fun _ => ?_)
      refine ⟨_, rfl, by show 2 ≤ sizeLine; decide, fun p2 hp2 => ⟨p2, _, rfl, .inr (SqT.of upd_same), rfl, by rfl, _, rfl, ?_⟩⟩
      have ws2 := ws1.new (o := .tup [V.str "add", .str "drop"]) hp2
      have g2 := g1.trans (Go.new (o := .tup [V.str "add", .str "drop"]) g1.1 hp2)
      refine ite2 (fun e => absurd e (by decide +kernel)) (fun _ => ?_)
      refine ⟨_, rfl, by show 2 ≤ sizeLine; decide, fun p3 hp3 => ⟨p3, _, rfl, .inr (SqT.of upd_same), rfl, by rfl, _, rfl, ?_⟩⟩
      have ws3 := ws2.new (o := .tup [V.str "load", .str "unload"]) hp3
      have g3 := g2.trans (Go.new (o := .tup [V.str "load", .str "unload"]) g2.1 hp3)
      refine ite2 (fun e => absurd e (by decide +kernel)) (fun _ => ?_)
      refine ⟨_, rfl, rfl, _, rfl, ?_⟩
      refine ite2 (fun e => absurd e (by decide +kernel)) (fun _ => ?_)
      refine ⟨_, rfl, rfl, _, rfl, ?_⟩
      refine ite2 (fun e => absurd e (by decide +kernel)) (fun _ => ?_)
      exact ⟨_, rfl, by show 1 ≤ sizeLine; decide, fun p hp => q _ _ [] (g3.trans (Go.new g3.1 hp)) (Nat.le_of_ble_eq_true rfl) (.tup (SqT.of upd_same) (.cons (.str _) .nil))⟩
    · subst h
      have g0 := Go.refl ws.st.dr
      refine ⟨_, rfl, rfl, _, rfl, ?_⟩
      refine ite2 (fun e => absurd e (by decide +kernel)) (fun _ => ?_)
      refine ⟨_, rfl, by show 2 ≤ sizeLine; decide, fun p1 hp1 => ⟨p1, _, rfl, .inr (SqT.of upd_same), rfl, by rfl, _, rfl, ?_⟩⟩
      have ws1 := ws.new (o := .tup [V.str "put", .str "take"]) hp1
      have g1 := g0.trans (Go.new (o := .tup [V.str "put", .str "take"]) g0.1 hp1)
      refine ite2 (fun e => absurd e (by decide +kernel)) (fun _ => ?_)
      refine ⟨_, rfl, by show 2 ≤ sizeLine; decide, fun p2 hp2 => ⟨p2, _, rfl, .inr (SqT.of upd_same), rfl, by rfl, _, rfl, ?_⟩⟩
      have ws2 := ws1.new (o := .tup [V.str "add", .str "drop"]) hp2
      have g2 := g1.trans (Go.new (o := .tup [V.str "add", .str "drop"]) g1.1 hp2)
      refine ite2 (fun e => absurd e (by decide +kernel)) (fun _ => ?_)
      refine ⟨_, rfl, by show 2 ≤ sizeLine; decide, fun p3 hp3 => ⟨p3, _, rfl, .inr (SqT.of upd_same), rfl, by rfl, _, rfl, ?_⟩⟩
      have ws3 := ws2.new (o := .tup [V.str "load", .str "unload"]) hp3
      have g3 := g2.trans (Go.new (o := .tup [V.str "load", .str "unload"]) g2.1 hp3)
      refine ite2 (fun e => absurd e (by decide +kernel)) (fun _ => ?_)
      refine ⟨_, rfl, rfl, _, rfl, ?_⟩
      refine ite2 (fun e => absurd e (by decide +kernel)) (fun _ => ?_)
      refine ⟨_, rfl, rfl, _, rfl, ?_⟩
      refine ite2 (fun _ => ?_) (fun e => absurd (by decide +kernel) e)
      obtain ⟨a, ns, hget, hl, aD, aW, l0, l1⟩ := ws3.get (z := "mark") (by decide +kernel)
      obtain ⟨b, ms, hget2, hl2, bD, bW, k0, k1⟩ := ws3.get (z := "stream") (by decide +kernel)
      refine ⟨_, rfl, _, rfl, _, rfl, Wd, _, rfl, hget, _, rfl, Wd, _, rfl, hget2, a, b, _, _, rfl, rfl, hl, hl2, line5 (by rw [List.length_map, List.length_map]; omega), fun L hL => ?_⟩
      have wsL := ws3.new (o := .lst (ns.map V.str ++ ms.map V.str)) hL
      have gL := g3.trans (Go.new (o := .lst (ns.map V.str ++ ms.map V.str)) g3.1 hL)
      have LD := (ws3.st.free hL).1
      refine ⟨S, D, .ref L, _, rfl, wsL.st.dr, fun H' g => .inr ⟨L, rfl, SqL.of (g.2 _ _ upd_same LD)⟩, by rw [List.length_append, List.length_map]; omega, by rw [List.length_append, List.length_map, List.length_map]; omega, fun H1 x hx h1 => ?_⟩
      obtain ⟨z, rfl⟩ : ∃ z, x = V.str z := by
        rcases List.mem_append.mp hx with h | h
        · obtain ⟨z, _, e⟩ := List.mem_map.mp h
          exact ⟨z, e.symm⟩
        · obtain ⟨z, _, e⟩ := List.mem_map.mp h
          exact ⟨z, e.symm⟩
      exact ⟨by show 2 ≤ sizeLine; decide, fun p hp => q _ _ [⟨.str z, rfl⟩] ((gL.trans h1).trans (Go.new h1.1 hp)) (Nat.le_of_ble_eq_true rfl) (.tup (SqT.of upd_same) (.cons (.str _) (.cons (.str _) .nil)))⟩
    · subst h
      have g0 := Go.refl ws.st.dr
      refine ⟨_, rfl, rfl, _, rfl, ?_⟩
      refine ite2 (fun e => absurd e (by decide +kernel)) (fun _ => ?_)
      refine ⟨_, rfl, by show 2 ≤ sizeLine; decide, fun p1 hp1 => ⟨p1, _, rfl, .inr (SqT.of upd_same), rfl, by rfl, _, rfl, ?_⟩⟩
      have ws1 := ws.new (o := .tup [V.str "put", .str "take"]) hp1
      have g1 := g0.trans (Go.new (o := .tup [V.str "put", .str "take"]) g0.1 hp1)
      refine ite2 (fun e => absurd e (by decide +kernel)) (fun _ => ?_)
      refine ⟨_, rfl, by show 2 ≤ sizeLine; decide, fun p2 hp2 => ⟨p2, _, rfl, .inr (SqT.of upd_same), rfl, by rfl, _, rfl, ?_⟩⟩
      have ws2 := ws1.new (o := .tup [V.str "add", .str "drop"]) hp2
      have g2 := g1.trans (Go.new (o := .tup [V.str "add", .str "drop"]) g1.1 hp2)
      refine ite2 (fun _ => ?_) (fun e => absurd (by decide +kernel) e)
      obtain ⟨a, ns, hget, hl, aD, aW, l0, l1⟩ := ws2.get (z := "counter") (by decide +kernel)
      refine ⟨_, rfl, _, rfl, _, rfl, Wd, _, rfl, hget, S, D, .ref a, ns.map V.str, rfl, ws2.st.dr, fun H' g => .inr ⟨a, rfl, SqL.of (g.2 _ _ hl aD)⟩, by rw [List.length_map]; exact l0, by rw [List.length_map]; omega, fun H1 x hx h1 => ?_⟩
      obtain ⟨z, _, rfl⟩ := List.mem_map.mp hx
      exact ⟨_, rfl, S, D, 9, rfl, divW_of (by decide) (by decide), h1.1, fun H2 v v0 v1 h2 => ⟨_, _, rfl, rfl, by show 3 ≤ sizeLine; decide, fun p hp => q _ _ [⟨.str z, rfl⟩, ⟨.int (1 + v), rfl⟩] (((g2.trans h1).trans h2).trans (Go.new h2.1 hp)) (Nat.le_of_ble_eq_true rfl) (.tup (SqT.of upd_same) (.cons (.str _) (.cons (.str _) (.cons (.int _) .nil))))⟩⟩
    · subst h
      have g0 := Go.refl ws.st.dr
      refine ⟨_, rfl, rfl, _, rfl, ?_⟩
      refine ite2 (fun e => absurd e (by decide +kernel)) (fun _ => ?_)
      refine ⟨_, rfl, by show 2 ≤ sizeLine; decide, fun p1 hp1 => ⟨p1, _, rfl, .inr (SqT.of upd_same), rfl, by rfl, _, rfl, ?_⟩⟩
      have ws1 := ws.new (o := .tup [V.str "put", .str "take"]) hp1
      have g1 := g0.trans (Go.new (o := .tup [V.str "put", .str "take"]) g0.1 hp1)
      refine ite2 (fun e => absurd e (by decide +kernel)) (fun _ => ?_)
      refine ⟨_, rfl, by show 2 ≤ sizeLine; decide, fun p2 hp2 => ⟨p2, _, rfl, .inr (SqT.of upd_same), rfl, by rfl, _, rfl, ?_⟩⟩
      have ws2 := ws1.new (o := .tup [V.str "add", .str "drop"]) hp2
      have g2 := g1.trans (Go.new (o := .tup [V.str "add", .str "drop"]) g1.1 hp2)
      refine ite2 (fun _ => ?_) (fun e => absurd (by decide +kernel) e)
      obtain ⟨a, ns, hget, hl, aD, aW, l0, l1⟩ := ws2.get (z := "counter") (by decide +kernel)
      refine ⟨_, rfl, _, rfl, _, rfl, Wd, _, rfl, hget, S, D, .ref a, ns.map V.str, rfl, ws2.st.dr, fun H' g => .inr ⟨a, rfl, SqL.of (g.2 _ _ hl aD)⟩, by rw [List.length_map]; exact l0, by rw [List.length_map]; omega, fun H1 x hx h1 => ?_⟩
      obtain ⟨z, _, rfl⟩ := List.mem_map.mp hx
      exact ⟨_, rfl, S, D, 9, rfl, divW_of (by decide) (by decide), h1.1, fun H2 v v0 v1 h2 => ⟨_, _, rfl, rfl, by show 3 ≤ sizeLine; decide, fun p hp => q _ _ [⟨.str z, rfl⟩, ⟨.int (1 + v), rfl⟩] (((g2.trans h1).trans h2).trans (Go.new h2.1 hp)) (Nat.le_of_ble_eq_true rfl) (.tup (SqT.of upd_same) (.cons (.str _) (.cons (.str _) (.cons (.int _) .nil))))⟩⟩
    · subst h
      have g0 := Go.refl ws.st.dr
      refine ⟨_, rfl, rfl, _, rfl, ?_⟩
      refine ite2 (fun e => absurd e (by decide +kernel)) (fun _ => ?_)
      refine ⟨_, rfl, by show 2 ≤ sizeLine; decide, fun p1 hp1 => ⟨p1, _, rfl, .inr (SqT.of upd_same), rfl, by rfl, _, rfl, ?_⟩⟩
      have ws1 := ws.new (o := .tup [V.str "put", .str "take"]) hp1
      have g1 := g0.trans (Go.new (o := .tup [V.str "put", .str "take"]) g0.1 hp1)
      refine ite2 (fun _ => ?_) (fun e => absurd (by decide +kernel) e)
      obtain ⟨a, ns, hget, hl, aD, aW, l0, l1⟩ := ws1.get (z := "store") (by decide +kernel)
      refine ⟨_, rfl, _, rfl, Wd, _, rfl, hget, S, D, a, _, rfl, ws1.st.dr, SqL.of hl, by rw [List.length_map]; omega, fun H1 qa ys h1 hq0 hq yl ym => ?_⟩
      refine ⟨Nat.zero_le _, fun L hL => ?_⟩
      rw [List.length_map] at yl
      have nqL : qa ≠ L := ne_of_none hq hL
      have c1 := h1.trans (Go.new (o := .lst []) h1.1 hL)
      have hqa : (upd H1 L (.lst [])) qa = some (.lst ys) := by
        rw [upd_ne nqL]
        exact hq
      have LD0 := (h1.1.free hL).1
      have qD := (h1.1.free (show H1 L = none from hL)).1
      have nqD : qa ≠ D := fun e => by
        rw [e] at hq0
        obtain ⟨_, _, _, _, hD⟩ := ws1.st.dr.at_
        rw [hD] at hq0
        cases hq0
      refine ⟨_, rfl, _, rfl, _, rfl, _, _, rfl, .inl ⟨_, SqL.of hqa, rfl⟩, S, D, _, rfl, divW_of (by omega) (by omega), c1.1, fun H2 v v0 v1 h2 => ⟨_, _, rfl, rfl, _, rfl, qa, ys, rfl, SqL.of (h2.2 _ _ hqa nqD), fun pc hpc => ?_⟩⟩
      have c2 := c1.trans h2
      have hL2 : H2 L = some (.lst []) := h2.2 _ _ upd_same LD0
      have nLc : L ≠ pc := ne_of_none hL2 hpc
      have c3 := c2.trans (Go.new (o := .lst (cutV ys none (some (1 + v)))) c2.1 hpc)
      have pcD := (c2.1.free hpc).1
      have cl : (cutV ys none (some (1 + v))).length ≤ 6 := Nat.le_trans (cutV_len _ _ _) (by omega)
      have st1 := StF.of_draw h1.1
      have bl0 : BL K S D D L H1 (upd H2 pc (.lst (cutV ys none (some (1 + v))))) (Subtype.val (p := fun d => noL d = true)) [] :=
        (BL.nil (K := K) st1 hL).go st1 hL (fun a => a.2) (GoL.of_go (StF.of_draw c1.1) (h2.trans (Go.new h2.1 hpc)))
      refine ⟨pc, rfl, ⟨_, SqL.of upd_same⟩, for_list (K := K) (a := pc) (xs := cutV ys none (some (1 + v))) (fun i σ H' => ∃ (y : Option V) (l : List LD), σ = [some (.ref D), some (.ref Wd), some (.str "put"), some (.ref qa), some (.ref L), y] ∧ BL K S D D L H1 H' (Subtype.val (p := fun d => noL d = true)) l ∧ H' pc = some (.lst (cutV ys none (some (1 + v)))) ∧ l.length = i) ⟨none, [], rfl, bl0, upd_same, rfl⟩ (fun i σ H' _ ⟨_, _, _, _, h, _⟩ => SqL.of h) ?_ ?_⟩
      · rintro i x σ H3 hi ⟨y, l, rfl, bl, hpc3, ll⟩
        have hi6 := (List.getElem?_eq_some_iff.mp hi).1
        obtain ⟨z, _, rfl⟩ := List.mem_map.mp (ym x (cutV_mem (List.mem_of_getElem? hi)))
        obtain ⟨zs0, hz0, _, _⟩ := bl.len
        refine ⟨_, rfl, .inl ⟨rfl, _, SqL.of hz0⟩, _, rfl, _, rfl, S, D, 9, rfl, divW_of (by decide) (by decide), bl.g.1.dr, fun H4 v2 v20 v21 h4 => ⟨_, _, rfl, rfl, by show 2 ≤ sizeLine; decide, fun pt hpt => ?_⟩⟩
        have bl4 := (bl.go st1 hL (fun a => a.2) (GoL.of_go bl.g.1 (h4.trans (Go.new (o := .tup [V.str z, .int (1 + v2)]) h4.1 hpt))))
        obtain ⟨zs, hz1, hz2, hz3⟩ := bl4.len
        refine ⟨L, zs, _, rfl, rfl, hz1, line6 (by omega), _, l ++ [⟨.tuple [.str z, .int (1 + v2)], rfl⟩], rfl, BL.add st1 hL (fun a => a.2) bl4.g hz1 hz2 (.tup (SqT.of upd_same) (.cons (.str _) (.cons (.int _) .nil))), ?_, by rw [List.length_append, List.length_singleton, ll]⟩
        rw [upd_ne nLc.symm]
        exact (h4.trans (Go.new h4.1 hpt)).2 _ _ hpc3 pcD
      · rintro σ H3 ⟨y, l, rfl, bl, hpc3, ll⟩
        obtain ⟨zs, hz1, hz2, hz3⟩ := bl.len
        refine ⟨_, rfl, _, rfl, L, zs, rfl, .inl ⟨SqL.of hz1, fun lt hlt => ⟨by show 2 ≤ sizeLine; decide, fun p hp => ?_⟩⟩⟩
        have d1 := (g1.trans h1).trans bl.g.to_go
        have d2 := d1.trans (Go.new (o := .tup zs) d1.1 hlt)
        have k2 := keepT_new (o := .tup zs) hlt
        have k3 := keepT_new (o := .tup [V.str "put", .ref lt]) hp
        exact q _ _ [⟨.tuple (l.map Subtype.val), noLs_of (fun a => a.2) l⟩] (d2.trans (Go.new d2.1 hp)) (Nat.le_of_ble_eq_true rfl) (.tup (SqT.of upd_same) (.cons (.str _) (.cons (.tup (sqt_keep k3 (SqT.of upd_same)) (dpA_keep (k2.trans k3) _ _ (noLs_of (fun a => a.2) l) hz2)) .nil)))
    · subst h
      have g0 := Go.refl ws.st.dr
      refine ⟨_, rfl, rfl, _, rfl, ?_⟩
      refine ite2 (fun e => absurd e (by decide +kernel)) (fun _ => ?_)
      refine ⟨_, rfl, by show 2 ≤ sizeLine; decide, fun p1 hp1 => ⟨p1, _, rfl, .inr (SqT.of upd_same), rfl, by rfl, _, rfl, ?_⟩⟩
      have ws1 := ws.new (o := .tup [V.str "put", .str "take"]) hp1
      have g1 := g0.trans (Go.new (o := .tup [V.str "put", .str "take"]) g0.1 hp1)
      refine ite2 (fun _ => ?_) (fun e => absurd (by decide +kernel) e)
      obtain ⟨a, ns, hget, hl, aD, aW, l0, l1⟩ := ws1.get (z := "store") (by decide +kernel)
      refine ⟨_, rfl, _, rfl, Wd, _, rfl, hget, S, D, a, _, rfl, ws1.st.dr, SqL.of hl, by rw [List.length_map]; omega, fun H1 qa ys h1 hq0 hq yl ym => ?_⟩
      refine ⟨Nat.zero_le _, fun L hL => ?_⟩
      rw [List.length_map] at yl
      have nqL : qa ≠ L := ne_of_none hq hL
      have c1 := h1.trans (Go.new (o := .lst []) h1.1 hL)
      have hqa : (upd H1 L (.lst [])) qa = some (.lst ys) := by
        rw [upd_ne nqL]
        exact hq
      have LD0 := (h1.1.free hL).1
      have qD := (h1.1.free (show H1 L = none from hL)).1
      have nqD : qa ≠ D := fun e => by
        rw [e] at hq0
        obtain ⟨_, _, _, _, hD⟩ := ws1.st.dr.at_
        rw [hD] at hq0
        cases hq0
      refine ⟨_, rfl, _, rfl, _, rfl, _, _, rfl, .inl ⟨_, SqL.of hqa, rfl⟩, S, D, _, rfl, divW_of (by omega) (by omega), c1.1, fun H2 v v0 v1 h2 => ⟨_, _, rfl, rfl, _, rfl, qa, ys, rfl, SqL.of (h2.2 _ _ hqa nqD), fun pc hpc => ?_⟩⟩
      have c2 := c1.trans h2
      have hL2 : H2 L = some (.lst []) := h2.2 _ _ upd_same LD0
      have nLc : L ≠ pc := ne_of_none hL2 hpc
      have c3 := c2.trans (Go.new (o := .lst (cutV ys none (some (1 + v)))) c2.1 hpc)
      have pcD := (c2.1.free hpc).1
      have cl : (cutV ys none (some (1 + v))).length ≤ 6 := Nat.le_trans (cutV_len _ _ _) (by omega)
      have st1 := StF.of_draw h1.1
      have bl0 : BL K S D D L H1 (upd H2 pc (.lst (cutV ys none (some (1 + v))))) (Subtype.val (p := fun d => noL d = true)) [] :=
        (BL.nil (K := K) st1 hL).go st1 hL (fun a => a.2) (GoL.of_go (StF.of_draw c1.1) (h2.trans (Go.new h2.1 hpc)))
      refine ⟨pc, rfl, ⟨_, SqL.of upd_same⟩, for_list (K := K) (a := pc) (xs := cutV ys none (some (1 + v))) (fun i σ H' => ∃ (y : Option V) (l : List LD), σ = [some (.ref D), some (.ref Wd), some (.str "take"), some (.ref qa), some (.ref L), y] ∧ BL K S D D L H1 H' (Subtype.val (p := fun d => noL d = true)) l ∧ H' pc = some (.lst (cutV ys none (some (1 + v)))) ∧ l.length = i) ⟨none, [], rfl, bl0, upd_same, rfl⟩ (fun i σ H' _ ⟨_, _, _, _, h, _⟩ => SqL.of h) ?_ ?_⟩
      · rintro i x σ H3 hi ⟨y, l, rfl, bl, hpc3, ll⟩
        have hi6 := (List.getElem?_eq_some_iff.mp hi).1
        obtain ⟨z, _, rfl⟩ := List.mem_map.mp (ym x (cutV_mem (List.mem_of_getElem? hi)))
        obtain ⟨zs0, hz0, _, _⟩ := bl.len
        refine ⟨_, rfl, .inl ⟨rfl, _, SqL.of hz0⟩, _, rfl, _, rfl, S, D, 9, rfl, divW_of (by decide) (by decide), bl.g.1.dr, fun H4 v2 v20 v21 h4 => ⟨_, _, rfl, rfl, by show 2 ≤ sizeLine; decide, fun pt hpt => ?_⟩⟩
        have bl4 := (bl.go st1 hL (fun a => a.2) (GoL.of_go bl.g.1 (h4.trans (Go.new (o := .tup [V.str z, .int (1 + v2)]) h4.1 hpt))))
        obtain ⟨zs, hz1, hz2, hz3⟩ := bl4.len
        refine ⟨L, zs, _, rfl, rfl, hz1, line6 (by omega), _, l ++ [⟨.tuple [.str z, .int (1 + v2)], rfl⟩], rfl, BL.add st1 hL (fun a => a.2) bl4.g hz1 hz2 (.tup (SqT.of upd_same) (.cons (.str _) (.cons (.int _) .nil))), ?_, by rw [List.length_append, List.length_singleton, ll]⟩
        rw [upd_ne nLc.symm]
        exact (h4.trans (Go.new h4.1 hpt)).2 _ _ hpc3 pcD
      · rintro σ H3 ⟨y, l, rfl, bl, hpc3, ll⟩
        obtain ⟨zs, hz1, hz2, hz3⟩ := bl.len
        refine ⟨_, rfl, _, rfl, L, zs, rfl, .inl ⟨SqL.of hz1, fun lt hlt => ⟨by show 2 ≤ sizeLine; decide, fun p hp => ?_⟩⟩⟩
        have d1 := (g1.trans h1).trans bl.g.to_go
        have d2 := d1.trans (Go.new (o := .tup zs) d1.1 hlt)
        have k2 := keepT_new (o := .tup zs) hlt
        have k3 := keepT_new (o := .tup [V.str "take", .ref lt]) hp
        exact q _ _ [⟨.tuple (l.map Subtype.val), noLs_of (fun a => a.2) l⟩] (d2.trans (Go.new d2.1 hp)) (Nat.le_of_ble_eq_true rfl) (.tup (SqT.of upd_same) (.cons (.str _) (.cons (.tup (sqt_keep k3 (SqT.of upd_same)) (dpA_keep (k2.trans k3) _ _ (noLs_of (fun a => a.2) l) hz2)) .nil)))
    · subst h
      have g0 := Go.refl ws.st.dr
      refine ⟨_, rfl, rfl, _, rfl, ?_⟩
      refine ite2 (fun e => absurd e (by decide +kernel)) (fun _ => ?_)
      refine ⟨_, rfl, by show 2 ≤ sizeLine; decide, fun p1 hp1 => ⟨p1, _, rfl, .inr (SqT.of upd_same), rfl, by rfl, _, rfl, ?_⟩⟩
      have ws1 := ws.new (o := .tup [V.str "put", .str "take"]) hp1
      have g1 := g0.trans (Go.new (o := .tup [V.str "put", .str "take"]) g0.1 hp1)
      refine ite2 (fun e => absurd e (by decide +kernel)) (fun _ => ?_)
      refine ⟨_, rfl, by show 2 ≤ sizeLine; decide, fun p2 hp2 => ⟨p2, _, rfl, .inr (SqT.of upd_same), rfl, by rfl, _, rfl, ?_⟩⟩
      have ws2 := ws1.new (o := .tup [V.str "add", .str "drop"]) hp2
      have g2 := g1.trans (Go.new (o := .tup [V.str "add", .str "drop"]) g1.1 hp2)
      refine ite2 (fun e => absurd e (by decide +kernel)) (fun _ => ?_)
      refine ⟨_, rfl, by show 2 ≤ sizeLine; decide, fun p3 hp3 => ⟨p3, _, rfl, .inr (SqT.of upd_same), rfl, by rfl, _, rfl, ?_⟩⟩
      have ws3 := ws2.new (o := .tup [V.str "load", .str "unload"]) hp3
      have g3 := g2.trans (Go.new (o := .tup [V.str "load", .str "unload"]) g2.1 hp3)
      refine ite2 (fun _ => ?_) (fun e => absurd (by decide +kernel) e)
      obtain ⟨a, ns, hget, hl, aD, aW, l0, l1⟩ := ws3.get (z := "belt") (by decide +kernel)
      refine ⟨_, rfl, _, rfl, _, rfl, Wd, _, rfl, hget, S, D, .ref a, ns.map V.str, rfl, ws3.st.dr, fun H' g => .inr ⟨a, rfl, SqL.of (g.2 _ _ hl aD)⟩, by rw [List.length_map]; exact l0, by rw [List.length_map]; omega, fun H1 x hx h1 => ?_⟩
      obtain ⟨z, _, rfl⟩ := List.mem_map.mp hx
      exact ⟨by show 2 ≤ sizeLine; decide, fun p hp => q _ _ [⟨.str z, rfl⟩] ((g3.trans h1).trans (Go.new h1.1 hp)) (Nat.le_of_ble_eq_true rfl) (.tup (SqT.of upd_same) (.cons (.str _) (.cons (.str _) .nil)))⟩
    · subst h
      have g0 := Go.refl ws.st.dr
      refine ⟨_, rfl, rfl, _, rfl, ?_⟩
      refine ite2 (fun e => absurd e (by decide +kernel)) (fun _ => ?_)
      refine ⟨_, rfl, by show 2 ≤ sizeLine; decide, fun p1 hp1 => ⟨p1, _, rfl, .inr (SqT.of upd_same), rfl, by rfl, _, rfl, ?_⟩⟩
      have ws1 := ws.new (o := .tup [V.str "put", .str "take"]) hp1
      have g1 := g0.trans (Go.new (o := .tup [V.str "put", .str "take"]) g0.1 hp1)
      refine ite2 (fun e => absurd e (by decide +kernel)) (fun _ => ?_)
      refine ⟨_, rfl, by show 2 ≤ sizeLine; decide, fun p2 hp2 => ⟨p2, _, rfl, .inr (SqT.of upd_same), rfl, by rfl, _, rfl, ?_⟩⟩
      have ws2 := ws1.new (o := .tup [V.str "add", .str "drop"]) hp2
      have g2 := g1.trans (Go.new (o := .tup [V.str "add", .str "drop"]) g1.1 hp2)
      refine ite2 (fun e => absurd e (by decide +kernel)) (fun _ => ?_)
      refine ⟨_, rfl, by show 2 ≤ sizeLine; decide, fun p3 hp3 => ⟨p3, _, rfl, .inr (SqT.of upd_same), rfl, by rfl, _, rfl, ?_⟩⟩
      have ws3 := ws2.new (o := .tup [V.str "load", .str "unload"]) hp3
      have g3 := g2.trans (Go.new (o := .tup [V.str "load", .str "unload"]) g2.1 hp3)
      refine ite2 (fun _ => ?_) (fun e => absurd (by decide +kernel) e)
      obtain ⟨a, ns, hget, hl, aD, aW, l0, l1⟩ := ws3.get (z := "belt") (by decide +kernel)
      refine ⟨_, rfl, _, rfl, _, rfl, Wd, _, rfl, hget, S, D, .ref a, ns.map V.str, rfl, ws3.st.dr, fun H' g => .inr ⟨a, rfl, SqL.of (g.2 _ _ hl aD)⟩, by rw [List.length_map]; exact l0, by rw [List.length_map]; omega, fun H1 x hx h1 => ?_⟩
      obtain ⟨z, _, rfl⟩ := List.mem_map.mp hx
      exact ⟨by show 2 ≤ sizeLine; decide, fun p hp => q _ _ [⟨.str z, rfl⟩] ((g3.trans h1).trans (Go.new h1.1 hp)) (Nat.le_of_ble_eq_true rfl) (.tup (SqT.of upd_same) (.cons (.str _) (.cons (.str _) .nil)))⟩
    · subst h
      have g0 := Go.refl ws.st.dr
      refine ⟨_, rfl, rfl, _, rfl, ?_⟩
      refine ite2 (fun e => absurd e (by decide +kernel)) (fun _ => ?_)
      refine ⟨_, rfl, by show 2 ≤ sizeLine; decide, fun p1 hp1 => ⟨p1, _, rfl, .inr (SqT.of upd_same), rfl, by rfl, _, rfl, ?_⟩⟩
      have ws1 := ws.new (o := .tup [V.str "put", .str "take"]) hp1
      have g1 := g0.trans (Go.new (o := .tup [V.str "put", .str "take"]) g0.1 hp1)
      refine ite2 (fun e => absurd e (by decide +kernel)) (fun _ => ?_)
      refine ⟨_, rfl, by show 2 ≤ sizeLine; decide, fun p2 hp2 => ⟨p2, _, rfl, .inr (SqT.of upd_same), rfl, by rfl, _, rfl, ?_⟩⟩
      have ws2 := ws1.new (o := .tup [V.str "add", .str "drop"]) hp2
      have g2 := g1.trans (Go.new (o := .tup [V.str "add", .str "drop"]) g1.1 hp2)
      refine ite2 (fun e => absurd e (by decide +kernel)) (fun _ => ?_)
      refine ⟨_, rfl, by show 2 ≤ sizeLine; decide, fun p3 hp3 => ⟨p3, _, rfl, .inr (SqT.of upd_same), rfl, by rfl, _, rfl, ?_⟩⟩
      have ws3 := ws2.new (o := .tup [V.str "load", .str "unload"]) hp3
      have g3 := g2.trans (Go.new (o := .tup [V.str "load", .str "unload"]) g2.1 hp3)
      refine ite2 (fun e => absurd e (by decide +kernel)) (fun _ => ?_)
      refine ⟨_, rfl, rfl, _, rfl, ?_⟩
      refine ite2 (fun _ => ?_) (fun e => absurd (by decide +kernel) e)
      obtain ⟨a, ns, hget, hl, aD, aW, l0, l1⟩ := ws3.get (z := "process") (by decide +kernel)
      refine ⟨_, rfl, _, rfl, _, rfl, Wd, _, rfl, hget, S, D, .ref a, ns.map V.str, rfl, ws3.st.dr, fun H' g => .inr ⟨a, rfl, SqL.of (g.2 _ _ hl aD)⟩, by rw [List.length_map]; exact l0, by rw [List.length_map]; omega, fun H1 x hx h1 => ?_⟩
      obtain ⟨z, _, rfl⟩ := List.mem_map.mp hx
      exact ⟨by show 2 ≤ sizeLine; decide, fun p hp => q _ _ [⟨.str z, rfl⟩] ((g3.trans h1).trans (Go.new h1.1 hp)) (Nat.le_of_ble_eq_true rfl) (.tup (SqT.of upd_same) (.cons (.str _) (.cons (.str _) .nil)))⟩
end
end Mt
namespace Mt
open PySem PySem.Spec PyProof.Rows L2
def NEST : List Str := (["draw", "if", "guard", "use", "loop"] : List String).map Str.ofString
def spWishes : Sp := fun vs H Q _ => ∃ (S D : Addr) (wd : Str) (want : Bool) (m : Nat), vs = [.ref D, .str wd, .bl want, .int (m : Int)] ∧ 1 ≤ m ∧ m ≤ 6 ∧ DrawAt S D H ∧
  ∀ (H' : Hp) (q : Addr) (bs : List Bool), Go S D H H' → H q = none → H' q = some (.lst (bs.map V.bl)) → bs.length = m → Q (.ref q) H'
/-- how many bodies a statement has -/
def ManyOk (base : Int) (wd : Str) (m : Nat) : Prop := 1 ≤ m ∧ m ≤ 6 ∧ (wd = "draw" → (m : Int) ≤ base) ∧ (wd = "use" → m ≤ 2) ∧ (wd = "loop" → m = 1) ∧ (wd = "if" → m = 2) ∧ (wd = "guard" → m = 2)
def spForm (K : PySem.W.Frag) (n : Nat) : Sp := fun vs H Q _ => ∃ (S D Wd B : Addr) (k : WK) (c : Int) (wd : Str) (xs : List V) (bs : List (Bd (n + 1))), vs = [.ref D, .ref Wd, .str wd, .ref B] ∧ wd ∈ NEST ∧ WSt S D Wd k c H ∧ H B = some (.lst xs) ∧ B ≠ D ∧ DpAll K H xs (bs.map (dB (n + 1))) ∧ (∀ b ∈ bs, okB (n + 1) b) ∧ ManyOk k.base wd bs.length ∧
  ∀ (H' : Hp) (v : V) (s : S1 (Bd (n + 1))), Go S D H H' → Dp K H' v (dS (dB (n + 1)) s) → okS (okB (n + 1)) s → cS (cB (n + 1)) s = 1 + (bs.map (cB (n + 1))).sum → Q v H'
theorem ixL {X : Cx} {K : PySem.W.Frag} (h : X.K = K) : IxR X (rIxL K) := h ▸ ix_list
theorem tupOfT {X : Cx} {K : PySem.W.Frag} (h : X.K = K) : CallR X (.type "tuple") (fun xs H Q => ∃ p ys, xs = [.ref p] ∧ ((SqL K H p ys ∧ ∀ l, H l = none → Q (.ref l) (upd H l (.tup ys))) ∨ (SqT K H p ys ∧ Q (.ref p) H))) := h ▸ call_tuple_of
theorem rep_map (m : Nat) : (List.replicate m [V.bl true]).flatten = (List.replicate m true).map V.bl := by
  induction m with
  | zero => rfl
  | succ m ih =>
    rw [List.replicate_succ, List.flatten_cons, ih, List.replicate_succ, List.map_cons]
    rfl
theorem snoc_bl (l : List Bool) (z : Bool) : l.map V.bl ++ [V.bl z] = (l ++ [z]).map V.bl := by
  rw [List.map_append]
  rfl
section
variable {P : Program} {w : World} {K : PySem.W.Frag} {mg : Str → Option Value} {base : Heap}
theorem ok_wishes (T : Txt w K mg) (D__law_draw : Kept P w K mg base 1 "_law_draw" ["d", "many"] spDraw) {f : Addr} {fd : FuncData} (F : FnP K "_law_wishes" s__law_wishes f fd) : FnOk P w K mg base CX0 2 f fd ["d", "word", "want", "many"] spWishes := by
  refine F.ok sc__law_wishes (fun vs H Q E h => ?_) (fun cdv A outer s H vs Q E hr h => ?_)
  · obtain ⟨S, D, wd, want, m, rfl, _⟩ := h
    rfl
  · obtain ⟨S, D, wd, want, m, rfl, m1, m6, d, q⟩ := h
    refine ⟨_, PSs.nox (pss_cons (ps_if (pt_cmpR op_in_seq (pv 1) (pe_tup (pa_cons pe_str (pa_cons pe_str pa_nil))) (by rfl)) (pss_one (ps_ret (pe_op op_cat (pe_lst (pa_cons (pv 2) pa_nil)) (pe_lc (own := [("k", 4)]) (g := (gName 4)) (tt := tYes) rfl sc__law_wishes.nd (pi_range1 (by rfl) T.b_range (pa_cons (pe_op op_sub (pv 3) pe_int) pa_nil)) (blkOk_by (N := N__law_wishes) (sc := defScope s__law_wishes) (by decide +kernel)) (fun _ _ _ _ _ => (pg_name (i := 4) sc__law_wishes.nd rfl (Or.inl rfl))) (fun _ _ _ _ _ => pts_nil) (fun _ _ _ _ _ => (pe_cmpR op_eq (pe_d D__law_draw (hr.mono (by decide)) (by rfl) (pa_cons (pv 0) (pa_cons pe_int pa_nil))) pe_int (nomark _))))))) pss_nil)
      (pss_cons (ps_if (pt_val (pv 2)) (pss_one (ps_ret (pe_op op_rep (pe_lst (pa_cons pe_bl pa_nil)) (pv 3)))) pss_nil)
      (pss_cons (ps_set (i := 5) sc__law_wishes.nd rfl (Or.inr rfl) (pe_d D__law_draw (hr.mono (by decide)) (by rfl) (pa_cons (pv 0) (pa_cons (pv 3) pa_nil))))
      (pss_one (ps_ret (pe_lc (own := [("k", 4)]) (g := (gName 4)) (tt := tYes) rfl sc__law_wishes.nd (pi_range1 (by rfl) T.b_range (pa_cons (pv 3) pa_nil)) (blkOk_by (N := N__law_wishes) (sc := defScope s__law_wishes) (by decide +kernel)) (fun _ _ _ _ _ => (pg_name (i := 4) sc__law_wishes.nd rfl (Or.inl rfl))) (fun _ _ _ _ _ => pts_nil) (fun _ _ _ _ _ => (pe_and (pe_cmpR op_ne (pv 4) (pv 5) (nomark _)) (pe_one (pe_cmpR op_gt (pe_d D__law_draw (hr.mono (by decide)) (by rfl) (pa_cons (pv 0) (pa_cons pe_int pa_nil))) pe_int (nomark _))))))))))), ?_⟩
    refine ⟨_, rfl, by show 2 ≤ sizeLine; decide, fun p0 hp0 => ⟨p0, _, rfl, .inr (SqT.of upd_same), rfl, by rfl, _, rfl, ?_⟩⟩
    have g0 := Go.new (o := .tup [V.str "use", .str "loop"]) d hp0
    have st0 := StF.of_draw d
    refine ite2 (fun _ => ?_) (fun _ => ?_)
    · refine ⟨_, rfl, by show 1 ≤ sizeLine; decide, fun L1 hL1 => ?_⟩
      have g1 := g0.trans (Go.new (o := .lst [V.bl want]) g0.1 hL1)
      have n1 := (g0.1.free hL1).1
      have h1 : (upd (upd H p0 (.tup [V.str "use", .str "loop"])) L1 (.lst [V.bl want])) L1 = some (.lst [V.bl want]) := upd_same
      generalize upd (upd H p0 (.tup [V.str "use", .str "loop"])) L1 (.lst [V.bl want]) = H1 at g1 h1
      refine ⟨_, rfl, _, _, rfl, rfl, _, rfl, by omega, by omega, fun L hL => lc_range (lo := 0) (n := ((m : Int) - 1).toNat) (fun j H' => ∃ bs : List Bool, Go S D H1 H' ∧ H' L = some (.lst (bs.map V.bl)) ∧ bs.length = j) ⟨[], Go.new g1.1 hL, upd_same, rfl⟩ ?_ ?_⟩
      · rintro j H2 hj ⟨bs, g2, hb, bl⟩
        refine ⟨rfl, _, rfl, S, D, 2, rfl, divW_of (by decide) (by decide), g2.1, fun H3 v v0 v1 g3 => ⟨rfl, _, g3.2 _ _ hb (g1.1.free hL).1, line6 (by rw [List.length_map]; omega), bs ++ [decide (V.int v = V.int 0)], Go.mut g1.1 (g2.trans g3) hL, by rw [upd_same, snoc_bl], by rw [List.length_append, List.length_singleton, bl]⟩⟩
      · rintro H2 ⟨bs, g2, hb, bl⟩
        refine ⟨L1, L, _, _, rfl, rfl, g2.2 _ _ h1 n1, hb, line5 (by rw [List.length_map, List.length_singleton]; omega), fun p hp => ?_⟩
        have g4 := g1.trans g2
        refine q _ p (want :: bs) (g4.trans (Go.new g4.1 hp)) (Go.free g4 d hp) upd_same (by rw [List.length_cons]; omega)
    · cases want with
      | true =>
        refine ⟨_, rfl, true, rfl, ?_⟩
        refine ⟨by show 1 ≤ sizeLine; decide, fun L1 hL1 => ⟨_, rfl, L1, (m : Int), _, rfl, rfl, upd_same, by omega, by omega, ?_, fun p hp => ?_⟩⟩
        · refine line5 ?_
          rw [List.length_singleton, Int.toNat_natCast]
          omega
        · have g1 := g0.trans (Go.new (o := .lst [V.bl true]) g0.1 hL1)
          refine q _ p (List.replicate m true) (g1.trans (Go.new g1.1 hp)) (Go.free g1 d hp) ?_ List.length_replicate
          rw [upd_same, Int.toNat_natCast, rep_map]
      | false =>
        refine ⟨_, rfl, false, rfl, ?_⟩
        refine ⟨_, rfl, _, rfl, S, D, (m : Int), rfl, divW_of (by omega) (by omega), g0.1, fun H1 at_ a0 a1 g1 => ?_⟩
        have g2 := g0.trans g1
        refine ⟨_, rfl, _, rfl, by omega, by omega, fun L hL => lc_range (lo := 0) (n := ((m : Int)).toNat) (fun j H' => ∃ bs : List Bool, Go S D H1 H' ∧ H' L = some (.lst (bs.map V.bl)) ∧ bs.length = j) ⟨[], Go.new g2.1 hL, upd_same, rfl⟩ ?_ ?_⟩
        · rintro j H2 hj ⟨bs, g3, hb, bl⟩
          have fin : ∀ (H4 : Hp) (b : Bool), Go S D H2 H4 → ∃ acc, H4 L = some (HO.lst acc) ∧ acc.length < sizeLine ∧ ∃ bs : List Bool, Go S D H1 (upd H4 L (HO.lst (acc ++ [V.bl b]))) ∧ upd H4 L (HO.lst (acc ++ [V.bl b])) L = some (HO.lst (List.map V.bl bs)) ∧ bs.length = j + 1 := fun H4 b g4 =>
            ⟨_, g4.2 _ _ hb (g2.1.free hL).1, line6 (by rw [List.length_map]; omega), bs ++ [b], Go.mut g2.1 (g3.trans g4) hL, by rw [upd_same, snoc_bl], by rw [List.length_append, List.length_singleton, bl]⟩
          refine ⟨rfl, _, rfl, _, rfl, rfl, _, rfl, ?_⟩
          refine ite2 (fun _ => ?_) (fun _ => ?_)
          · exact ⟨_, rfl, S, D, 3, rfl, divW_of (by decide) (by decide), g3.1, fun H4 v v0 v1 g4 => ⟨_, _, rfl, rfl, fin H4 _ g4⟩⟩
          · exact fin H2 _ (Go.refl g3.1)
        · rintro H2 ⟨bs, g3, hb, bl⟩
          exact q _ L bs (g2.trans g3) (Go.free g2 d hL) hb (by omega)
/-- a row of digits -/
def RowI (H0 H : Hp) (R : Addr) (m : Nat) (r : Addr) : Prop := H0 r = none ∧ r ≠ R ∧ ∃ is : List Int, H r = some (.lst (is.map V.int)) ∧ is.length ≤ m
theorem dpA_ints {K : PySem.W.Frag} {H : Hp} : ∀ is : List Int, DpAll K H (is.map V.int) (is.map PyData.int)
  | [] => .nil
  | _ :: r => .cons (.int _) (dpA_ints r)
theorem arm_noL (n : Nat) (a : List Int × Bd n) : noL (dArm (dB n) a) = true := by
  show (noLs (a.1.map PyData.int) && (noL (dB n a.2) && true)) = true
  rw [noLs_map PyData.int a.1 fun _ _ => rfl, dB_noL]
  rfl
theorem dpA_two {K : PySem.W.Frag} {H : Hp} {n : Nat} {xs : List V} {bs : List (Bd n)} (h : DpAll K H xs (bs.map (dB n))) (l : bs.length = 2) : ∃ x y b o, xs = [x, y] ∧ bs = [b, o] ∧ Dp K H x (dB n b) ∧ Dp K H y (dB n o) := by
  match bs, l, h with
  | [b, o], _, h =>
    obtain ⟨x, r, rfl, h1, h⟩ := dpA_cons h
    obtain ⟨y, r2, rfl, h2, h⟩ := dpA_cons h
    cases dpA_nil h
    exact ⟨x, y, b, o, rfl, rfl, h1, h2⟩
theorem dpA_one {K : PySem.W.Frag} {H : Hp} {n : Nat} {xs : List V} {bs : List (Bd n)} (h : DpAll K H xs (bs.map (dB n))) (l : bs.length = 1) : ∃ x b, xs = [x] ∧ bs = [b] ∧ Dp K H x (dB n b) := by
  match bs, l, h with
  | [b], _, h =>
    obtain ⟨x, r, rfl, h1, h⟩ := dpA_cons h
    cases dpA_nil h
    exact ⟨x, b, rfl, rfl, h1⟩
theorem nest_all : NEST = [("draw" : Str), "if", "guard", "use", "loop"] := rfl
def GAUGE : List Str := (["free", "queue", "store", "belt", "counter"] : List String).map Str.ofString
theorem gauge_in : GAUGE.all (fun g => (inV (.str g) [V.str "free", .str "queue"]) || decide (g ∈ ALLK)) = true := by decide +kernel
theorem ok_form {n : Nat} (T : Txt w K mg) (D__law_draw : Kept P w K mg base 1 "_law_draw" ["d", "many"] spDraw) (D__law_pick : Kept P w K mg base 2 "_law_pick" ["d", "row"] (spPick K)) (D__law_shuffled : Kept P w K mg base 2 "_law_shuffled" ["d", "row"] (spShuf K))
    {f : Addr} {fd : FuncData} (F : FnP K "_law_form" s__law_form f fd) : FnOk P w K mg base CX0 3 f fd ["d", "world", "word", "bodies"] (spForm K n) := by
  refine F.ok sc__law_form (fun vs H Q E h => ?_) (fun cdv A outer s H vs Q E hr h => ?_)
  · obtain ⟨S, D, Wd, B, k, c, wd, xs, bs, rfl, _⟩ := h
    rfl
  · obtain ⟨S, D, Wd, B, k, c, wd, xs, bs, rfl, hw, ws, hB, BD, hA, okb, hm, q⟩ := h
    refine ⟨_, PSs.nox (pss_cons (ps_if (pt_cmpR op_eq (pv 2) pe_str (nomark _)) (pss_one (ps_ret (pe_tup (pa_cons (pv 2) (pa_cons (pe_op op_add pe_int (pe_d D__law_draw (hr.mono (by omega)) (by rfl) (pa_cons (pv 0) (pa_cons pe_int pa_nil)))) (pa_cons (pe_ix ix_list (pv 3) pe_int (fun _ _ => rfl)) pa_nil)))))) pss_nil)
      (pss_cons (ps_if (pt_cmpR op_eq (pv 2) pe_str (nomark _)) (pss_one (ps_ret (pe_tup (pa_cons (pv 2) (pa_cons (pe_ix ix_list (pv 3) pe_int (fun _ _ => rfl)) (pa_cons (pe_ix ix_list (pv 3) pe_int (fun _ _ => rfl)) pa_nil)))))) pss_nil)
      (pss_cons (ps_if (pt_cmpR op_eq (pv 2) pe_str (nomark _)) (pss_cons (ps_set (i := 4) sc__law_form.nd rfl (Or.inl rfl) (pe_d D__law_pick (hr.mono (by omega)) (by rfl) (pa_cons (pv 0) (pa_cons (pe_lst (pa_cons pe_str (pa_cons pe_str (pa_cons pe_str (pa_cons pe_str (pa_cons pe_str pa_nil)))))) pa_nil))))
      (pss_cons (ps_set (i := 5) sc__law_form.nd rfl (Or.inl rfl) (pv 4))
      (Evl.pss_cut (ps_if (pt_cmpR op_in_seq (pv 4) (pe_tup (pa_cons pe_str (pa_cons pe_str pa_nil))) (by rfl)) (pss_one (ps_set (i := 5) sc__law_form.nd rfl (Or.inl rfl) pe_str)) pss_nil)
      (pss_one (ps_ret (pe_tup (pa_cons (pv 2) (pa_cons (pv 4) (pa_cons (pe_d D__law_pick (hr.mono (by omega)) (by rfl) (pa_cons (pv 0) (pa_cons (pe_dget (hu_of hr) (pv 1) (pv 5) (fun _ _ => rfl)) pa_nil))) (pa_cons (pe_d D__law_draw (hr.mono (by omega)) (by rfl) (pa_cons (pv 0) (pa_cons pe_int pa_nil))) (pa_cons (pe_ix ix_list (pv 3) pe_int (fun _ _ => rfl)) (pa_cons (pe_ix ix_list (pv 3) pe_int (fun _ _ => rfl)) pa_nil)))))))))))) pss_nil)
      (pss_cons (ps_if (pt_cmpR op_eq (pv 2) pe_str (nomark _)) (pss_cons (ps_set (i := 6) sc__law_form.nd rfl (Or.inl rfl) (pe_d D__law_pick (hr.mono (by omega)) (by rfl) (pa_cons (pv 0) (pa_cons (pe_dget (hu_of hr) (pv 1) pe_str (fun _ _ => rfl)) pa_nil))))
      (pss_cons (ps_if (pt_cmpR op_eq (pe_callB call_len (by rfl) T.b_len (by decide +kernel) (pa_cons (pv 3) pa_nil)) pe_int (nomark _)) (pss_one (ps_ret (pe_tup (pa_cons (pv 2) (pa_cons (pv 6) (pa_cons (pe_d D__law_draw (hr.mono (by omega)) (by rfl) (pa_cons (pv 0) (pa_cons pe_int pa_nil))) (pa_cons pe_non (pa_cons (pe_ix ix_list (pv 3) pe_int (fun _ _ => rfl)) (pa_cons (pe_tup pa_nil) pa_nil))))))))) pss_nil)
      (pss_one (ps_ret (pe_tup (pa_cons (pv 2) (pa_cons (pv 6) (pa_cons (pe_d D__law_draw (hr.mono (by omega)) (by rfl) (pa_cons (pv 0) (pa_cons pe_int pa_nil))) (pa_cons (pe_op op_add pe_int (pe_d D__law_draw (hr.mono (by omega)) (by rfl) (pa_cons (pv 0) (pa_cons pe_int pa_nil)))) (pa_cons (pe_ix ix_list (pv 3) pe_int (fun _ _ => rfl)) (pa_cons (pe_ix ix_list (pv 3) pe_int (fun _ _ => rfl)) pa_nil))))))))))) pss_nil)
      (pss_cons (ps_set (i := 7) sc__law_form.nd rfl (Or.inr rfl) (pe_d D__law_shuffled (hr.mono (by omega)) (by rfl) (pa_cons (pv 0) (pa_cons (pe_listRg rfl rfl T.b_list (prg_1 rfl T.b_range (pe_dget (hu_of hr) (pv 1) pe_str (fun _ _ => rfl)))) pa_nil))))
      (pss_cons (ps_set (i := 8) sc__law_form.nd rfl (Or.inr rfl) (pe_lc (own := [("k", 9)]) (g := (gName 9)) (tt := tYes) rfl sc__law_form.nd (pi_range1 (by rfl) T.b_range (pa_cons (pe_callB call_len (by rfl) T.b_len (by decide +kernel) (pa_cons (pv 3) pa_nil)) pa_nil)) (blkOk_by (N := N__law_form) (sc := defScope s__law_form) (by decide +kernel)) (fun _ _ _ _ _ => (pg_name (i := 9) sc__law_form.nd rfl (Or.inl rfl))) (fun _ _ _ _ _ => pts_nil) (fun _ _ _ _ _ => (pe_lst (pa_cons (pe_ix (ixL (K := K) rfl) (pv 7) (pv 9) (fun _ _ => rfl)) pa_nil)))))
      (pss_cons (ps_for PassesOwn.never rfl (pi_list (pe_slice sl_list (pv 7) (po_some (pe_callB call_len (by rfl) T.b_len (by decide +kernel) (pa_cons (pv 3) pa_nil))) po_none)) (pg_name (i := 10) sc__law_form.nd rfl (Or.inl rfl)) (pss_one (ps_expr (pe_bm PySem.F.plainAttrs_list PySem.F.slot_list_append PySem.F.type_list_append mt_append (pe_ix ix_list (pv 8) (pe_d D__law_draw (hr.mono (by omega)) (by rfl) (pa_cons (pv 0) (pa_cons (pe_callB call_len (by rfl) T.b_len (by decide +kernel) (pa_cons (pv 8) pa_nil)) pa_nil))) (fun _ _ => rfl)) (pa_cons (pv 10) pa_nil)))))
      (pss_one (ps_ret (pe_tup (pa_cons (pv 2) (pa_cons (pe_d D__law_pick (hr.mono (by omega)) (by rfl) (pa_cons (pv 0) (pa_cons (pe_dget (hu_of hr) (pv 1) pe_str (fun _ _ => rfl)) pa_nil))) (pa_cons (pe_callTy call_tuple_of (by rfl) T.b_tuple (by decide +kernel) (pa_cons (pe_lc (own := [("k", 9)]) (g := (gName 9)) (tt := tYes) rfl sc__law_form.nd (pi_range1 (by rfl) T.b_range (pa_cons (pe_callB call_len (by rfl) T.b_len (by decide +kernel) (pa_cons (pv 8) pa_nil)) pa_nil)) (blkOk_by (N := N__law_form) (sc := defScope s__law_form) (by decide +kernel)) (fun _ _ _ _ _ => (pg_name (i := 9) sc__law_form.nd rfl (Or.inl rfl))) (fun _ _ _ _ _ => pts_nil) (fun _ _ _ _ _ => (pe_tup (pa_cons (pe_callTy (tupOfT (K := K) rfl) (by rfl) T.b_tuple (by decide +kernel) (pa_cons (pe_ix (ixL (K := K) rfl) (pv 8) (pv 9) (fun _ _ => rfl)) pa_nil)) (pa_cons (pe_ix (ixL (K := K) rfl) (pv 3) (pv 9) (fun _ _ => rfl)) pa_nil))))) pa_nil)) pa_nil))))))))))))), ?_⟩
    obtain ⟨m1, m6, mD, mU, mL, mI, mG⟩ := hm
    rw [nest_all] at hw
    simp only [List.mem_cons, List.not_mem_nil, or_false] at hw
    have xl := dpA_len hA
    rw [List.length_map] at xl
    have g0 := Go.refl ws.st.dr
    rcases hw with h | h | h | h | h
    · -- draw
      subst h
      refine ⟨_, rfl, rfl, _, rfl, ?_⟩
      refine ite2 (fun e => absurd e (by decide +kernel)) (fun _ => ?_)
      refine ⟨_, rfl, rfl, _, rfl, ?_⟩
      refine ite2 (fun e => absurd e (by decide +kernel)) (fun _ => ?_)
      refine ⟨_, rfl, rfl, _, rfl, ?_⟩
      refine ite2 (fun e => absurd e (by decide +kernel)) (fun _ => ?_)
      refine ⟨_, rfl, rfl, _, rfl, ?_⟩
      refine ite2 (fun e => absurd e (by decide +kernel)) (fun _ => ?_)
      have b6 := ws.b
      have mD' := mD rfl
      -- the digits
      refine ⟨_, rfl, _, rfl, Wd, _, rfl, ws.bas, _, rfl, ⟨by omega, by omega, by omega, by omega, by omega⟩, fun l0 hl0 => ?_⟩
      have ws0 := ws.new (o := .lst (rgV 0 k.base)) hl0
      have c0 := g0.trans (Go.new (o := .lst (rgV 0 k.base)) g0.1 hl0)
      have rl : (rgV 0 k.base).length = k.base.toNat := by rw [rgV_length, Int.sub_zero]
      refine ⟨S, D, l0, _, rfl, ws0.st.dr, SqL.of upd_same, by omega, fun H1 dg ys h1 hq0 hdg yl ym => ?_⟩
      have yi : ∀ y ∈ ys, ∃ i : Int, y = V.int i := fun y hy => by
        have := ym y hy
        unfold rgV at this
        obtain ⟨i, _, e⟩ := List.mem_map.mp this
        exact ⟨_, e.symm⟩
      have c1 := c0.trans h1
      have hB1 := c1.2 _ _ hB BD
      have dgD : dg ≠ D := fun e => by
        rw [e] at hq0
        obtain ⟨_, _, _, _, hD⟩ := ws0.st.dr.at_
        rw [hD] at hq0
        cases hq0
      have nBd : B ≠ dg := fun e => by
        have h8 := c0.2 _ _ hB BD
        rw [e, hq0] at h8
        cases h8
      -- the rows
      refine ⟨_, rfl, _, _, rfl, .inl ⟨_, SqL.of hB1, rfl⟩, (xs.length : Int), rfl, by omega, by omega, fun R hR => lc_range (lo := 0) (n := ((xs.length : Int)).toNat) (fun j H' => ∃ rs : List Addr, Go S D H1 H' ∧ H' R = some (.lst (rs.map V.ref)) ∧ rs.length = j ∧ (∀ r ∈ rs, RowI H1 H' R 1 r)) ⟨[], Go.new c1.1 hR, upd_same, rfl, fun _ h => absurd h List.not_mem_nil⟩ ?_ ?_⟩
      · rintro j H2 hj ⟨rs, g2, hR2, rll, rok⟩
        have hjy : j < ys.length := by omega
        obtain ⟨iv, hiv⟩ := yi _ (List.getElem_mem hjy)
        have ea : atI ys (0 + (j : Int)) = some (V.int iv) := by
          have := atI_nat (xs := ys) (List.getElem?_eq_getElem hjy)
          rw [hiv] at this
          rw [Int.zero_add]
          exact this
        refine ⟨rfl, _, rfl, _, rfl, dg, _, _, _, rfl, rfl, SqL.of (g2.2 _ _ hdg dgD), ea, by show 1 ≤ sizeLine; decide, fun r hr => ?_⟩
        have nrR : r ≠ R := (ne_of_none hR2 hr).symm
        have hr1 : H1 r = none := Go.free g2 c1.1 hr
        refine ⟨rs.map V.ref, by rw [upd_ne nrR.symm]; exact hR2, line6 (by rw [List.length_map]; omega), rs ++ [r], Go.mut c1.1 (Go.mut c1.1 g2 hr1) hR, by rw [upd_same, List.map_append]; rfl, by rw [List.length_append, List.length_singleton, rll], fun r' hr' => ?_⟩
        rcases List.mem_append.mp hr' with h | h
        · obtain ⟨a1, a2, is, a3, a4⟩ := rok r' h
          exact ⟨a1, a2, is, by rw [upd_ne a2, upd_ne (ne_of_none a3 hr)]; exact a3, a4⟩
        · rw [List.mem_singleton.mp h]
          exact ⟨hr1, nrR, [iv], by rw [upd_ne nrR, upd_same]; rfl, Nat.le_refl _⟩
      · rintro H2 ⟨rs, g2, hR2, rll, rok⟩
        have rlen : rs.length = bs.length := by omega
        clear rll
        have RD := (c1.1.free hR).1
        have hB2 := g2.2 _ _ hB1 BD
        have hdg2 := g2.2 _ _ hdg dgD
        -- the digits that are left
        refine ⟨_, rfl, _, rfl, _, _, rfl, .inl ⟨_, SqL.of hB2, rfl⟩, _, rfl, dg, ys, rfl, SqL.of hdg2, fun sl hsl => ?_⟩
        have cl : (cutV ys (some (xs.length : Int)) none).length ≤ 6 := Nat.le_trans (cutV_len _ _ _) (by omega)
        have hsl1 : H1 sl = none := Go.free g2 c1.1 hsl
        have slD := (c1.1.free hsl1).1
        have g3 := Go.mut (o := .lst (cutV ys (some (xs.length : Int)) none)) c1.1 g2 hsl1
        have nRs : R ≠ sl := ne_of_none hR2 hsl
        refine ⟨sl, rfl, ⟨_, SqL.of upd_same⟩, for_list (K := K) (a := sl) (xs := cutV ys (some (xs.length : Int)) none) (fun i σ H' => ∃ y : Option V, σ = [some (.ref D), some (.ref Wd), some (.str "draw"), some (.ref B), none, none, none, some (.ref dg), some (.ref R), none, y] ∧ Go S D H1 H' ∧ H' R = some (.lst (rs.map V.ref)) ∧ H' sl = some (.lst (cutV ys (some (xs.length : Int)) none)) ∧ (∀ r ∈ rs, RowI H1 H' R (1 + i) r ∧ r ≠ sl)) ⟨none, rfl, g3, by rw [upd_ne nRs]; exact hR2, upd_same, fun r hr => ?_⟩ (fun i σ H' _ ⟨_, _, _, _, h, _⟩ => SqL.of h) ?_ ?_⟩
        · obtain ⟨a1, a2, is, a3, a4⟩ := rok r hr
          have ns := ne_of_none a3 hsl
          exact ⟨⟨a1, a2, is, by rw [upd_ne ns]; exact a3, by omega⟩, ns⟩
        · rintro i x σ H3 hi ⟨y, rfl, g4, hR3, hsl3, rok3⟩
          have hi6 := (List.getElem?_eq_some_iff.mp hi).1
          obtain ⟨xi, rfl⟩ := yi x (cutV_mem (List.mem_of_getElem? hi))
          refine ⟨_, rfl, _, rfl, _, rfl, _, _, rfl, .inl ⟨_, SqL.of hR3, rfl⟩, S, D, _, rfl, divW_of (by rw [List.length_map]; omega) (by rw [List.length_map]; omega), g4.1, fun H4 v v0 v1 g5 => ?_⟩
          have hR4 := g5.2 _ _ hR3 RD
          rw [List.length_map] at v1
          have hvr : v.toNat < rs.length := by omega
          have ea : atI (rs.map V.ref) v = some (V.ref rs[v.toNat]) := by
            have h0 : (rs.map V.ref)[v.toNat]? = some (V.ref rs[v.toNat]) := by
              rw [List.getElem?_map, List.getElem?_eq_getElem hvr]
              rfl
            have := atI_nat (xs := rs.map V.ref) h0
            rw [show ((v.toNat : Nat) : Int) = v by omega] at this
            exact this
          obtain ⟨⟨a1, a2, is, a3, a4⟩, a5⟩ := rok3 _ (List.getElem_mem hvr)
          generalize rs[v.toNat] = r at ea a1 a2 a3 a5
          have rD := (c1.1.free a1).1
          have hr4 := g5.2 _ _ a3 rD
          refine ⟨R, _, _, _, rfl, rfl, SqL.of hR4, ea, .inl ⟨rfl, _, SqL.of hr4⟩, _, rfl, r, _, _, rfl, rfl, hr4, line6 (by rw [List.length_map]; omega), ?_⟩
          refine ⟨_, rfl, Go.mut c1.1 (g4.trans g5) a1, by rw [upd_ne a2.symm]; exact hR4, by rw [upd_ne a5.symm]; exact g5.2 _ _ hsl3 slD, fun r' hr' => ?_⟩
          obtain ⟨⟨b1, b2, is2, b3, b4⟩, b5⟩ := rok3 _ hr'
          refine ⟨⟨b1, b2, ?_⟩, b5⟩
          by_cases e : r' = r
          · refine ⟨is ++ [xi], by rw [e, upd_same, List.map_append]; rfl, by rw [List.length_append, List.length_singleton]; omega⟩
          · exact ⟨is2, by rw [upd_ne e]; exact g5.2 _ _ b3 (c1.1.free b1).1, by omega⟩
        · rintro σ H3 ⟨y, rfl, g4, hR3, hsl3, rok3⟩
          have ws3 := (ws0.go h1).go g4
          have c3 := c1.trans g4
          obtain ⟨a, ns, hget, hl, aD, aW, l0', l1'⟩ := ws3.get (z := "stream") (by decide +kernel)
          refine ⟨_, rfl, _, rfl, _, rfl, Wd, _, rfl, hget, S, D, .ref a, ns.map V.str, rfl, ws3.st.dr, fun H' g => .inr ⟨a, rfl, SqL.of (g.2 _ _ hl aD)⟩, by rw [List.length_map]; exact l0', by rw [List.length_map]; omega, fun H4 x4 hx4 g5 => ?_⟩
          obtain ⟨z, _, rfl⟩ := List.mem_map.mp hx4
          have hR4 := g5.2 _ _ hR3 RD
          have c4 := c3.trans g5
          have hB4 := c4.2 _ _ hB BD
          have st4 := StF.of_draw g5.1
          refine ⟨_, rfl, _, _, rfl, .inl ⟨_, SqL.of hR4, rfl⟩, ((rs.map V.ref).length : Int), rfl, by omega, by rw [List.length_map]; omega, fun L hL => lc_range (lo := 0) (n := (((rs.map V.ref).length : Int)).toNat) (fun j H' => ∃ as : List (List Int × Bd (n + 1)), BL K S D D L H4 H' (dArm (dB (n + 1))) as ∧ as.map (·.2) = bs.take j ∧ as.length = j) ⟨[], BL.nil st4 hL, rfl, rfl⟩ ?_ ?_⟩
          · rintro j H5 hj ⟨as, bl, ae, al⟩
            rw [List.length_map] at hj
            have hjr : j < rs.length := by omega
            have hjb : j < bs.length := by omega
            have hjx : j < xs.length := by omega
            have eaR : atI (rs.map V.ref) (0 + (j : Int)) = some (V.ref rs[j]) := by
              have h0 : (rs.map V.ref)[j]? = some (V.ref rs[j]) := by
                rw [List.getElem?_map, List.getElem?_eq_getElem hjr]
                rfl
              rw [Int.zero_add]
              exact atI_nat h0
            have eaB : atI xs (0 + (j : Int)) = some xs[j] := by
              rw [Int.zero_add]
              exact atI_nat (List.getElem?_eq_getElem hjx)
            obtain ⟨⟨a1, a2, is, a3, a4⟩, a5⟩ := rok3 _ (List.getElem_mem hjr)
            obtain ⟨d, hd1, hd2⟩ := dpA_at hA (List.getElem?_eq_getElem hjx)
            obtain ⟨b, hb, rfl⟩ := map_at hd1
            generalize rs[j] = r at eaR a1 a2 a3 a5
            generalize xs[j] = xv at eaB hd2
            have g45 := bl.g.to_go
            have hr5 := g45.2 _ _ (g5.2 _ _ a3 (c1.1.free a1).1) (c1.1.free a1).1
            have hR5 := g45.2 _ _ hR4 RD
            refine ⟨rfl, _, rfl, _, rfl, R, _, _, _, rfl, rfl, SqL.of hR5, eaR, r, is.map V.int, rfl, .inl ⟨SqL.of hr5, fun lt hlt => ?_⟩⟩
            have g6 := g45.trans (Go.new (o := .tup (is.map V.int)) g45.1 hlt)
            refine ⟨_, rfl, _, rfl, B, _, _, _, rfl, rfl, SqL.of (g6.2 _ _ hB4 BD), eaB, by show 2 ≤ sizeLine; decide, fun p hp => ?_⟩
            have k0 := Go.keepT ws.st.dr (c4.trans g6)
            have k1 := keepT_new (o := .tup [V.ref lt, xv]) hp
            have bl6 := bl.go st4 hL (arm_noL (n + 1)) (GoL.of_go bl.g.1 ((Go.new (o := .tup (is.map V.int)) bl.g.1.dr hlt).trans (Go.new (o := .tup [V.ref lt, xv]) g6.1 hp)))
            obtain ⟨zs, hz1, hz2, hz3⟩ := bl6.len
            have harm : Dp K _ (.ref p) (dArm (dB (n + 1)) (is, b)) := .tup (SqT.of (upd_same (a := p) (o := .tup [V.ref lt, xv]))) (.cons (.tup (sqt_keep k1 (SqT.of upd_same)) (dpA_ints is)) (.cons (dp_keep (k0.trans k1) _ _ (dB_noL _ b) hd2) .nil))
            refine ⟨zs, hz1, line6 (by omega), as ++ [(is, b)], BL.add st4 hL (arm_noL (n + 1)) bl6.g hz1 hz2 harm, ?_, by rw [List.length_append, List.length_singleton, al]⟩
            rw [List.map_append, ae, List.take_add_one, hb]
            rfl
          · rintro H5 ⟨as, bl, ae, al⟩
            rw [List.length_map] at ae al
            have ae2 : as.map (·.2) = bs := by
              rw [ae]
              exact List.take_of_length_le (by omega)
            obtain ⟨zs, hz1, hz2, hz3⟩ := bl.len
            refine ⟨L, zs, rfl, .inl ⟨SqL.of hz1, fun lt hlt => ⟨by show 3 ≤ sizeLine; decide, fun p hp => ?_⟩⟩⟩
            have d1 := c4.trans bl.g.to_go
            have d2 := d1.trans (Go.new (o := .tup zs) d1.1 hlt)
            have k2 := keepT_new (o := .tup zs) hlt
            have k3 := keepT_new (o := .tup [V.str "draw", .str z, .ref lt]) hp
            refine q _ _ (.draw z as) (d2.trans (Go.new d2.1 hp)) (.tup (SqT.of upd_same) (.cons (.str _) (.cons (.str _) (.cons (.tup (sqt_keep k3 (SqT.of upd_same)) (dpA_keep (k2.trans k3) _ _ (noLs_of (arm_noL (n + 1)) as) hz2)) .nil)))) ⟨by omega, fun a' ha' => okb a'.2 (by rw [← ae2]; exact List.mem_map_of_mem ha')⟩ ?_
            show 1 + ((as.map (·.2)).map (cB (n + 1))).sum = _
            rw [ae2]
    · -- if
      subst h
      refine ⟨_, rfl, rfl, _, rfl, ?_⟩
      refine ite2 (fun e => absurd e (by decide +kernel)) (fun _ => ?_)
      refine ⟨_, rfl, rfl, _, rfl, ?_⟩
      refine ite2 (fun e => absurd e (by decide +kernel)) (fun _ => ?_)
      refine ⟨_, rfl, rfl, _, rfl, ?_⟩
      refine ite2 (fun _ => ?_) (fun e => absurd (by decide +kernel) e)
      obtain ⟨x, y, b, o, rfl, rfl, hx, hy⟩ := dpA_two hA (mI rfl)
      refine ⟨_, rfl, by show 5 ≤ sizeLine; decide, fun L hL => ?_⟩
      have wsL := ws.new (o := .lst (GAUGE.map V.str)) hL
      have gL := g0.trans (Go.new (o := .lst (GAUGE.map V.str)) g0.1 hL)
      have LD := (g0.1.free hL).1
      refine ⟨S, D, .ref L, GAUGE.map V.str, rfl, wsL.st.dr, fun H' g => .inr ⟨L, rfl, SqL.of (g.2 _ _ upd_same LD)⟩, by show 0 < 5; decide, by show 5 ≤ 100000; decide, fun H1 x1 hx1 h1 => ?_⟩
      obtain ⟨ga, hga, rfl⟩ := List.mem_map.mp hx1
      have ws1 := wsL.go h1
      have g1 := gL.trans h1
      generalize upd H L (.lst (GAUGE.map V.str)) = HL at h1
      refine ⟨_, rfl, fun σ' H' => ∃ kind : Str, σ' = [some (.ref D), some (.ref Wd), some (.str "if"), some (.ref B), some (.str ga), some (.str kind), none, none, none, none, none] ∧ kind ∈ ALLK ∧ Go S D H1 H', ?_, ?_⟩
      · refine ⟨_, rfl, by show 2 ≤ sizeLine; decide, fun p0 hp0 => ⟨p0, _, rfl, .inr (SqT.of upd_same), rfl, by rfl, _, rfl, ?_⟩⟩
        refine ite2 (fun _ => ?_) (fun e => ?_)
        · exact ⟨"resource", rfl, by decide +kernel, Go.new h1.1 hp0⟩
        · refine ⟨ga, rfl, ?_, Go.new h1.1 hp0⟩
          have h := List.all_eq_true.mp gauge_in ga hga
          rw [Bool.or_eq_true] at h
          rcases h with h | h
          · exact absurd h e
          · exact of_decide_eq_true h
      · rintro σ' H2 ⟨kind, rfl, hk, h2⟩
        have ws2 := ws1.go h2
        have g2 := g1.trans h2
        obtain ⟨a, ns, hget, hl, aD, aW, l0, l1⟩ := ws2.get hk
        refine ⟨_, rfl, _, rfl, _, rfl, _, rfl, _, rfl, Wd, _, rfl, hget, S, D, .ref a, ns.map V.str, rfl, ws2.st.dr, fun H' g => .inr ⟨a, rfl, SqL.of (g.2 _ _ hl aD)⟩, by rw [List.length_map]; exact l0, by rw [List.length_map]; omega, fun H3 x3 hx3 h3 => ?_⟩
        obtain ⟨z, _, rfl⟩ := List.mem_map.mp hx3
        refine ⟨_, rfl, S, D, 10, rfl, divW_of (by decide) (by decide), h3.1, fun H4 v v0 v1 h4 => ?_⟩
        have g4 := (g2.trans h3).trans h4
        have hB4 := g4.2 _ _ hB BD
        refine ⟨_, rfl, B, _, _, _, rfl, rfl, SqL.of hB4, atI_nat (j := 0) rfl, _, rfl, B, _, _, _, rfl, rfl, SqL.of hB4, atI_nat (j := 1) rfl, by show 6 ≤ sizeLine; decide, fun p hp => ?_⟩
        have k1 := Go.keepT ws.st.dr g4
        have kk := keepT_new (o := .tup [V.str "if", .str ga, .str z, .int v, x, y]) hp
        exact q _ _ (.iff ga z v b o) (g4.trans (Go.new g4.1 hp)) (.tup (SqT.of upd_same) (.cons (.str _) (.cons (.str _) (.cons (.str _) (.cons (.int _) (.cons (dp_keep (k1.trans kk) _ _ (dB_noL _ _) hx) (.cons (dp_keep (k1.trans kk) _ _ (dB_noL _ _) hy) .nil)))))))
          ⟨okb b List.mem_cons_self, okb o (List.mem_cons_of_mem _ List.mem_cons_self)⟩ rfl
    · -- guard
      subst h
      refine ⟨_, rfl, rfl, _, rfl, ?_⟩
      refine ite2 (fun e => absurd e (by decide +kernel)) (fun _ => ?_)
      refine ⟨_, rfl, rfl, _, rfl, ?_⟩
      refine ite2 (fun _ => ?_) (fun e => absurd (by decide +kernel) e)
      obtain ⟨x, y, b, o, rfl, rfl, hx, hy⟩ := dpA_two hA (mG rfl)
      refine ⟨_, rfl, _, rfl, B, _, _, _, rfl, rfl, SqL.of hB, atI_nat (j := 0) rfl, _, rfl, B, _, _, _, rfl, rfl, SqL.of hB, atI_nat (j := 1) rfl, by show 3 ≤ sizeLine; decide, fun p hp => ?_⟩
      have kk := keepT_new (o := .tup [V.str "guard", x, y]) hp
      exact q _ _ (.guard b o) (Go.new g0.1 hp) (.tup (SqT.of upd_same) (.cons (.str _) (.cons (dp_keep kk _ _ (dB_noL _ _) hx) (.cons (dp_keep kk _ _ (dB_noL _ _) hy) .nil)))) ⟨okb b List.mem_cons_self, okb o (List.mem_cons_of_mem _ List.mem_cons_self)⟩ rfl
    · -- use
      subst h
      refine ⟨_, rfl, rfl, _, rfl, ?_⟩
      refine ite2 (fun e => absurd e (by decide +kernel)) (fun _ => ?_)
      refine ⟨_, rfl, rfl, _, rfl, ?_⟩
      refine ite2 (fun e => absurd e (by decide +kernel)) (fun _ => ?_)
      refine ⟨_, rfl, rfl, _, rfl, ?_⟩
      refine ite2 (fun e => absurd e (by decide +kernel)) (fun _ => ?_)
      refine ⟨_, rfl, rfl, _, rfl, ?_⟩
      refine ite2 (fun _ => ?_) (fun e => absurd (by decide +kernel) e)
      obtain ⟨a, ns, hget, hl, aD, aW, l0, l1⟩ := ws.get (z := "resource") (by decide +kernel)
      refine ⟨_, rfl, _, rfl, Wd, _, rfl, hget, S, D, .ref a, ns.map V.str, rfl, ws.st.dr, fun H' g => .inr ⟨a, rfl, SqL.of (g.2 _ _ hl aD)⟩, by rw [List.length_map]; exact l0, by rw [List.length_map]; omega, fun H1 x1 hx1 h1 => ?_⟩
      obtain ⟨z, _, rfl⟩ := List.mem_map.mp hx1
      have hB1 := h1.2 _ _ hB BD
      refine ⟨_, rfl, _, _, rfl, .inl ⟨_, SqL.of hB1, rfl⟩, rfl, _, rfl, ?_⟩
      refine ite2 (fun e => ?_) (fun e => ?_)
      · have l1 : bs.length = 1 := by
          have e2 := of_decide_eq_true (show decide (V.int (xs.length : Int) = V.int 1) = true from e)
          injection e2 with e3
          omega
        obtain ⟨x, b, rfl, rfl, hx⟩ := dpA_one hA l1
        refine ⟨_, rfl, _, rfl, _, rfl, S, D, 10, rfl, divW_of (by decide) (by decide), h1.1, fun H2 v v0 v1 h2 => ?_⟩
        have hB2 := h2.2 _ _ hB1 BD
        refine ⟨_, rfl, B, _, _, _, rfl, rfl, SqL.of hB2, atI_nat (j := 0) rfl, Nat.zero_le _, fun e0 he0 => ⟨by show 6 ≤ sizeLine; decide, fun p hp => ?_⟩⟩
        have g2 := h1.trans h2
        have g3 := g2.trans (Go.new (o := .tup []) g2.1 he0)
        have k1 := Go.keepT ws.st.dr g3
        have kk := keepT_new (o := .tup [V.str "use", .str z, .int v, .non, x, .ref e0]) hp
        exact q _ _ (.use z v none b (show List (S1 (Bd n)) from [])) (g3.trans (Go.new g3.1 hp)) (.tup (SqT.of upd_same) (.cons (.str _) (.cons (.str _) (.cons (.int _) (.cons .non (.cons (dp_keep (k1.trans kk) _ _ (dB_noL _ _) hx) (.cons (.tup (sqt_keep kk (SqT.of upd_same)) .nil) .nil)))))))
          ⟨okb b List.mem_cons_self, Nat.zero_le _, fun _ h => absurd h List.not_mem_nil⟩ rfl
      · have l2 : bs.length = 2 := by
          have e3 : bs.length ≠ 1 := fun e4 => e (decide_eq_true (by rw [show (xs.length : Int) = 1 by omega]))
          have := mU rfl
          omega
        obtain ⟨x, y, b, o, rfl, rfl, hx, hy⟩ := dpA_two hA l2
        refine ⟨_, rfl, _, rfl, _, rfl, S, D, 10, rfl, divW_of (by decide) (by decide), h1.1, fun H2 v v0 v1 h2 => ?_⟩
        refine ⟨_, rfl, S, D, 9, rfl, divW_of (by decide) (by decide), h2.1, fun H3 v2 v20 v21 h3 => ⟨_, _, rfl, rfl, ?_⟩⟩
        have g2 := (h1.trans h2).trans h3
        have hB3 := g2.2 _ _ hB BD
        refine ⟨_, rfl, B, _, _, _, rfl, rfl, SqL.of hB3, atI_nat (j := 0) rfl, _, rfl, B, _, _, _, rfl, rfl, SqL.of hB3, atI_nat (j := 1) rfl, by show 6 ≤ sizeLine; decide, fun p hp => ?_⟩
        have k1 := Go.keepT ws.st.dr g2
        have kk := keepT_new (o := .tup [V.str "use", .str z, .int v, .int (1 + v2), x, y]) hp
        exact q _ _ (.use z v (some (1 + v2)) b o) (g2.trans (Go.new g2.1 hp)) (.tup (SqT.of upd_same) (.cons (.str _) (.cons (.str _) (.cons (.int _) (.cons (.int _) (.cons (dp_keep (k1.trans kk) _ _ (dB_noL _ _) hx) (.cons (dp_keep (k1.trans kk) _ _ (dB_noL _ _) hy) .nil)))))))
          ⟨okb b List.mem_cons_self, okb o (List.mem_cons_of_mem _ List.mem_cons_self)⟩ rfl
    · -- loop
      subst h
      refine ⟨_, rfl, rfl, _, rfl, ?_⟩
      refine ite2 (fun _ => ?_) (fun e => absurd (by decide +kernel) e)
      obtain ⟨x, b, rfl, rfl, hx⟩ := dpA_one hA (mL rfl)
      refine ⟨_, rfl, _, rfl, S, D, 9, rfl, divW_of (by decide) (by decide), ws.st.dr, fun H1 v v0 v1 h1 => ⟨_, _, rfl, rfl, _, rfl, B, _, _, _, rfl, rfl, SqL.of (h1.2 _ _ hB BD), atI_nat (j := 0) rfl, by show 3 ≤ sizeLine; decide, fun p hp => ?_⟩⟩
      have k1 := Go.keepT ws.st.dr h1
      have kk := keepT_new (o := .tup [V.str "loop", .int (1 + v), x]) hp
      exact q _ _ (.loop (1 + v) b) (h1.trans (Go.new h1.1 hp)) (.tup (SqT.of upd_same) (.cons (.str _) (.cons (.int _) (.cons (dp_keep (k1.trans kk) _ _ (dB_noL _ _) hx) .nil)))) ⟨⟨by omega, by omega⟩, okb b List.mem_cons_self⟩ rfl
end
end Mt
namespace Mt
open PySem PySem.Spec PyProof.Rows L2
/-- a list that is none of the world's -/
theorem WSt.updL {S D Wd L : Addr} {k : WK} {c : Int} {H : Hp} {o : HO} (s : WSt S D Wd k c H) (n0 : ∀ e ∈ k.es, e.2.1 ≠ L) (n1 : L ≠ D) (n2 : L ≠ S) (n3 : L ≠ Wd) : WSt S D Wd k c (upd H L o) :=
  ⟨⟨s.st.dr.upd n1 n2, s.st.nS, let ⟨u, h, nt⟩ := s.st.fl; ⟨u, by rw [upd_ne n3.symm]; exact h, nt⟩⟩, s.nD, by rw [upd_ne n3.symm]; exact s.d, s.b, s.ks, fun e he => let ⟨h1, h2, h3, h4, h5⟩ := s.ls e he; ⟨by rw [upd_ne (n0 e he)]; exact h1, h2, h3, h4, h5⟩⟩
theorem WSt.nes {S D Wd L : Addr} {k : WK} {c : Int} {H : Hp} (s : WSt S D Wd k c H) (h : H L = none) : ∀ e ∈ k.es, e.2.1 ≠ L := fun e he => ne_of_none (s.ls e he).1 h
def GiveW (K : PySem.W.Frag) (S D Wd : Addr) (k : WK) (c : Int) (H : Hp) (Q : VK) {α : Type} (dat : α → PyData) (cnt : α → Nat) (ok : α → Prop) : Prop :=
  ∀ (H' : Hp) (v : V) (x : α) (c' : Int), GoL S D Wd H H' → WSt S D Wd k c' H' → 0 ≤ c' → (cnt x : Int) + c' ≤ c + 1 → Dp K H' v (dat x) → ok x → Q v H'
def spWilled (K : PySem.W.Frag) (n : Nat) : Sp := fun vs H Q _ => ∃ (S D Wd : Addr) (k : WK) (c : Int) (want : Bool), vs = [.ref D, .ref Wd, .bl want, .int (n : Int)] ∧ WSt S D Wd k c H ∧ 0 ≤ c ∧ c ≤ 100 ∧ GiveW K S D Wd k c H Q (dB (n + 1)) (cB (n + 1)) (okB (n + 1))
def spWished (K : PySem.W.Frag) (n : Nat) : Sp := fun vs H Q _ => ∃ (S D Wd : Addr) (k : WK) (c : Int) (want : Bool), vs = [.ref D, .ref Wd, .bl want, .int (n : Int)] ∧ WSt S D Wd k c H ∧ 0 ≤ c ∧ c ≤ 100 ∧ GiveW K S D Wd k c H Q (dS (dB n)) (cS (cB n)) (okS (okB n))
def LA : List Str := (["hold", "hold", "stop", "end"] : List String).map Str.ofString
def LB : List Str := (["mark", "add", "drop", "put", "take", "load", "unload", "interrupt"] : List String).map Str.ofString
theorem la_leaf : ∀ z ∈ LA, z ∈ LEAF := by
  have : LA.all (fun z => decide (z ∈ LEAF)) = true := by decide +kernel
  exact fun z hz => of_decide_eq_true (List.all_eq_true.mp this z hz)
theorem lb_leaf : ∀ z ∈ LB, z ∈ LEAF := by
  have : LB.all (fun z => decide (z ∈ LEAF)) = true := by decide +kernel
  exact fun z hz => of_decide_eq_true (List.all_eq_true.mp this z hz)
theorem nest_many {b : Int} (b2 : 2 ≤ b) : ∀ z ∈ NEST, z ≠ "draw" → z ≠ "use" → z ≠ "loop" → ManyOk b z 2 := fun z hz n1 n2 n3 => ⟨by decide, by decide, fun e => absurd e n1, fun e => absurd e n2, fun e => absurd e n3, fun _ => rfl, fun _ => rfl⟩
section
variable {P : Program} {w : World} {K : PySem.W.Frag} {mg : Str → Option Value} {base : Heap}
theorem ok_void {k : Nat} {x : Str} {st : Stmt} {N ps : List Str} (S : FnScope N ps (defScope st)) {f : Addr} {fd : FuncData} (F : FnP K x st f fd) : FnOk P w K mg base CX0 (k + 1) f fd ps (fun _ _ _ _ => False) :=
  F.ok S (fun vs H Q E h => h.elim) (fun cdv A outer s H vs Q E hr h => h.elim)
theorem ok_wished {m : Nat} {spW : Sp} (hW : ∀ n, m = n + 1 → spW = spWilled K n) (T : Txt w K mg) (D__law_draw : Kept P w K mg base 1 "_law_draw" ["d", "many"] spDraw) (D__law_pick : Kept P w K mg base 2 "_law_pick" ["d", "row"] (spPick K)) (D__law_leaf : Kept P w K mg base 3 "_law_leaf" ["d", "world", "word"] (spLeaf K))
    (D__law_form : Kept P w K mg base 3 "_law_form" ["d", "world", "word", "bodies"] (spForm K (m - 1))) (D__law_wishes : Kept P w K mg base 2 "_law_wishes" ["d", "word", "want", "many"] spWishes) (D__law_willed : Kept P w K mg base (2 * m + 3) "_law_willed" ["d", "world", "want", "depth"] spW)
    {f : Addr} {fd : FuncData} (F : FnP K "_law_wished" s__law_wished f fd) : FnOk P w K mg base CX0 (2 * m + 4) f fd ["d", "world", "want", "depth"] (spWished K m) := by
  refine F.ok sc__law_wished (fun vs H Q E h => ?_) (fun cdv A outer s H vs Q E hr h => ?_)
  · obtain ⟨S, D, Wd, k, c, want, rfl, _⟩ := h
    rfl
  · obtain ⟨S, D, Wd, k, c, want, rfl, ws, c0, c1, q⟩ := h
    refine ⟨_, PSs.nox (pss_cons (ps_set (i := 4) sc__law_wished.nd rfl (Or.inl rfl) (pe_d D__law_pick (hr.mono (by omega)) (by rfl) (pa_cons (pv 0) (pa_cons (pe_lst (pa_cons pe_str (pa_cons pe_str (pa_cons pe_str (pa_cons pe_str (pa_cons pe_str pa_nil)))))) pa_nil))))
      (pss_cons (ps_set (i := 5) sc__law_wished.nd rfl (Or.inl rfl) pe_int)
      (Evl.pss_cut (ps_if (pt_cmpR op_eq (pv 4) pe_str (nomark _)) (pss_one (ps_set (i := 5) sc__law_wished.nd rfl (Or.inl rfl) (pe_op op_add pe_int (pe_d D__law_draw (hr.mono (by omega)) (by rfl) (pa_cons (pv 0) (pa_cons (pe_dget (hu_of hr) (pv 1) pe_str (fun _ _ => rfl)) pa_nil)))))) (pss_one (ps_if (pt_cmpR op_eq (pv 4) pe_str (nomark _)) (pss_one (ps_set (i := 5) sc__law_wished.nd rfl (Or.inl rfl) (pe_op op_add pe_int (pe_d D__law_draw (hr.mono (by omega)) (by rfl) (pa_cons (pv 0) (pa_cons pe_int pa_nil)))))) (pss_one (ps_if (pt_cmpR op_eq (pv 4) pe_str (nomark _)) (pss_one (ps_set (i := 5) sc__law_wished.nd rfl (Or.inl rfl) pe_int)) pss_nil)))))
      (Evl.pss_cut (ps_if (PW.pt (pw_and (pt_cmpR op_gt (pv 3) pe_int (nomark _)) (pw_and (pt_cmpR op_ge (pe_dget (hu_of hr) (pv 1) pe_str (fun _ _ => rfl)) (pv 5) (nomark _)) (pw_and1 (pt_cmpR op_gt (pe_d D__law_draw (hr.mono (by omega)) (by rfl) (pa_cons (pv 0) (pa_cons pe_int pa_nil))) pe_int (nomark _)))))) (pss_cons (ps_daug (hu_of hr) (pv 1) pe_str (pv 5) in_sub (fun _ _ _ => rfl))
      (pss_cons (ps_set (i := 6) sc__law_wished.nd rfl (Or.inl rfl) (pe_lst pa_nil))
      (pss_cons (ps_for PassesOwn.never rfl (pi_list (pe_d D__law_wishes (hr.mono (by omega)) (by rfl) (pa_cons (pv 0) (pa_cons (pv 4) (pa_cons (pv 2) (pa_cons (pv 5) pa_nil)))))) (pg_name (i := 7) sc__law_wished.nd rfl (Or.inl rfl)) (pss_one (ps_expr (pe_bm PySem.F.plainAttrs_list PySem.F.slot_list_append PySem.F.type_list_append mt_append (pv 6) (pa_cons (pe_d D__law_willed (hr.mono (by omega)) (by rfl) (pa_cons (pv 0) (pa_cons (pv 1) (pa_cons (pv 7) (pa_cons (pe_op op_sub (pv 3) pe_int) pa_nil))))) pa_nil)))))
      (pss_one (ps_ret (pe_d D__law_form (hr.mono (by omega)) (by rfl) (pa_cons (pv 0) (pa_cons (pv 1) (pa_cons (pv 4) (pa_cons (pv 6) pa_nil)))))))))) pss_nil)
      (pss_cons (ps_if (pt_val (pv 2)) (pss_one (ps_ret (pe_d D__law_leaf (hr.mono (by omega)) (by rfl) (pa_cons (pv 0) (pa_cons (pv 1) (pa_cons (pe_d D__law_pick (hr.mono (by omega)) (by rfl) (pa_cons (pv 0) (pa_cons (pe_lst (pa_cons pe_str (pa_cons pe_str (pa_cons pe_str (pa_cons pe_str pa_nil))))) pa_nil))) pa_nil)))))) pss_nil)
      (pss_one (ps_ret (pe_d D__law_leaf (hr.mono (by omega)) (by rfl) (pa_cons (pv 0) (pa_cons (pv 1) (pa_cons (pe_d D__law_pick (hr.mono (by omega)) (by rfl) (pa_cons (pv 0) (pa_cons (pe_lst (pa_cons pe_str (pa_cons pe_str (pa_cons pe_str (pa_cons pe_str (pa_cons pe_str (pa_cons pe_str (pa_cons pe_str (pa_cons pe_str pa_nil))))))))) pa_nil))) pa_nil))))))))))), ?_⟩
    refine ⟨_, rfl, by show 5 ≤ sizeLine; decide, fun L hL => ?_⟩
    have wsL := ws.new (o := .lst (NEST.map V.str)) hL
    have gL := Go.new (o := .lst (NEST.map V.str)) ws.st.dr hL
    have LnD := (ws.st.free hL).1
    refine ⟨S, D, .ref L, NEST.map V.str, rfl, wsL.st.dr, fun H' g => .inr ⟨L, rfl, SqL.of (g.2 _ _ upd_same LnD)⟩, by show 0 < 5; decide, by show 5 ≤ 100000; decide, fun H1 x1 hx1 h1 => ?_⟩
    obtain ⟨wd, hwd, rfl⟩ := List.mem_map.mp hx1
    have ws1 := wsL.go h1
    have g1 := gL.trans h1
    have b2 := ws.b
    refine ⟨fun σ' H' => ∃ mm : Nat, σ' = [some (.ref D), some (.ref Wd), some (.bl want), some (.int (m : Int)), some (.str wd), some (.int (mm : Int)), none, none] ∧ ManyOk k.base wd mm ∧ Go S D H1 H', ?_, ?_⟩
    · refine ⟨_, rfl, rfl, _, rfl, ?_⟩
      refine ite2 (fun e => ?_) (fun e => ?_)
      · have e1 : wd = "draw" := by
          have := of_decide_eq_true (show decide (V.str wd = V.str "draw") = true from e)
          injection this
        refine ⟨_, rfl, _, rfl, Wd, _, rfl, ws1.bas, S, D, k.base, rfl, divW_of (by omega) (by omega), ws1.st.dr, fun H2 v v0 v1 h2 => ⟨_, _, rfl, rfl, (1 + v).toNat, ?_, ?_, h2⟩⟩
        · rw [show (((1 + v).toNat : Nat) : Int) = 1 + v by omega]
          rfl
        · refine ⟨by omega, by omega, fun _ => by omega, fun e => ?_, fun e => ?_, fun e => ?_, fun e => ?_⟩ <;> (rw [e1] at e; exact absurd e (by decide +kernel))
      · have n1 : wd ≠ "draw" := fun e1 => e (decide_eq_true (by rw [e1]))
        refine ⟨_, rfl, rfl, _, rfl, ?_⟩
        refine ite2 (fun e => ?_) (fun e => ?_)
        · have e1 : wd = "use" := by
            have := of_decide_eq_true (show decide (V.str wd = V.str "use") = true from e)
            injection this
          refine ⟨_, rfl, S, D, 2, rfl, divW_of (by decide) (by decide), ws1.st.dr, fun H2 v v0 v1 h2 => ⟨_, _, rfl, rfl, (1 + v).toNat, ?_, ?_, h2⟩⟩
          · rw [show (((1 + v).toNat : Nat) : Int) = 1 + v by omega]
            rfl
          · refine ⟨by omega, by omega, fun e => ?_, fun _ => by omega, fun e => ?_, fun e => ?_, fun e => ?_⟩ <;> (rw [e1] at e; exact absurd e (by decide +kernel))
        · have n2 : wd ≠ "use" := fun e1 => e (decide_eq_true (by rw [e1]))
          refine ⟨_, rfl, rfl, _, rfl, ?_⟩
          refine ite2 (fun e => ?_) (fun e => ?_)
          · have e1 : wd = "loop" := by
              have := of_decide_eq_true (show decide (V.str wd = V.str "loop") = true from e)
              injection this
            refine ⟨1, rfl, ?_, Go.refl ws1.st.dr⟩
            refine ⟨by decide, by decide, fun e => ?_, fun e => ?_, fun _ => rfl, fun e => ?_, fun e => ?_⟩ <;> (rw [e1] at e; exact absurd e (by decide +kernel))
          · have n3 : wd ≠ "loop" := fun e1 => e (decide_eq_true (by rw [e1]))
            exact ⟨2, rfl, nest_many b2.1 wd hwd n1 n2 n3, Go.refl ws1.st.dr⟩
    · rintro σ' H2 ⟨mm, rfl, hmm, h2⟩
      have ws2 := ws1.go h2
      have g2 := g1.trans h2
      have mm6 := hmm.2.1
      -- a leaf
      have leafQ : ∀ (H3 H4 : Hp) (v : V) (wd : Str) (as : List LD), Go S D H H3 → Go S D H3 H4 → wd ∈ LEAF → as.length ≤ 2 → Dp K H4 v (.tuple (.str wd :: as.map Subtype.val)) → Q v H4 := fun H3 H4 v wd as g3 g4 hw hl hd =>
        q H4 v (.leaf wd as) c (GoL.of_go ws.st (g3.trans g4)) (ws.go (g3.trans g4)) c0 (by show (((1 + 0 : Nat) : Int)) + c ≤ c + 1; omega) hd ⟨hw, hl⟩
      refine ⟨fun σ' H' => σ' = [some (.ref D), some (.ref Wd), some (.bl want), some (.int (m : Int)), some (.str wd), some (.int (mm : Int)), none, none] ∧ Go S D H H', ?_, ?_⟩
      · refine ⟨_, rfl, _, _, rfl, rfl, _, rfl, ?_⟩
        refine ite2 (fun e => ?_) (fun _ => ⟨rfl, g2⟩)
        obtain ⟨n, rfl⟩ : ∃ n, m = n + 1 := ⟨m - 1, by
          have := of_decide_eq_true (show decide ((0 : Int) < (m : Int)) = true from e)
          omega⟩
        obtain rfl := hW n rfl
        refine ⟨_, rfl, Wd, _, rfl, ws2.left, _, rfl, _, _, rfl, rfl, _, rfl, ?_⟩
        refine ite2 (fun e2 => ?_) (fun _ => ⟨rfl, g2⟩)
        have hcm : (mm : Int) ≤ c := of_decide_eq_true e2
        refine ⟨_, rfl, S, D, 5, rfl, divW_of (by decide) (by decide), ws2.st.dr, fun H3 v v0 v1 h3 => ⟨_, _, rfl, rfl, _, rfl, ?_⟩⟩
        refine ite2 (fun _ => ?_) (fun _ => ⟨rfl, g2.trans h3⟩)
        have ws3 := ws2.go h3
        have g3 := g2.trans h3
        refine ⟨_, rfl, Wd, _, rfl, ws3.left, _, rfl, _, _, rfl, rfl, _, ws3.put _, ?_⟩
        obtain ⟨ws4, a4⟩ := ws3.set (c - mm)
        generalize upd H3 Wd (.dK (kvsOf (c - mm) k.base k.es)) = H4 at ws4 a4
        have b4 := (GoL.of_go ws.st g3).trans a4
        refine ⟨Nat.zero_le _, fun B hB => ?_⟩
        obtain ⟨BD, BS, BW⟩ := ws4.st.free hB
        have bl0 : BL K S D Wd B H4 (upd H4 B (.lst [])) (dB (n + 1)) [] := BL.nil ws4.st hB
        have ws5 := ws4.new (o := .lst []) hB
        refine ⟨_, rfl, _, rfl, _, rfl, _, rfl, S, D, wd, want, mm, rfl, hmm.1, hmm.2.1, ws5.st.dr, fun H5 wl bls h5 hw0 hwl bll => ?_⟩
        have wlD : wl ≠ D := fun e => by
          rw [e] at hw0
          obtain ⟨_, _, _, _, hD⟩ := ws5.st.dr.at_
          rw [hD] at hw0
          cases hw0
        have wlW : wl ≠ Wd := (ne_of_none ws5.d hw0).symm
        have wlB : wl ≠ B := fun e => by
          rw [e, upd_same] at hw0
          cases hw0
        refine ⟨wl, rfl, ⟨_, SqL.of hwl⟩, for_list (K := K) (a := wl) (xs := bls.map V.bl) (fun i σ H' => ∃ (y : Option V) (bs : List (Bd (n + 1))) (c' : Int), σ = [some (.ref D), some (.ref Wd), some (.bl want), some (.int ((n + 1 : Nat) : Int)), some (.str wd), some (.int (mm : Int)), some (.ref B), y] ∧ BL K S D Wd B H4 H' (dB (n + 1)) bs ∧ WSt S D Wd k c' H' ∧ 0 ≤ c' ∧ ((bs.map (cB (n + 1))).sum : Int) + c' ≤ c - mm + i ∧ H' wl = some (.lst (bls.map V.bl)) ∧ bs.length = i ∧ ∀ b ∈ bs, okB (n + 1) b) ⟨none, [], c - mm, rfl, bl0.go ws4.st hB (dB_noL (n + 1)) (GoL.of_go ws5.st h5), ws5.go h5, by omega, by show (0 : Int) + (c - mm) ≤ c - mm + 0; omega, hwl, rfl, fun _ h => absurd h List.not_mem_nil⟩ (fun i σ H' _ ⟨_, _, _, _, _, _, _, _, h, _⟩ => SqL.of h) ?_ ?_⟩
        · rintro i x σ H6 hi ⟨y, bs, c', rfl, bl, ws6, k0, k1, hwl6, bsl, bok⟩
          have hi' := (List.getElem?_eq_some_iff.mp hi).1
          rw [List.length_map, bll] at hi'
          obtain ⟨bv, rfl⟩ : ∃ bv, x = V.bl bv := by
            obtain ⟨bv, _, e⟩ := List.mem_map.mp (List.mem_of_getElem? hi)
            exact ⟨bv, e.symm⟩
          obtain ⟨zs0, hz0, _, _⟩ := bl.len
          refine ⟨_, rfl, .inl ⟨rfl, _, SqL.of hz0⟩, _, rfl, _, rfl, _, rfl, _, rfl, _, _, rfl, rfl, S, D, Wd, k, c', bv, ?_, ws6, k0, by omega, fun H7 v7 b7 c7 g7 ws7 c70 c71 hv okb7 => ?_⟩
          · show [V.ref D, V.ref Wd, V.bl bv, V.int (((n + 1 : Nat) : Int) - 1)] = _
            rw [show ((n + 1 : Nat) : Int) - 1 = (n : Int) by omega]
          have bl7 := bl.go ws4.st hB (dB_noL (n + 1)) g7
          obtain ⟨zs, hz1, hz2, hz3⟩ := bl7.len
          refine ⟨B, zs, _, rfl, rfl, hz1, line6 (by omega), _, bs ++ [b7], c7, rfl, BL.add ws4.st hB (dB_noL (n + 1)) bl7.g hz1 hz2 hv, ?_, c70, ?_, ?_, by rw [List.length_append, List.length_singleton, bsl], fun b hb => ?_⟩
          · exact ws7.updL (ws4.nes hB) BD BS BW
          · rw [List.map_append, List.sum_append]
            have e2 : ((List.map (cB (n + 1)) [b7]).sum) = cB (n + 1) b7 := by
              show cB (n + 1) b7 + 0 = _
              omega
            rw [e2]
            omega
          · rw [upd_ne wlB]
            exact g7.2 _ _ hwl6 wlD wlW
          · rcases List.mem_append.mp hb with h | h
            · exact bok b h
            · rw [List.mem_singleton.mp h]
              exact okb7
        · rintro σ H6 ⟨y, bs, c', rfl, bl, ws6, k0, k1, hwl6, bsl, bok⟩
          rw [List.length_map, bll] at bsl
          obtain ⟨zs, hz1, hz2, hz3⟩ := bl.len
          refine ⟨_, rfl, _, rfl, _, rfl, _, rfl, S, D, Wd, B, k, c', wd, zs, bs, rfl, hwd, ws6, hz1, BD, hz2, bok, by rw [bsl]; exact hmm, fun H7 v7 s7 g7 hv oks cs => ?_⟩
          refine q H7 v7 s7 c' ((b4.trans bl.g).trans (GoL.of_go ws6.st g7)) (ws6.go g7) k0 ?_ hv oks
          have cs' : cS (cB (n + 1)) s7 = 1 + (bs.map (cB (n + 1))).sum := cs
          rw [cs']
          rw [List.length_map, bll] at k1
          omega
      · rintro σ' H3 ⟨rfl, g3⟩
        have ws3 := ws.go g3
        cases want with
        | true =>
          refine ⟨_, rfl, true, rfl, ?_⟩
          refine ⟨_, rfl, _, rfl, _, rfl, by show 4 ≤ sizeLine; decide, fun L2 hL2 => ?_⟩
          have g4 := Go.new (o := .lst (LA.map V.str)) ws3.st.dr hL2
          have n4 := (ws3.st.free hL2).1
          refine ⟨S, D, .ref L2, LA.map V.str, rfl, g4.1, fun H' g => .inr ⟨L2, rfl, SqL.of (g.2 _ _ upd_same n4)⟩, by show 0 < 4; decide, by show 4 ≤ 100000; decide, fun H5 x5 hx5 g5 => ?_⟩
          obtain ⟨z, hz, rfl⟩ := List.mem_map.mp hx5
          have g6 := g4.trans g5
          exact ⟨S, D, Wd, k, c, z, rfl, la_leaf z hz, ws3.go g6, fun H6 v as g7 hl hd => leafQ _ H6 v z as (g3.trans g6) g7 (la_leaf z hz) hl hd⟩
        | false =>
          refine ⟨_, rfl, false, rfl, ?_⟩
          refine ⟨_, rfl, _, rfl, _, rfl, by show 8 ≤ sizeLine; decide, fun L2 hL2 => ?_⟩
          have g4 := Go.new (o := .lst (LB.map V.str)) ws3.st.dr hL2
          have n4 := (ws3.st.free hL2).1
          refine ⟨S, D, .ref L2, LB.map V.str, rfl, g4.1, fun H' g => .inr ⟨L2, rfl, SqL.of (g.2 _ _ upd_same n4)⟩, by show 0 < 8; decide, by show 8 ≤ 100000; decide, fun H5 x5 hx5 g5 => ?_⟩
          obtain ⟨z, hz, rfl⟩ := List.mem_map.mp hx5
          have g6 := g4.trans g5
          exact ⟨S, D, Wd, k, c, z, rfl, lb_leaf z hz, ws3.go g6, fun H6 v as g7 hl hd => leafQ _ H6 v z as (g3.trans g6) g7 (lb_leaf z hz) hl hd⟩
end
theorem dpA_take {K : PySem.W.Frag} {H : Hp} : ∀ {ds : List PyData} {xs : List V} (i : Nat), DpAll K H xs ds → DpAll K H (xs.take i) (ds.take i)
  | _, _, 0, _ => .nil
  | [], _, i + 1, h => by
    rw [dpA_nil h]
    exact .nil
  | d :: r, _, i + 1, h => by
    obtain ⟨x, t, rfl, h3, h4⟩ := dpA_cons h
    exact .cons h3 (dpA_take i h4)
theorem dpA_drop {K : PySem.W.Frag} {H : Hp} : ∀ {ds : List PyData} {xs : List V} (i : Nat), DpAll K H xs ds → DpAll K H (xs.drop i) (ds.drop i)
  | _, _, 0, h => h
  | [], _, i + 1, h => by
    rw [dpA_nil h]
    exact .nil
  | d :: r, _, i + 1, h => by
    obtain ⟨x, t, rfl, h3, h4⟩ := dpA_cons h
    exact dpA_drop i h4
def ins {α : Type} (i : Nat) (x : α) (l : List α) : List α := l.take i ++ [x] ++ l.drop i
theorem ins_sum {α : Type} (f : α → Nat) (i : Nat) (x : α) (l : List α) : ((ins i x l).map f).sum = (l.map f).sum + f x := by
  unfold ins
  rw [List.map_append, List.map_append, List.sum_append, List.sum_append]
  have e : (l.map f).sum = ((l.take i).map f).sum + ((l.drop i).map f).sum := by
    rw [← List.sum_append, ← List.map_append, List.take_append_drop]
  rw [e]
  show _ + (f x + 0) + _ = _
  omega
theorem ins_mem {α : Type} {i : Nat} {x y : α} {l : List α} (h : y ∈ ins i x l) : y = x ∨ y ∈ l := by
  unfold ins at h
  rcases List.mem_append.mp h with h | h
  · rcases List.mem_append.mp h with h | h
    · exact .inr (List.mem_of_mem_take h)
    · exact .inl (List.mem_singleton.mp h)
  · exact .inr (List.mem_of_mem_drop h)
theorem ins_len {α : Type} {i : Nat} {x : α} {l : List α} : (ins i x l).length = l.length + 1 := by
  unfold ins
  rw [List.length_append, List.length_append, List.length_take, List.length_drop, List.length_singleton]
  omega
theorem dpA_ins {K : PySem.W.Frag} {H : Hp} {α : Type} {f : α → PyData} {l : List α} {xs : List V} {x : V} {a : α} (i : Nat) (h : DpAll K H xs (l.map f)) (hx : Dp K H x (f a)) : DpAll K H (xs.take i ++ [x] ++ xs.drop i) ((ins i a l).map f) := by
  unfold ins
  rw [List.map_append, List.map_append]
  rw [List.map_take, List.map_drop]
  exact dpA_app (dpA_app (dpA_take i h) (.cons hx .nil)) (dpA_drop i h)
section
variable {P : Program} {w : World} {K : PySem.W.Frag} {mg : Str → Option Value} {base : Heap}
theorem ok_willed {n : Nat} (T : Txt w K mg) (D__law_draw : Kept P w K mg base 1 "_law_draw" ["d", "many"] spDraw) (D__law_wished : Kept P w K mg base (2 * n + 4) "_law_wished" ["d", "world", "want", "depth"] (spWished K n))
    {f : Addr} {fd : FuncData} (F : FnP K "_law_willed" s__law_willed f fd) : FnOk P w K mg base CX0 (2 * n + 5) f fd ["d", "world", "want", "depth"] (spWilled K n) := by
  refine F.ok sc__law_willed (fun vs H Q E h => ?_) (fun cdv A outer s H vs Q E hr h => ?_)
  · obtain ⟨S, D, Wd, k, c, want, rfl, _⟩ := h
    rfl
  · obtain ⟨S, D, Wd, k, c, want, rfl, ws, c0, c1, q⟩ := h
    refine ⟨_, PSs.nox (pss_cons (ps_set (i := 4) sc__law_willed.nd rfl (Or.inl rfl) (pe_lst pa_nil))
      (pss_cons (ps_for PassesOwn.never rfl (pi_range1 (by rfl) T.b_range (pa_cons (pe_d D__law_draw (hr.mono (by omega)) (by rfl) (pa_cons (pv 0) (pa_cons pe_int pa_nil))) pa_nil)) (pg_name (i := 5) sc__law_willed.nd rfl (Or.inl rfl)) (pss_one (ps_if (pt_cmpR op_gt (pe_dget (hu_of hr) (pv 1) pe_str (fun _ _ => rfl)) pe_int (nomark _)) (pss_cons (ps_daug (hu_of hr) (pv 1) pe_str pe_int in_sub (fun _ _ _ => rfl))
      (pss_one (ps_expr (pe_bm PySem.F.plainAttrs_list PySem.F.slot_list_append PySem.F.type_list_append mt_append (pv 4) (pa_cons (pe_d D__law_wished (hr.mono (by omega)) (by rfl) (pa_cons (pv 0) (pa_cons (pv 1) (pa_cons (pe_and (pv 2) (pe_one (pe_cmpR op_eq (pe_d D__law_draw (hr.mono (by omega)) (by rfl) (pa_cons (pv 0) (pa_cons pe_int pa_nil))) pe_int (nomark _)))) (pa_cons (pv 3) pa_nil))))) pa_nil))))) pss_nil)))
      (pss_cons (ps_if (pt_val (pv 2)) (pss_one (ps_expr (pe_bm PySem.F.plainAttrs_list PySem.F.slot_list_insert PySem.F.type_list_insert mt_insert (pv 4) (pa_cons (pe_d D__law_draw (hr.mono (by omega)) (by rfl) (pa_cons (pv 0) (pa_cons (pe_op op_add (pe_callB call_len (by rfl) T.b_len (by decide +kernel) (pa_cons (pv 4) pa_nil)) pe_int) pa_nil))) (pa_cons (pe_d D__law_wished (hr.mono (by omega)) (by rfl) (pa_cons (pv 0) (pa_cons (pv 1) (pa_cons pe_bl (pa_cons (pv 3) pa_nil))))) pa_nil))))) (pss_one (ps_daug (hu_of hr) (pv 1) pe_str pe_int in_add (fun _ _ _ => rfl))))
      (pss_one (ps_ret (pe_callTy call_tuple_of (by rfl) T.b_tuple (by decide +kernel) (pa_cons (pv 4) pa_nil))))))), ?_⟩
    refine ⟨Nat.zero_le _, fun B hB => ?_⟩
    obtain ⟨BD, BS, BW⟩ := ws.st.free hB
    have bl0 : BL K S D Wd B H (upd H B (.lst [])) (dS (dB n)) [] := BL.nil ws.st hB
    have ws0 := ws.new (o := .lst []) hB
    have nes := ws.nes hB
    refine ⟨_, rfl, S, D, 3, rfl, divW_of (by decide) (by decide), ws0.st.dr, fun H1 r r0 r1 h1 => ?_⟩
    -- one statement more at the end
    have addB : ∀ (H' H2 : Hp) (ss : List (S1 (Bd n))) (c' c2 : Int) (x : V) (s : S1 (Bd n)) (zs : List V), BL K S D Wd B H H' (dS (dB n)) ss → GoL S D Wd H' H2 → WSt S D Wd k c2 H2 → Dp K H2 x (dS (dB n) s) → H2 B = some (.lst zs) → DpAll K H2 zs (ss.map (dS (dB n))) →
        BL K S D Wd B H (upd H2 B (.lst (zs ++ [x]))) (dS (dB n)) (ss ++ [s]) ∧ WSt S D Wd k c2 (upd H2 B (.lst (zs ++ [x]))) := fun H' H2 ss c' c2 x s zs bl g ws2 hx h1 h2 =>
      ⟨BL.add ws.st hB (dS_noL (dB_noL n)) (bl.g.trans g) h1 h2 hx, ws2.updL nes BD BS BW⟩
    refine ⟨_, rfl, by omega, by omega, for_range (lo := 0) (n := r.toNat) (fun i σ H' => ∃ (y : Option V) (ss : List (S1 (Bd n))) (c' : Int), σ = [some (.ref D), some (.ref Wd), some (.bl want), some (.int (n : Int)), some (.ref B), y] ∧ BL K S D Wd B H H' (dS (dB n)) ss ∧ WSt S D Wd k c' H' ∧ 0 ≤ c' ∧ ((ss.map (cS (cB n))).sum : Int) + c' ≤ c ∧ ss.length ≤ i ∧ ∀ s ∈ ss, okS (okB n) s) ⟨_, [], c, rfl, bl0.go ws.st hB (dS_noL (dB_noL n)) (GoL.of_go ws0.st h1), ws0.go h1, c0, by show (0 : Int) + c ≤ c; omega, Nat.le_refl _, fun _ h => absurd h List.not_mem_nil⟩ ?_ ?_⟩
    · rintro i σ H2 hi ⟨y, ss, c', rfl, bl, ws2, k0, k1, sl, so⟩
      refine ⟨_, rfl, Wd, _, rfl, ws2.left, _, _, rfl, rfl, _, rfl, ?_⟩
      refine ite2 (fun e => ?_) (fun e => ?_)
      · have cp : 0 < c' := of_decide_eq_true e
        refine ⟨_, rfl, Wd, _, rfl, ws2.left, _, _, rfl, rfl, _, ws2.put _, ?_⟩
        obtain ⟨ws3, a3⟩ := ws2.set (c' - 1)
        generalize upd H2 Wd (.dK (kvsOf (c' - 1) k.base k.es)) = H3 at ws3 a3
        have bl3 := bl.go ws.st hB (dS_noL (dB_noL n)) a3
        obtain ⟨zs3, hz3, _, _⟩ := bl3.len
        refine ⟨_, rfl, .inl ⟨rfl, _, SqL.of hz3⟩, _, rfl, _, rfl, ?_⟩
        have fin : ∀ (H4 : Hp) (bv : Bool), Go S D H3 H4 → spWished K n [V.ref D, .ref Wd, .bl bv, .int (n : Int)] H4 (fun x H5 => ∃ l xs y, V.ref B = V.ref l ∧ [x] = [y] ∧ H5 l = some (.lst xs) ∧ xs.length < sizeLine ∧ ∃ (y' : Option V) (ss : List (S1 (Bd n))) (c' : Int), [some (V.ref D), some (.ref Wd), some (.bl want), some (.int (n : Int)), some (.ref B), some (.int (0 + (i : Int)))] = [some (.ref D), some (.ref Wd), some (.bl want), some (.int (n : Int)), some (.ref B), y'] ∧ BL K S D Wd B H (upd H5 l (.lst (xs ++ [y]))) (dS (dB n)) ss ∧ WSt S D Wd k c' (upd H5 l (.lst (xs ++ [y]))) ∧ 0 ≤ c' ∧ ((ss.map (cS (cB n))).sum : Int) + c' ≤ c ∧ ss.length ≤ i + 1 ∧ ∀ s ∈ ss, okS (okB n) s) E0 := fun H4 bv g4 =>
          ⟨S, D, Wd, k, c' - 1, bv, rfl, ws3.go g4, by omega, by omega, fun H5 v s c5 g5 ws5 c50 c51 hv oks => by
            have bl4 := bl3.go ws.st hB (dS_noL (dB_noL n)) (GoL.of_go ws3.st g4)
            have bl5 := bl4.go ws.st hB (dS_noL (dB_noL n)) g5
            obtain ⟨zs, hz1, hz2, hz3'⟩ := bl5.len
            obtain ⟨b6, w6⟩ := addB H4 H5 ss c' c5 v s zs bl4 g5 ws5 hv hz1 hz2
            refine ⟨B, zs, v, rfl, rfl, hz1, line6 (by omega), _, ss ++ [s], c5, rfl, b6, w6, c50, ?_, by rw [List.length_append, List.length_singleton]; omega, fun s' hs' => ?_⟩
            · rw [List.map_append, List.sum_append]
              have e2 : ((List.map (cS (cB n)) [s]).sum) = cS (cB n) s := by
                show cS (cB n) s + 0 = _
                omega
              rw [e2]
              omega
            · rcases List.mem_append.mp hs' with h | h
              · exact so s' h
              · rw [List.mem_singleton.mp h]
                exact oks⟩
        refine ⟨_, rfl, want, rfl, ?_⟩
        cases want with
        | true => exact ⟨_, rfl, S, D, 6, rfl, divW_of (by decide) (by decide), ws3.st.dr, fun H4 v v0 v1 g4 => ⟨rfl, _, rfl, fin H4 _ g4⟩⟩
        | false => exact ⟨_, rfl, fin H3 false (Go.refl ws3.st.dr)⟩
      · exact ⟨_, ss, c', rfl, bl, ws2, k0, k1, by omega, so⟩
    · rintro σ H2 ⟨y, ss, c', rfl, bl, ws2, k0, k1, sl, so⟩
      obtain ⟨zs, hz1, hz2, hz3⟩ := bl.len
      refine ⟨_, rfl, want, rfl, ?_⟩
      cases want with
      | true =>
        refine ⟨_, rfl, .inl ⟨rfl, _, SqL.of hz1⟩, _, rfl, _, rfl, _, _, rfl, .inl ⟨_, SqL.of hz1, rfl⟩, _, _, rfl, rfl, S, D, _, rfl, divW_of (by omega) (by omega), ws2.st.dr, fun H3 v v0 v1 g3 => ?_⟩
        have ws3 := ws2.go g3
        have bl3 := bl.go ws.st hB (dS_noL (dB_noL n)) (GoL.of_go ws2.st g3)
        refine ⟨_, rfl, _, rfl, _, rfl, S, D, Wd, k, c', true, rfl, ws3, k0, by omega, fun H4 x s c4 g4 ws4 c40 c41 hv oks => ?_⟩
        have bl4 := bl3.go ws.st hB (dS_noL (dB_noL n)) g4
        obtain ⟨zs4, h41, h42, h43⟩ := bl4.len
        refine ⟨B, zs4, v, x, rfl, rfl, h41, line6 (by omega), v0, by omega, ?_⟩
        have hA := dpA_ins (f := dS (dB n)) v.toNat h42 hv
        generalize hzz : zs4.take v.toNat ++ [x] ++ zs4.drop v.toNat = zz at hA
        have k5 := keepT_nt (o := .lst zz) (nt_lst _) h41
        have hA5 := dpA_keep k5 _ _ (noLs_of (dS_noL (dB_noL n)) _) hA
        have ws5 := ws4.updL (o := .lst zz) nes BD BS BW
        have g5 := GoL.mut (o := .lst zz) ws.st bl4.g hB
        refine ⟨_, rfl, B, zz, rfl, .inl ⟨SqL.of upd_same, fun lt hlt => ?_⟩⟩
        have g6 := g5.trans (GoL.new (o := .tup zz) g5.1 hlt)
        have hA6 := dpA_keep (keepT_new (o := .tup zz) hlt) _ _ (noLs_of (dS_noL (dB_noL n)) _) hA5
        refine q _ _ (show Bd (n + 1) from ins v.toNat s ss) c4 g6 (ws5.new hlt) c40 ?_ (.tup (SqT.of upd_same) hA6) ⟨?_, fun s' hs' => ?_⟩
        · show (((ins v.toNat s ss).map (cS (cB n))).sum : Int) + c4 ≤ c + 1
          rw [ins_sum]
          omega
        · show (ins v.toNat s ss).length ≤ 1000
          rw [ins_len]
          omega
        · rcases ins_mem hs' with h | h
          · rw [h]
            exact oks
          · exact so s' h
      | false =>
        refine ⟨_, rfl, Wd, _, rfl, ws2.left, _, _, rfl, rfl, _, ws2.put _, ?_⟩
        obtain ⟨ws3, a3⟩ := ws2.set (c' + 1)
        generalize upd H2 Wd (.dK (kvsOf (c' + 1) k.base k.es)) = H3 at ws3 a3
        have bl3 := bl.go ws.st hB (dS_noL (dB_noL n)) a3
        obtain ⟨zs3, h31, h32, h33⟩ := bl3.len
        refine ⟨_, rfl, B, zs3, rfl, .inl ⟨SqL.of h31, fun lt hlt => ?_⟩⟩
        have hA6 := dpA_keep (keepT_new (o := .tup zs3) hlt) _ _ (noLs_of (dS_noL (dB_noL n)) _) h32
        refine q _ _ (show Bd (n + 1) from ss) (c' + 1) (bl3.g.trans (GoL.new bl3.g.1 hlt)) (ws3.new hlt) (by omega) ?_ (.tup (SqT.of upd_same) hA6) ⟨by show ss.length ≤ 1000; omega, so⟩
        show ((ss.map (cS (cB n))).sum : Int) + (c' + 1) ≤ c + 1
        omega
/-! ### loops in loops -/
def spLoops (K : PySem.W.Frag) : Sp := fun vs H Q _ => ∃ (S D Wd : Addr) (k : WK) (c : Int), vs = [.ref D, .ref Wd] ∧ WSt S D Wd k c H ∧ ∀ (H' : Hp) (v : V) (n : Nat) (b : Bd n), n ≤ 8 → Go S D H H' → Dp K H' v (dB n b) → okB n b → cB n b ≤ 30 → Q v H'
def LC : List Str := (["hold", "mark", "add", "put", "stop"] : List String).map Str.ofString
theorem lc_leaf : ∀ z ∈ LC, z ∈ LEAF := by
  have : LC.all (fun z => decide (z ∈ LEAF)) = true := by decide +kernel
  exact fun z hz => of_decide_eq_true (List.all_eq_true.mp this z hz)
theorem leaf_sum {B : Type} (cb : B → Nat) : ∀ l : List (S1 B), (∀ s ∈ l, ∃ w as, s = .leaf w as) → (l.map (cS cb)).sum = l.length
  | [], _ => rfl
  | s :: r, h => by
    obtain ⟨w, as, rfl⟩ := h s List.mem_cons_self
    rw [List.map_cons, List.sum_cons, leaf_sum cb r fun x hx => h x (List.mem_cons_of_mem _ hx), List.length_cons]
    show 1 + 0 + _ = _
    omega
theorem ok_loops (T : Txt w K mg) (D__law_draw : Kept P w K mg base 1 "_law_draw" ["d", "many"] spDraw) (D__law_pick : Kept P w K mg base 2 "_law_pick" ["d", "row"] (spPick K)) (D__law_leaf : Kept P w K mg base 3 "_law_leaf" ["d", "world", "word"] (spLeaf K))
    {f : Addr} {fd : FuncData} (F : FnP K "_law_loops" s__law_loops f fd) : FnOk P w K mg base CX0 4 f fd ["d", "world"] (spLoops K) := by
  refine F.ok sc__law_loops (fun vs H Q E h => ?_) (fun cdv A outer s H vs Q E hr h => ?_)
  · obtain ⟨S, D, Wd, k, c, rfl, _⟩ := h
    rfl
  · obtain ⟨S, D, Wd, k, c, rfl, ws, q⟩ := h
    refine ⟨_, PSs.nox (pss_cons (ps_set (i := 2) sc__law_loops.nd rfl (Or.inl rfl) (pe_tup pa_nil))
      (pss_cons (ps_for PassesOwn.never rfl (pi_range1 (by rfl) T.b_range (pa_cons (pe_op op_add pe_int (pe_d D__law_draw (hr.mono (by decide)) (by rfl) (pa_cons (pv 0) (pa_cons pe_int pa_nil)))) pa_nil)) (pg_name (i := 3) sc__law_loops.nd rfl (Or.inl rfl)) (pss_cons (ps_set (i := 4) sc__law_loops.nd rfl (Or.inl rfl) (pe_lst pa_nil))
      (pss_cons (ps_for PassesOwn.never rfl (pi_range1 (by rfl) T.b_range (pa_cons (pe_d D__law_draw (hr.mono (by decide)) (by rfl) (pa_cons (pv 0) (pa_cons pe_int pa_nil))) pa_nil)) (pg_name (i := 5) sc__law_loops.nd rfl (Or.inl rfl)) (pss_one (ps_expr (pe_bm PySem.F.plainAttrs_list PySem.F.slot_list_append PySem.F.type_list_append mt_append (pv 4) (pa_cons (pe_d D__law_leaf (hr.mono (by decide)) (by rfl) (pa_cons (pv 0) (pa_cons (pv 1) (pa_cons (pe_d D__law_pick (hr.mono (by decide)) (by rfl) (pa_cons (pv 0) (pa_cons (pe_lst (pa_cons pe_str (pa_cons pe_str (pa_cons pe_str (pa_cons pe_str (pa_cons pe_str pa_nil)))))) pa_nil))) pa_nil)))) pa_nil)))))
      (Evl.pss_cut (ps_if (pt_cmpR op_gt (pv 3) pe_int (nomark _)) (pss_one (ps_expr (pe_bm PySem.F.plainAttrs_list PySem.F.slot_list_insert PySem.F.type_list_insert mt_insert (pv 4) (pa_cons (pe_d D__law_draw (hr.mono (by decide)) (by rfl) (pa_cons (pv 0) (pa_cons (pe_op op_add (pe_callB call_len (by rfl) T.b_len (by decide +kernel) (pa_cons (pv 4) pa_nil)) pe_int) pa_nil))) (pa_cons (pe_tup (pa_cons pe_str (pa_cons (pe_op op_add pe_int (pe_d D__law_draw (hr.mono (by decide)) (by rfl) (pa_cons (pv 0) (pa_cons pe_int pa_nil)))) (pa_cons (pv 2) pa_nil)))) pa_nil))))) pss_nil)
      (pss_one (ps_set (i := 2) sc__law_loops.nd rfl (Or.inl rfl) (pe_callTy call_tuple_of (by rfl) T.b_tuple (by decide +kernel) (pa_cons (pv 4) pa_nil))))))))
      (pss_one (ps_ret (pv 2))))), ?_⟩
    refine ⟨Nat.zero_le _, fun e0 he0 => ?_⟩
    have g0 := Go.new (o := .tup []) ws.st.dr he0
    refine ⟨_, rfl, S, D, 7, rfl, divW_of (by decide) (by decide), g0.1, fun H1 m m0 m1 g1 => ⟨_, _, rfl, rfl, _, rfl, by omega, by omega, for_range (lo := 0) (n := (1 + m).toNat) (fun i σ H' => ∃ (v : V) (y3 y4 y5 : Option V), σ = [some (.ref D), some (.ref Wd), some v, y3, y4, y5] ∧ Go S D H H' ∧ (0 < i → ∃ b : Bd i, Dp K H' v (dB i b) ∧ okB i b ∧ cB i b ≤ 3 * i)) ⟨.ref e0, _, _, _, rfl, g0.trans g1, fun h => absurd h (Nat.lt_irrefl 0)⟩ ?_ ?_⟩⟩
    · rintro i σ H2 hi ⟨v, y3, y4, y5, rfl, g2, hb⟩
      have i7 : i < 7 := by omega
      refine ⟨Nat.zero_le _, fun R hR => ?_⟩
      have st2 := StF.of_draw g2.1
      have RD := (g2.1.free hR).1
      have g3 := Go.new (o := .lst []) g2.1 hR
      have bl0 : BL K S D D R H2 (upd H2 R (.lst [])) (dS (dB i)) [] := BL.nil st2 hR
      refine ⟨_, rfl, S, D, 3, rfl, divW_of (by decide) (by decide), g3.1, fun H4 r r0 r1 g4 => ?_⟩
      refine ⟨_, rfl, by omega, by omega, for_range (lo := 0) (n := r.toNat) (fun j σ H' => ∃ (y5 : Option V) (ss : List (S1 (Bd i))), σ = [some (.ref D), some (.ref Wd), some v, some (.int (0 + (i : Int))), some (.ref R), y5] ∧ BL K S D D R H2 H' (dS (dB i)) ss ∧ ss.length = j ∧ ∀ s ∈ ss, okS (okB i) s ∧ ∃ w as, s = .leaf w as) ⟨_, [], rfl, bl0.go st2 hR (dS_noL (dB_noL i)) (GoL.of_go bl0.g.1 g4), rfl, fun _ h => absurd h List.not_mem_nil⟩ ?_ ?_⟩
      · rintro j σ H5 hj ⟨y5, ss, rfl, bl, sl, so⟩
        obtain ⟨zs0, hz0, _, _⟩ := bl.len
        refine ⟨_, rfl, .inl ⟨rfl, _, SqL.of hz0⟩, _, rfl, _, rfl, _, rfl, by show 5 ≤ sizeLine; decide, fun PL hPL => ?_⟩
        have g5 := bl.g.to_go
        have n5 := (g5.1.free hPL).1
        have g6 := g5.trans (Go.new (o := .lst (LC.map V.str)) g5.1 hPL)
        refine ⟨S, D, .ref PL, LC.map V.str, rfl, g6.1, fun H' g => .inr ⟨PL, rfl, SqL.of (g.2 _ _ upd_same n5)⟩, by show 0 < 5; decide, by show 5 ≤ 100000; decide, fun Ha xa hxa ha => ?_⟩
        obtain ⟨z, hz, rfl⟩ := List.mem_map.mp hxa
        have ga := g6.trans ha
        refine ⟨S, D, Wd, k, c, z, rfl, lc_leaf z hz, ws.go (g2.trans ga), fun Hb v2 as hb2 hl hd => ?_⟩
        have blb := bl.go st2 hR (dS_noL (dB_noL i)) (GoL.of_go bl.g.1 (((Go.new (o := .lst (LC.map V.str)) g5.1 hPL).trans ha).trans hb2))
        obtain ⟨zs, hz1, hz2, hz3⟩ := blb.len
        refine ⟨R, zs, _, rfl, rfl, hz1, line6 (by omega), _, ss ++ [.leaf z as], rfl, BL.add st2 hR (dS_noL (dB_noL i)) blb.g hz1 hz2 (show Dp K Hb v2 (dS (dB i) (.leaf z as)) from hd), by rw [List.length_append, List.length_singleton, sl], fun s hs => ?_⟩
        rcases List.mem_append.mp hs with h | h
        · exact so s h
        · rw [List.mem_singleton.mp h]
          exact ⟨⟨lc_leaf z hz, hl⟩, _, _, rfl⟩
      · rintro σ H5 ⟨y5, ss, rfl, bl, sl, so⟩
        obtain ⟨zs, hz1, hz2, hz3⟩ := bl.len
        have g5 := g2.trans bl.g.to_go
        have hss : (ss.map (cS (cB i))).sum = ss.length := leaf_sum (cB i) ss fun s hs => (so s hs).2
        refine ⟨fun σ' H' => ∃ (ss : List (S1 (Bd i))) (vs : List V), σ' = [some (.ref D), some (.ref Wd), some v, some (.int (0 + (i : Int))), some (.ref R), y5] ∧ Go S D H H' ∧ H' R = some (.lst vs) ∧ DpAll K H' vs (ss.map (dS (dB i))) ∧ (∀ s ∈ ss, okS (okB i) s) ∧ (ss.map (cS (cB i))).sum ≤ 3 * (i + 1) ∧ ss.length ≤ 4, ?_, ?_⟩
        · refine ⟨_, rfl, _, _, rfl, rfl, _, rfl, ?_⟩
          refine ite2 (fun e => ?_) (fun _ => ⟨ss, zs, rfl, g5, hz1, hz2, fun s hs => (so s hs).1, by omega, by omega⟩)
          have ip : 0 < i := by
            have := of_decide_eq_true (show decide ((0 : Int) < 0 + (i : Int)) = true from e)
            omega
          obtain ⟨b, hbd, okb, cb⟩ := hb ip
          refine ⟨_, rfl, .inl ⟨rfl, _, SqL.of hz1⟩, _, rfl, _, rfl, _, _, rfl, .inl ⟨_, SqL.of hz1, rfl⟩, _, _, rfl, rfl, S, D, _, rfl, divW_of (by omega) (by omega), g5.1, fun H6 u u0 u1 g6 => ?_⟩
          refine ⟨_, rfl, S, D, 9, rfl, divW_of (by decide) (by decide), g6.1, fun H7 w7 w0 w1 g7 => ⟨_, _, rfl, rfl, _, rfl, by show 3 ≤ sizeLine; decide, fun p hp => ?_⟩⟩
          have g67 := g6.trans g7
          have g8 := g67.trans (Go.new (o := .tup [V.str "loop", .int (1 + w7), v]) g67.1 hp)
          have hz8 := g8.2 _ _ hz1 RD
          have hA8 := dpA_keep (Go.keepT g5.1 g8) _ _ (noLs_of (dS_noL (dB_noL i)) _) hz2
          have hv8 := dp_keep (Go.keepT g2.1 (bl.g.to_go.trans g8)) _ _ (dB_noL i b) hbd
          have hd8 : Dp K _ (.ref p) (dS (dB i) (.loop (1 + w7) b)) := .tup (SqT.of (upd_same (a := p) (o := .tup [V.str "loop", .int (1 + w7), v]))) (.cons (.str _) (.cons (.int _) (.cons hv8 .nil)))
          refine ⟨R, zs, u, .ref p, rfl, rfl, hz8, line6 (by omega), u0, by omega, ?_⟩
          have hA9 := dpA_ins (f := dS (dB i)) (a := S1.loop (1 + w7) b) u.toNat hA8 hd8
          refine ⟨ins u.toNat (.loop (1 + w7) b) ss, _, rfl, Go.mut ws.st.dr (g5.trans g8) (Go.free g2 ws.st.dr hR), upd_same, dpA_keep (keepT_nt (nt_lst _) hz8) _ _ (noLs_of (dS_noL (dB_noL i)) _) hA9, fun s hs => ?_, ?_, by rw [ins_len]; omega⟩
          · rcases ins_mem hs with h | h
            · rw [h]
              exact ⟨⟨by omega, by omega⟩, okb⟩
            · exact (so s h).1
          · rw [ins_sum, hss]
            show ss.length + (1 + (cB i b + 0)) ≤ _
            omega
        · rintro σ' H6 ⟨ss6, vs6, rfl, g6, hR6, hA6, ok6, c6, l6⟩
          refine ⟨_, rfl, R, vs6, rfl, .inl ⟨SqL.of hR6, fun lt hlt => ?_⟩⟩
          refine ⟨.ref lt, _, _, _, rfl, g6.trans (Go.new g6.1 hlt), fun _ => ⟨(show Bd (i + 1) from ss6), .tup (SqT.of upd_same) (dpA_keep (keepT_new (o := .tup vs6) hlt) _ _ (noLs_of (dS_noL (dB_noL i)) _) hA6), ⟨by show ss6.length ≤ 1000; omega, ok6⟩, c6⟩⟩
    · rintro σ H2 ⟨v, y3, y4, y5, rfl, g2, hb⟩
      obtain ⟨b, hbd, okb, cb⟩ := hb (by omega)
      exact ⟨_, rfl, q _ _ _ b (by omega) g2 hbd okb (by omega)⟩
end
end Mt
namespace Mt
open PySem PySem.Spec PyProof.Rows L2
def spLaw (K : PySem.W.Frag) : Sp := fun vs H Q _ => ∃ (a : Addr) (ns : List Int), vs = [.ref a] ∧ SqL K H a (ns.map V.int) ∧ ns.length ≤ 63 ∧ H (BP K) = some (.tbl #[]) ∧ ∀ H', Q (.bl true) H'
theorem tab_nil {H : Hp} {P : Addr} (h : H P = some (.tbl #[])) : GxR.TabG H P := ⟨#[], h, True.intro⟩
theorem tab_same {H H' : Hp} {P : Addr} (t : GxR.TabG H P) (s : Same H H') : GxR.TabG H' P := let ⟨ps, h, r⟩ := t; ⟨ps, s _ _ h, r⟩
theorem tab_go {S D P : Addr} {H H' : Hp} (d : DrawAt S D H) (t : GxR.TabG H P) (g : Go S D H H') : GxR.TabG H' P := by
  obtain ⟨ps, h, r⟩ := t
  obtain ⟨_, _, _, _, hD⟩ := d.at_
  refine ⟨ps, g.2 _ _ h fun e => ?_, r⟩
  rw [e, hD] at h
  cases h
theorem sum_mem : ∀ (l : List Nat) (x : Nat), x ∈ l → x ≤ l.sum
  | y :: r, x, h => by
    rw [List.sum_cons]
    rcases List.mem_cons.mp h with h | h
    · subst h
      omega
    · have := sum_mem r x h
      omega
theorem go_world {S D Wd : Addr} {H H1 H2 : Hp} (g : Go S D H H1) (h0 : H Wd = none) (g2 : GoL S D Wd H1 H2) : Go S D H H2 := ⟨g2.1.dr, fun b o h n => g2.2 b o (g.2 b o h n) n (ne_of_none h h0)⟩
theorem ok_movesX {P : Program} {w : World} {K : PySem.W.Frag} {mg : Str → Option Value} {base : Heap} {f : Addr} {fd : FuncData} (h : ∀ n, n ≤ 8 → FnOk P w K mg base CX0 18 f fd ["body"] (spMoves K n)) : FnOk P w K mg base CX0 18 f fd ["body"] (spMovesX K) :=
  ⟨fun vs H Q E ⟨n, hn, s⟩ => (h n hn).len vs H Q E s, fun A outer s H args us vs Q E hr he hb hv ⟨n, hn, hs⟩ => (h n hn).run A outer s H args us vs Q E hr he hb hv hs⟩
def IsB (K : PySem.W.Frag) (H : Hp) (x : V) : Prop := ∃ (n : Nat) (b : Bd n), n ≤ 8 ∧ okB n b ∧ cB n b ≤ 60 ∧ Dp K H x (dB n b)
theorem IsB.keep {K : PySem.W.Frag} {H H' : Hp} {x : V} (h : IsB K H x) (k : KeepT H H') : IsB K H' x := let ⟨n, b, a1, a2, a3, a4⟩ := h; ⟨n, b, a1, a2, a3, dp_keep k _ _ (dB_noL n b) a4⟩
section
variable {P : Program} {w : World} {K : PySem.W.Frag} {mg : Str → Option Value} {base : Heap}
theorem ok_law (T : Txt w K mg) (D_moves_of : Kept P w K mg base 18 "moves_of" ["body"] (spMovesX K)) (D__law_begin : Kept P w K mg base 1 "_law_begin" ["script"] (spBegin K)) (D__law_draw : Kept P w K mg base 1 "_law_draw" ["d", "many"] spDraw) (D__law_rare : Kept P w K mg base 2 "_law_rare" ["d", "many"] spRare) (D__law_is_int : Kept P w K mg base 1 "_law_is_int" ["thing"] spIsInt) (D__law_world : Kept P w K mg base 3 "_law_world" ["d", "budget"] spWorld) (D__law_willed : Kept P w K mg base 17 "_law_willed" ["d", "world", "want", "depth"] (spWilled K 6)) (D__law_loops : Kept P w K mg base 4 "_law_loops" ["d", "world"] (spLoops K)) (D__law_count : Kept P w K mg base 2 "_law_count" ["body"] (spCount K)) {f : Addr} {fd : FuncData} (F : FnP K "law" s_law f fd) : FnOk P w K mg base CX0 20 f fd ["script"] (spLaw K) := by
  refine F.ok sc_law (fun vs H Q E h => ?_) (fun cdv A outer s H vs Q E hr h => ?_)
  · obtain ⟨a, ns, rfl, _⟩ := h
    rfl
  · obtain ⟨a, ns, rfl, hS, hlen, ht, q⟩ := h
    refine ⟨_, PSs.nox (pss_cons (ps_set (i := 1) sc_law.nd rfl (Or.inl rfl) (pe_d D__law_begin (hr.mono (by decide)) (by rfl) (pa_cons (pv 0) pa_nil)))
      (pss_cons (ps_set (i := 2) sc_law.nd rfl (Or.inl rfl) (pe_lst pa_nil))
      (pss_cons (ps_for PassesOwn.never rfl (pi_list (pe_lst (pa_cons pe_int (pa_cons pe_int (pa_cons (pe_op op_add pe_int (pe_op op_mul pe_int (pe_callTy call_int1 (by rfl) T.b_int (by decide +kernel) (pa_cons (pe_d D__law_rare (hr.mono (by decide)) (by rfl) (pa_cons (pv 1) (pa_cons pe_int pa_nil))) pa_nil)))) pa_nil))))) (pg_name (i := 3) sc_law.nd rfl (Or.inl rfl)) (pss_cons (ps_set (i := 4) sc_law.nd rfl (Or.inl rfl) (pe_d D__law_world (hr.mono (by decide)) (by rfl) (pa_cons (pv 1) (pa_cons (pv 3) pa_nil))))
      (pss_one (ps_expr (pe_bm PySem.F.plainAttrs_list PySem.F.slot_list_append PySem.F.type_list_append mt_append (pv 2) (pa_cons (pe_d D__law_willed (hr.mono (by decide)) (by rfl) (pa_cons (pv 1) (pa_cons (pv 4) (pa_cons (pe_cmpR op_eq (pe_d D__law_draw (hr.mono (by decide)) (by rfl) (pa_cons (pv 1) (pa_cons pe_int pa_nil))) pe_int (nomark _)) (pa_cons pe_int pa_nil))))) pa_nil))))))
      (pss_cons (ps_expr (pe_bm PySem.F.plainAttrs_list PySem.F.slot_list_append PySem.F.type_list_append mt_append (pv 2) (pa_cons (pe_d D__law_loops (hr.mono (by decide)) (by rfl) (pa_cons (pv 1) (pa_cons (pe_d D__law_world (hr.mono (by decide)) (by rfl) (pa_cons (pv 1) (pa_cons pe_int pa_nil))) pa_nil))) pa_nil)))
      (pss_cons (ps_set (i := 5) sc_law.nd rfl (Or.inl rfl) (pe_callTy call_list_of (by rfl) T.b_list (by decide +kernel) (pa_cons (pv 2) pa_nil)))
      (pss_cons (ps_for PassesOwn.never rfl (pi_list (pe_slice sl_list (pv 2) po_none (po_some pe_int))) (pg_name (i := 6) sc_law.nd rfl (Or.inl rfl)) (pss_one (ps_set (i := 5) sc_law.nd rfl (Or.inl rfl) (pe_op op_cat (pe_op op_cat (pv 5) (pe_lc (own := [("one", 7)]) (g := (gName 7)) (tt := tYes) rfl sc_law.nd (pi_tup (pv 6)) (blkOk_by (N := N_law) (sc := defScope s_law) (by decide +kernel)) (fun _ _ _ _ _ => (pg_name (i := 7) sc_law.nd rfl (Or.inl rfl))) (fun _ _ _ _ _ => pts_nil) (fun _ _ _ _ _ => (pe_tup (pa_cons (pv 7) pa_nil))))) (pe_lst (pa_cons (pv 6) pa_nil))))))
      (pss_cons (ps_for PassesOwn.never rfl (pi_list (pe_op op_cat (pv 5) (pe_slice sl_list (pv 2) (po_some pe_int) po_none))) (pg_name (i := 6) sc_law.nd rfl (Or.inl rfl)) (pss_cons (ps_set (i := 8) sc_law.nd rfl (Or.inl rfl) (pe_d D_moves_of (hr.mono (by decide)) (by rfl) (pa_cons (pv 6) pa_nil)))
      (pss_one (ps_if (PW.pt (pw_or (pt_not (pt_val (pe_d D__law_is_int (hr.mono (by decide)) (by rfl) (pa_cons (pv 8) pa_nil)))) (pw_or1 (pt_cmpR op_ne (pv 8) (pe_d D__law_count (hr.mono (by decide)) (by rfl) (pa_cons (pv 6) pa_nil)) (nomark _))))) (pss_one (ps_ret pe_bl)) pss_nil))))
      (pss_one (ps_ret pe_bl))))))))), ?_⟩
    refine ⟨_, rfl, a, ns, rfl, hS, hlen, fun S D H1 s1 fD d => ?_⟩
    have t1 := tab_same (tab_nil ht) s1
    refine ⟨Nat.zero_le _, fun B hB => ?_⟩
    have st1 := StF.of_draw d
    have gB := Go.new (o := .lst []) d hB
    have bl0 : BL K S D D B H1 (upd H1 B (.lst [])) (dB 7) [] := BL.nil st1 hB
    refine ⟨_, rfl, S, D, 5, rfl, by decide, by decide, gB.1, fun H2 rb g2 => ?_⟩
    refine .inr ⟨rb, rfl, _, _, rfl, rfl, .inl ⟨by decide, by decide⟩, _, _, rfl, rfl, by show 3 ≤ sizeLine; decide, fun Bu hBu => ?_⟩
    have hbz : 0 ≤ (4 + 55 * (if rb = true then 1 else 0) : Int) ∧ (4 + 55 * (if rb = true then 1 else 0) : Int) ≤ 59 := by
      cases rb with
      | true => exact ⟨by decide, by decide⟩
      | false => exact ⟨by decide, by decide⟩
    have gBu := Go.new (o := .lst [V.int 4, .int 14, .int (4 + 55 * (if rb = true then 1 else 0))]) g2.1 hBu
    have BuD := (g2.1.free hBu).1
    have BuB : B ≠ Bu := ne_of_none (g2.2 _ _ upd_same (d.free hB).1) hBu
    have bl2 := bl0.go st1 hB (dB_noL 7) (GoL.of_go bl0.g.1 (g2.trans gBu))
    have t2 := tab_go d t1 bl2.g.to_go
    refine ⟨Bu, rfl, ⟨_, SqL.of upd_same⟩, for_list (K := K) (a := Bu) (xs := [V.int 4, .int 14, .int (4 + 55 * (if rb = true then 1 else 0))]) (fun i σ H' => ∃ (y3 y4 : Option V) (bs : List (Bd 7)), σ = [some (.ref a), some (.ref D), some (.ref B), y3, y4, none, none, none, none] ∧ BL K S D D B H1 H' (dB 7) bs ∧ H' Bu = some (.lst [V.int 4, .int 14, .int (4 + 55 * (if rb = true then 1 else 0))]) ∧ bs.length = i ∧ ∀ b ∈ bs, okB 7 b ∧ cB 7 b ≤ 60) ⟨none, none, [], rfl, bl2, upd_same, rfl, fun _ h => absurd h List.not_mem_nil⟩ (fun i σ H' _ ⟨_, _, _, _, _, h, _⟩ => SqL.of h) ?_ ?_⟩
    · rintro i x σ H3 hi ⟨y3, y4, bs, rfl, bl, hBu3, bsl, bok⟩
      obtain ⟨c, rfl, c0, c59⟩ : ∃ c : Int, x = V.int c ∧ 0 ≤ c ∧ c ≤ 59 := by
        have := List.mem_of_getElem? hi
        simp only [List.mem_cons, List.not_mem_nil, or_false] at this
        rcases this with h | h | h
        · exact ⟨4, h, by decide, by decide⟩
        · exact ⟨14, h, by decide, by decide⟩
        · exact ⟨(4 + 55 * (if rb = true then 1 else 0)), h, hbz.1, hbz.2⟩
      have hi3 : i < 3 := (List.getElem?_eq_some_iff.mp hi).1
      refine ⟨_, rfl, _, rfl, S, D, c, rfl, bl.g.1.dr, fun H4 Wd k g4 hW0 ws => ?_⟩
      have bl4 := bl.go st1 hB (dB_noL 7) (GoL.of_go bl.g.1 g4)
      obtain ⟨zs4, hz4, _, _⟩ := bl4.len
      refine ⟨_, rfl, .inl ⟨rfl, _, SqL.of hz4⟩, _, rfl, _, rfl, _, rfl, S, D, 2, rfl, divW_of (by decide) (by decide), ws.st.dr, fun H5 v v0 v1 g5 => ⟨rfl, S, D, Wd, k, c, _, rfl, ws.go g5, c0, by omega, fun H6 vx b c6 g6 ws6 c60 c61 hv okb => ?_⟩⟩
      have g36 := go_world (g4.trans g5) hW0 g6
      have bl6 := bl.go st1 hB (dB_noL 7) (GoL.of_go bl.g.1 g36)
      obtain ⟨zs, hz1, hz2, hz3⟩ := bl6.len
      refine ⟨B, zs, _, rfl, rfl, hz1, line6 (by omega), _, _, bs ++ [b], rfl, BL.add st1 hB (dB_noL 7) bl6.g hz1 hz2 hv, ?_, by rw [List.length_append, List.length_singleton, bsl], fun b' hb' => ?_⟩
      · rw [upd_ne BuB.symm]
        exact g36.2 _ _ hBu3 BuD
      · rcases List.mem_append.mp hb' with h | h
        · exact bok b' h
        · rw [List.mem_singleton.mp h]
          exact ⟨okb, by show cB (6 + 1) b ≤ 60; omega⟩
    · rintro σ H3 ⟨y3, y4, bs, rfl, bl, hBu3, bsl, bok⟩
      have bsl3 : bs.length = 3 := bsl
      obtain ⟨zs3, hz31, hz32, hz33⟩ := bl.len
      refine ⟨_, rfl, .inl ⟨rfl, _, SqL.of hz31⟩, _, rfl, _, rfl, S, D, 0, rfl, bl.g.1.dr, fun H4 Wd k g4 hW0 ws => ?_⟩
      refine ⟨S, D, Wd, k, 0, rfl, ws, fun H5 vl nL bL hnL g5 hvl okl cl => ?_⟩
      have g35 := g4.trans g5
      have bl5 := bl.go st1 hB (dB_noL 7) (GoL.of_go bl.g.1 g35)
      obtain ⟨zs, hz1, hz2, hz3⟩ := bl5.len
      refine ⟨B, zs, _, rfl, rfl, hz1, line6 (by omega), ?_⟩
      have kB := keepT_nt (o := .lst (zs ++ [vl])) (nt_lst _) hz1
      have g6 := GoL.to_go (GoL.mut (o := .lst (zs ++ [vl])) st1 bl5.g hB)
      have t6 := tab_go d t1 g6
      have inB6 : ∀ x ∈ zs ++ [vl], IsB K (upd H5 B (.lst (zs ++ [vl]))) x := fun x hx => by
        rcases List.mem_append.mp hx with h | h
        · obtain ⟨j, hj, e⟩ := List.getElem_of_mem h
          obtain ⟨d', h1, h2⟩ := dpA_at hz2 (List.getElem?_eq_getElem hj)
          obtain ⟨b, hb, rfl⟩ := map_at h1
          obtain ⟨o1, o2⟩ := bok b (List.mem_of_getElem? hb)
          exact ⟨7, b, by decide, o1, o2, dp_keep kB _ _ (dB_noL 7 b) (by rw [← e]; exact h2)⟩
        · rw [List.mem_singleton.mp h]
          exact ⟨nL, bL, hnL, okl, by omega, dp_keep kB _ _ (dB_noL nL bL) hvl⟩
      have hB1 : (upd H5 B (.lst (zs ++ [vl]))) B = some (.lst (zs ++ [vl])) := upd_same
      have hB3 : (zs ++ [vl]).length = 4 := by
        rw [List.length_append, hz3, bsl3]
        rfl
      generalize hH6 : upd H5 B (.lst (zs ++ [vl])) = H6 at t6 hB1 inB6
      generalize zs ++ [vl] = zB at hB1 hB3 inB6
      clear bl5 hz1 hz2 hz3 hvl hz31 hz32 hz33 kB
      -- the rows
      refine ⟨_, rfl, B, zB, rfl, .inl (SqL.of hB1), fun R hR => ?_⟩
      have sR := same_new (o := .lst zB) hR
      refine ⟨_, rfl, _, rfl, B, zB, rfl, SqL.of (sR _ _ hB1), fun sl hsl => ?_⟩
      have sS := sR.trans (same_new (o := .lst (cutV zB none (some 2))) hsl)
      have nRs : R ≠ sl := ne_of_none upd_same hsl
      have hR1 : (upd (upd H6 R (.lst zB)) sl (.lst (cutV zB none (some 2)))) R = some (.lst zB) := by rw [upd_ne nRs, upd_same]
      have hS1 : (upd (upd H6 R (.lst zB)) sl (.lst (cutV zB none (some 2)))) sl = some (.lst (cutV zB none (some 2))) := upd_same
      have inB : ∀ x ∈ zB, IsB K _ x := fun x hx => (inB6 x hx).keep (KeepT.of_same sS)
      have t7 := tab_same t6 sS
      have hB7 := sS _ _ hB1
      generalize upd (upd H6 R (.lst zB)) sl (.lst (cutV zB none (some 2))) = H7 at sS hR1 hS1 inB t7 hB7
      have csl : (cutV zB none (some 2)).length ≤ 4 := Nat.le_trans (cutV_len _ _ _) (by omega)
      refine ⟨sl, rfl, ⟨_, SqL.of hS1⟩, for_list (K := K) (a := sl) (xs := cutV zB none (some 2)) (fun i σ H' => ∃ (y6 y7 : Option V) (R' : Addr) (zs' : List V), σ = [some (.ref a), some (.ref D), some (.ref B), y3, y4, some (.ref R'), y6, y7, none] ∧ Same H7 H' ∧ H' R' = some (.lst zs') ∧ zs'.length ≤ 4 + 1001 * i ∧ ∀ x ∈ zs', IsB K H' x) ⟨none, none, R, zB, rfl, fun _ _ h => h, hR1, by omega, inB⟩ (fun i σ H' _ ⟨_, _, _, _, _, s, _⟩ => SqL.of (s _ _ hS1)) ?_ ?_⟩
      · rintro i x σ H8 hi ⟨y6, y7, R', zs', rfl, s8, hR8, zl8, in8⟩
        have hi4 := (List.getElem?_eq_some_iff.mp hi).1
        obtain ⟨n0, b0, n8, ob, cb, hb⟩ := inB x (cutV_mem (List.mem_of_getElem? hi))
        obtain ⟨n, rfl⟩ : ∃ n, n0 = n + 1 := by
          cases n0 with
          | zero => exact nomatch b0
          | succ n => exact ⟨n, rfl⟩
        obtain ⟨b, rfl⟩ : ∃ b : List (S1 (Bd n)), b = b0 := ⟨b0, rfl⟩
        obtain ⟨xa, xs, rfl, hxT, hxA⟩ := dp_tup (show Dp K H7 x (.tuple (b.map (dS (dB n)))) from hb)
        have xl := dpA_len hxA
        rw [List.length_map] at xl
        have bl1000 : b.length ≤ 1000 := ob.1
        have hxT8 := sqt_keep (KeepT.of_same s8) hxT
        refine ⟨_, rfl, _, rfl, xa, rfl, ⟨_, hxT8⟩, fun L hL => lc_tup (K := K) (a := xa) (xs := xs) (fun j H' => Same H8 H' ∧ ∃ ws, H' L = some (.lst ws) ∧ ws.length = j ∧ ∀ x ∈ ws, IsB K H' x) ⟨same_new hL, [], upd_same, rfl, fun _ h => absurd h List.not_mem_nil⟩ (fun j H' _ e => sqt_keep (KeepT.of_same e.1) hxT8) ?_ ?_⟩
        · rintro j xj H9 hj ⟨s9, ws, hw9, wl9, in9⟩
          have hj' := (List.getElem?_eq_some_iff.mp hj).1
          obtain ⟨dd, h1, h2⟩ := dpA_at hxA hj
          obtain ⟨st, hst, rfl⟩ := map_at h1
          have oks := ob.2 st (List.mem_of_getElem? hst)
          have cst : cS (cB n) st ≤ 60 := Nat.le_trans (sum_mem _ _ (List.mem_map_of_mem (List.mem_of_getElem? hst))) cb
          refine ⟨rfl, _, rfl, by show 1 ≤ sizeLine; decide, fun p hp => ?_⟩
          have s10 := same_new (o := .tup [xj]) hp
          refine ⟨ws, s10 _ _ hw9, line6 (by omega), same_mut (s9.trans s10) hL, ws ++ [.ref p], upd_same, by rw [List.length_append, List.length_singleton, wl9], fun x' hx' => ?_⟩
          have kL : KeepT (upd H9 p (.tup [xj])) (upd (upd H9 p (.tup [xj])) L (.lst (ws ++ [.ref p]))) := keepT_nt (nt_lst _) (s10 _ _ hw9)
          rcases List.mem_append.mp hx' with h | h
          · exact (in9 x' h).keep ((KeepT.of_same s10).trans kL)
          · rw [List.mem_singleton.mp h]
            refine ⟨n + 1, (show Bd (n + 1) from [st]), n8, ⟨by show 1 ≤ 1000; decide, fun s' hs' => by rw [List.mem_singleton.mp hs']; exact oks⟩, by show cS (cB n) st + 0 ≤ 60; omega, .tup (sqt_keep kL (SqT.of upd_same)) (.cons ?_ .nil)⟩
            exact dp_keep (((KeepT.of_same (s8.trans s9)).trans (KeepT.of_same s10)).trans kL) _ _ (dS_noL (dB_noL n) st) h2
        · rintro H9 ⟨s9, ws, hw9, wl9, in9⟩
          refine ⟨R', L, zs', ws, rfl, rfl, s9 _ _ hR8, hw9, line5 (by omega), fun q1 hq1 => ?_⟩
          refine ⟨_, rfl, by show 1 ≤ sizeLine; decide, fun q2 hq2 => ?_⟩
          refine ⟨q1, q2, zs' ++ ws, [V.ref xa], rfl, rfl, ?_, upd_same, line5 ?_, fun q3 hq3 => ?_⟩
          · rw [upd_ne (ne_of_none upd_same hq2), upd_same]
          · rw [List.length_append, List.length_singleton]
            omega
          · have sA := (same_new (o := .lst (zs' ++ ws)) hq1).trans ((same_new (o := .lst [V.ref xa]) hq2).trans (same_new (o := .lst (zs' ++ ws ++ [V.ref xa])) hq3))
            refine ⟨_, _, q3, zs' ++ ws ++ [V.ref xa], rfl, (s8.trans s9).trans sA, upd_same, by rw [List.length_append, List.length_append, List.length_singleton]; omega, fun x' hx' => ?_⟩
            rcases List.mem_append.mp hx' with h | h
            · rcases List.mem_append.mp h with h | h
              · exact (in8 x' h).keep (KeepT.of_same (s9.trans sA))
              · exact (in9 x' h).keep (KeepT.of_same sA)
            · rw [List.mem_singleton.mp h]
              exact ⟨n + 1, b, n8, ob, cb, dp_keep (KeepT.of_same ((s8.trans s9).trans sA)) _ _ (dB_noL (n + 1) b) hb⟩
      · rintro σ H8 ⟨y6, y7, R', zs', rfl, s8, hR8, zl8, in8⟩
        refine ⟨_, rfl, _, rfl, _, rfl, B, zB, rfl, SqL.of (s8 _ _ hB7), fun s2 hs2 => ⟨R', s2, zs', cutV zB (some 2) none, rfl, rfl, ?_, upd_same, line5 ?_, fun FL hFL => ?_⟩⟩
        · rw [upd_ne (ne_of_none hR8 hs2)]
          exact hR8
        · have := cutV_len zB (some 2) none
          omega
        have sF := (same_new (o := .lst (cutV zB (some 2) none)) hs2).trans (same_new (o := .lst (zs' ++ cutV zB (some 2) none)) hFL)
        have inF : ∀ x ∈ zs' ++ cutV zB (some 2) none, IsB K (upd (upd H8 s2 (.lst (cutV zB (some 2) none))) FL (.lst (zs' ++ cutV zB (some 2) none))) x := fun x hx => by
          rcases List.mem_append.mp hx with h | h
          · exact (in8 x h).keep (KeepT.of_same sF)
          · exact (inB x (cutV_mem h)).keep (KeepT.of_same (s8.trans sF))
        have tF := tab_same t7 (s8.trans sF)
        have hF : (upd (upd H8 s2 (.lst (cutV zB (some 2) none))) FL (.lst (zs' ++ cutV zB (some 2) none))) FL = some (.lst (zs' ++ cutV zB (some 2) none)) := upd_same
        generalize upd (upd H8 s2 (.lst (cutV zB (some 2) none))) FL (.lst (zs' ++ cutV zB (some 2) none)) = H9 at inF tF hF
        have nF : FL ≠ BP K := fun e => by
          obtain ⟨ps, h, _⟩ := tF
          rw [← e, hF] at h
          cases h
        refine ⟨FL, rfl, ⟨_, SqL.of hF⟩, for_list (K := K) (a := FL) (xs := zs' ++ cutV zB (some 2) none) (fun i σ H' => ∃ (y6 y8 : Option V), σ = [some (.ref a), some (.ref D), some (.ref B), y3, y4, some (.ref R'), y6, y7, y8] ∧ TS (BP K) H9 H') ⟨_, none, rfl, TS.refl tF⟩ (fun i σ H' _ ⟨_, _, _, s⟩ => SqL.of (s.2 _ _ nF hF)) ?_ ?_⟩
        · rintro i x σ Ha hi ⟨y6', y8, rfl, ta⟩
          obtain ⟨n, b, n8, ob, cb, hb⟩ := inF x (List.mem_of_getElem? hi)
          have hba := dp_keep (TS.keepT tF ta) _ _ (dB_noL n b) hb
          refine ⟨_, rfl, n, n8, x, b, rfl, hba, ob, ta.1, fun Hb tb => ?_⟩
          have hbb := dp_keep (TS.keepT ta.1 tb) _ _ (dB_noL n b) hba
          refine ⟨_, rfl, _, rfl, true, rfl, ?_⟩
          refine ⟨_, rfl, _, rfl, n, x, b, rfl, hbb, ob, by omega, fun Hc sc => ⟨rfl, _, rfl, ?_⟩⟩
          refine iteNS rfl ?_
          exact ⟨_, _, rfl, (ta.trans tb).trans (TS.of_same tb.1 sc)⟩
        · rintro σ Ha ⟨y6', y8, rfl, ta⟩
          exact q _
end
end Mt
namespace Mt
open PySem PySem.Spec PyProof.Rows L2
def dd_bodies_of : He.DefD := ⟨("bodies_of", none), "bodies_of", "bodies_of", defArgs s_bodies_of, defBody s_bodies_of, defScope s_bodies_of, [], []⟩
def dd_moves_of : He.DefD := ⟨("moves_of", none), "moves_of", "moves_of", defArgs s_moves_of, defBody s_moves_of, defScope s_moves_of, [], []⟩
def dd_moves_in : He.DefD := ⟨("moves_in", none), "moves_in", "moves_in", defArgs s_moves_in, defBody s_moves_in, defScope s_moves_in, [], []⟩
def dd__law_begin : He.DefD := ⟨("_law_begin", none), "_law_begin", "_law_begin", defArgs s__law_begin, defBody s__law_begin, defScope s__law_begin, [], []⟩
def dd__law_draw : He.DefD := ⟨("_law_draw", none), "_law_draw", "_law_draw", defArgs s__law_draw, defBody s__law_draw, defScope s__law_draw, [], []⟩
def dd__law_pick : He.DefD := ⟨("_law_pick", none), "_law_pick", "_law_pick", defArgs s__law_pick, defBody s__law_pick, defScope s__law_pick, [], []⟩
def dd__law_pop : He.DefD := ⟨("_law_pop", none), "_law_pop", "_law_pop", defArgs s__law_pop, defBody s__law_pop, defScope s__law_pop, [], []⟩
def dd__law_rare : He.DefD := ⟨("_law_rare", none), "_law_rare", "_law_rare", defArgs s__law_rare, defBody s__law_rare, defScope s__law_rare, [], []⟩
def dd__law_shuffled : He.DefD := ⟨("_law_shuffled", none), "_law_shuffled", "_law_shuffled", defArgs s__law_shuffled, defBody s__law_shuffled, defScope s__law_shuffled, [], []⟩
def dd__law_pool : He.DefD := ⟨("_law_pool", none), "_law_pool", "_law_pool", defArgs s__law_pool, defBody s__law_pool, defScope s__law_pool, [], []⟩
def dd__law_is_int : He.DefD := ⟨("_law_is_int", none), "_law_is_int", "_law_is_int", defArgs s__law_is_int, defBody s__law_is_int, defScope s__law_is_int, [], []⟩
def dd__law_bodies : He.DefD := ⟨("_law_bodies", none), "_law_bodies", "_law_bodies", defArgs s__law_bodies, defBody s__law_bodies, defScope s__law_bodies, [], []⟩
def dd__law_world : He.DefD := ⟨("_law_world", none), "_law_world", "_law_world", defArgs s__law_world, defBody s__law_world, defScope s__law_world, [], []⟩
def dd__law_leaf : He.DefD := ⟨("_law_leaf", none), "_law_leaf", "_law_leaf", defArgs s__law_leaf, defBody s__law_leaf, defScope s__law_leaf, [], []⟩
def dd__law_form : He.DefD := ⟨("_law_form", none), "_law_form", "_law_form", defArgs s__law_form, defBody s__law_form, defScope s__law_form, [], []⟩
def dd__law_wishes : He.DefD := ⟨("_law_wishes", none), "_law_wishes", "_law_wishes", defArgs s__law_wishes, defBody s__law_wishes, defScope s__law_wishes, [], []⟩
def dd__law_wished : He.DefD := ⟨("_law_wished", none), "_law_wished", "_law_wished", defArgs s__law_wished, defBody s__law_wished, defScope s__law_wished, [], []⟩
def dd__law_willed : He.DefD := ⟨("_law_willed", none), "_law_willed", "_law_willed", defArgs s__law_willed, defBody s__law_willed, defScope s__law_willed, [], []⟩
def dd__law_loops : He.DefD := ⟨("_law_loops", none), "_law_loops", "_law_loops", defArgs s__law_loops, defBody s__law_loops, defScope s__law_loops, [], []⟩
def dd__law_count : He.DefD := ⟨("_law_count", none), "_law_count", "_law_count", defArgs s__law_count, defBody s__law_count, defScope s__law_count, [], []⟩
def dd_law : He.DefD := ⟨("law", none), "law", "law", defArgs s_law, defBody s_law, defScope s_law, [], []⟩
def dds : List He.DefD := [dd_bodies_of, dd_moves_of, dd_moves_in, dd__law_begin, dd__law_draw, dd__law_pick, dd__law_pop, dd__law_rare, dd__law_shuffled, dd__law_pool, dd__law_is_int, dd__law_bodies, dd__law_world, dd__law_leaf, dd__law_form, dd__law_wishes, dd__law_wished, dd__law_willed, dd__law_loops, dd__law_count, dd_law]
def fas : List He.Fa := [.glo "bodies_of", .glo "moves_of", .glo "moves_in", .glo "_law_begin", .glo "_law_draw", .glo "_law_pick", .glo "_law_pop", .glo "_law_rare", .glo "_law_shuffled", .glo "_law_pool", .glo "_law_is_int", .glo "_law_bodies", .glo "_law_world", .glo "_law_leaf", .glo "_law_form", .glo "_law_wishes", .glo "_law_wished", .glo "_law_willed", .glo "_law_loops", .glo "_law_count", .glo "law", .free "int", .free "abs", .free "len", .free "isinstance", .free "bool", .free "tuple", .free "list", .free "range", .free "all", .free "any", .free "sum", .glo "FIRST_BODY", .glo "MOVES_OF_TWO"]
def tss : List He.Tab := [(fun K => He.ga K "FIRST_BODY", [("process" : Str), ("use" : Str), ("if" : Str), ("loop" : Str), ("guard" : Str)])]
def tfs : List He.Defn := [("bodies_of", none)]
def exM (K : PySem.W.Frag) : Bool := He.valsB K (He.ga K "FIRST_BODY") [("process", .int 3), ("use", .int 4), ("if", .int 4), ("loop", .int 2), ("guard", .int 1)] && (LEAF.all fun z => He.eqO (PySem.W.nsIn K (He.ga K "FIRST_BODY") z) (some none)) && He.tupB K "MOVES_OF_TWO" [.str "hold", .str "use", .str "guard"]
abbrev R : PySem.W.OpenRow := PySem.W.OpenLaw.row PySem.Challenge.rw_meantrace_k12_moves_counted
abbrev hk : PySem.W.Hook := He.hookX 4 fas dds tss tfs exM
def ob (s : PySem.W.SharedT) : He.AlX := He.obsX 4 fas dds tss tfs exM (HandSHeadRun.getT s)
theorem ob_eq (s : PySem.W.SharedT) : ob s = hk.obs s.abs := He.obsX_eq (HandSHeadRun.getT_eq s)
def names : List PySem.Str := ["FIRST_BODY", "bodies_of", "MOVES_OF_TWO", "moves_of", "moves_in", "_law_begin", "_law_draw", "_law_pick", "_law_pop", "_law_rare", "_law_shuffled", "_law_pool", "_law_is_int", "_law_bodies", "_law_world", "_law_leaf", "_law_form", "_law_wishes", "_law_wished", "_law_willed", "_law_loops", "_law_count"]
theorem run (w : World) : HandSHeadRun.RunEq R (PySem.W.view R.prog [25]) hk ob 2000 names w := by
  refine PySem.W.byRow2 "special-get-raises" (P := fun w => HandSHeadRun.RunEq R (PySem.W.view R.prog [25]) hk ob 2000 names w) (fun w os => ?_) (fun w os => ?_) w
  · kernel_rfl
  · kernel_rfl
theorem facts {P : Program} {w : World} {K : PySem.W.Frag} {h : Heap} {mg : Str → Option Value} {f : Addr} (X : K.In h) (G : h.Ns mainGlobals mg) (hfa : mg ("law" : Str) = some (.ref f)) (c : He.SaysX fas dds tss tfs exM w h K) :
    ∃ fd : FuncData, (∀ (s : Shared) (v : Value), BindsTo s fd ⟨[v], []⟩ [("script", v)]) ∧ ∀ base : Heap, K.In base → base.Ns mainGlobals mg → GxR.TabB base mg (He.cT K ("bodies_of", none)).1 (He.cT K ("bodies_of", none)).2 → FnOk P w K mg base CX0 20 f fd ["script"] (spLaw K) := by
  obtain ⟨fd, F⟩ := c.t.d.def_ 20 (d := dd_law) rfl
  have e := hfa.symm.trans (He.glo_ok X G (c.t.d.fact 20 (f := .glo "law") rfl))
  cases e
  have dtx_FIRST_BODY : ∃ (d : Addr) (es : Array DictEntry) (n : Nat), mg "FIRST_BODY" = some (.ref d) ∧ KDict K w d es n ∧ (∀ q ∈ FBV, ∃ u, PySem.W.nsIn K d q.1 = some (some u) ∧ RelV (.int q.2) u) ∧ ∀ z ∈ LEAF, PySem.W.nsIn K d z = some none := by
    obtain ⟨es, n, kd⟩ := (c.t.tab 0)
    have hm := Bool.and_eq_true_iff.mp (Bool.and_eq_true_iff.mp (show ((He.valsB K (He.ga K "FIRST_BODY") _ && _) && _) = true from c.more)).1
    refine ⟨_, es, n, (He.glo_ok X G (c.t.d.fact 32 (f := .glo "FIRST_BODY") rfl)), kd, fun q hq => ?_, fun z hz => He.eqO_ok (List.all_eq_true.mp hm.2 z hz)⟩
    have key : ∀ q' : Str × He.Dv, q' ∈ ([("process", .int 3), ("use", .int 4), ("if", .int 4), ("loop", .int 2), ("guard", .int 1)] : List (Str × He.Dv)) → ∃ u, PySem.W.nsIn K (He.ga K "FIRST_BODY") q'.1 = some (some u) ∧ RelV (q'.2.v K) u := fun q' hq' => He.valsB_ok hm.1 hq'
    unfold FBV at hq
    simp only [List.mem_cons, List.not_mem_nil, or_false] at hq
    rcases hq with h | h | h | h | h <;> subst h
    · exact key ("process", .int 3) (by simp)
    · exact key ("use", .int 4) (by simp)
    · exact key ("if", .int 4) (by simp)
    · exact key ("loop", .int 2) (by simp)
    · exact key ("guard", .int 1) (by simp)
  have ttx_MOVES_OF_TWO : ∃ a : Addr, mg "MOVES_OF_TWO" = some (.ref a) ∧ ∀ H : Hp, SqT K H a [V.str "hold", V.str "use", V.str "guard"] := ⟨_, He.glo_ok X G (c.t.d.fact 33 (f := .glo "MOVES_OF_TWO") rfl), fun H => He.tupB_ok (x := "MOVES_OF_TWO") (vs := [He.Dv.str "hold", He.Dv.str "use", He.Dv.str "guard"]) (Bool.and_eq_true_iff.mp c.more).2 H⟩
  have T : Txt w K mg := ⟨He.free_ok X G (c.t.d.fact 21 (f := .free "int") rfl), He.free_ok X G (c.t.d.fact 22 (f := .free "abs") rfl), He.free_ok X G (c.t.d.fact 23 (f := .free "len") rfl), He.free_ok X G (c.t.d.fact 24 (f := .free "isinstance") rfl), He.free_ok X G (c.t.d.fact 25 (f := .free "bool") rfl), He.free_ok X G (c.t.d.fact 26 (f := .free "tuple") rfl), He.free_ok X G (c.t.d.fact 27 (f := .free "list") rfl), He.free_ok X G (c.t.d.fact 28 (f := .free "range") rfl), He.free_ok X G (c.t.d.fact 29 (f := .free "all") rfl), He.free_ok X G (c.t.d.fact 30 (f := .free "any") rfl), He.free_ok X G (c.t.d.fact 31 (f := .free "sum") rfl), ttx_MOVES_OF_TWO, dtx_FIRST_BODY⟩
  have b := FunD.bindsA (ps := ["script"]) F fun _ _ _ _ _ _ us hl => match us, hl with | [_], _ => rfl
  refine ⟨fd, fun s v => b s [v] rfl, fun base _ _ TB_bodies_of => ?_⟩
  have D__law_begin := (show Kept P w K mg base (1) "_law_begin" ["script"] (spBegin K) from kept_of (st := s__law_begin) X G (c.t.d.def_ 3 (d := dd__law_begin) rfl) (c.t.d.fact 3 (f := .glo "_law_begin") rfl) (fun _ _ _ _ _ _ us hl => match us, hl with | [_], _ => rfl) (fun f fd F => ok__law_begin T F))
  have D__law_draw := (show Kept P w K mg base (1) "_law_draw" ["d", "many"] spDraw from kept_of (st := s__law_draw) X G (c.t.d.def_ 4 (d := dd__law_draw) rfl) (c.t.d.fact 4 (f := .glo "_law_draw") rfl) (fun _ _ _ _ _ _ us hl => match us, hl with | [_, _], _ => rfl) (fun f fd F => ok__law_draw T F))
  have D__law_pool := (show Kept P w K mg base (1) "_law_pool" [] spPool from kept_of (st := s__law_pool) X G (c.t.d.def_ 9 (d := dd__law_pool) rfl) (c.t.d.fact 9 (f := .glo "_law_pool") rfl) (fun _ _ _ _ _ _ us hl => match us, hl with | [], _ => rfl) (fun f fd F => ok__law_pool T F))
  have D__law_is_int := (show Kept P w K mg base (1) "_law_is_int" ["thing"] spIsInt from kept_of (st := s__law_is_int) X G (c.t.d.def_ 10 (d := dd__law_is_int) rfl) (c.t.d.fact 10 (f := .glo "_law_is_int") rfl) (fun _ _ _ _ _ _ us hl => match us, hl with | [_], _ => rfl) (fun f fd F => ok__law_is_int T F))
  have D__law_pick := (show Kept P w K mg base (2) "_law_pick" ["d", "row"] (spPick K) from kept_of (st := s__law_pick) X G (c.t.d.def_ 5 (d := dd__law_pick) rfl) (c.t.d.fact 5 (f := .glo "_law_pick") rfl) (fun _ _ _ _ _ _ us hl => match us, hl with | [_, _], _ => rfl) (fun f fd F => ok__law_pick T D__law_draw F))
  have D__law_pop := (show Kept P w K mg base (2) "_law_pop" ["d", "row"] spPop from kept_of (st := s__law_pop) X G (c.t.d.def_ 6 (d := dd__law_pop) rfl) (c.t.d.fact 6 (f := .glo "_law_pop") rfl) (fun _ _ _ _ _ _ us hl => match us, hl with | [_, _], _ => rfl) (fun f fd F => ok__law_pop T D__law_draw F))
  have D__law_rare := (show Kept P w K mg base (2) "_law_rare" ["d", "many"] spRare from kept_of (st := s__law_rare) X G (c.t.d.def_ 7 (d := dd__law_rare) rfl) (c.t.d.fact 7 (f := .glo "_law_rare") rfl) (fun _ _ _ _ _ _ us hl => match us, hl with | [_, _], _ => rfl) (fun f fd F => ok__law_rare T D__law_draw F))
  have D__law_shuffled := (show Kept P w K mg base (2) "_law_shuffled" ["d", "row"] (spShuf K) from kept_of (st := s__law_shuffled) X G (c.t.d.def_ 8 (d := dd__law_shuffled) rfl) (c.t.d.fact 8 (f := .glo "_law_shuffled") rfl) (fun _ _ _ _ _ _ us hl => match us, hl with | [_, _], _ => rfl) (fun f fd F => ok__law_shuffled T D__law_draw F))
  have D__law_world := (show Kept P w K mg base (3) "_law_world" ["d", "budget"] spWorld from kept_of (st := s__law_world) X G (c.t.d.def_ 12 (d := dd__law_world) rfl) (c.t.d.fact 12 (f := .glo "_law_world") rfl) (fun _ _ _ _ _ _ us hl => match us, hl with | [_, _], _ => rfl) (fun f fd F => ok__law_world T D__law_draw D__law_pop D__law_pool F))
  have kBd : ∀ n, Kept P w K mg base 1 "bodies_of" ["statement"] (spBodies K n) := fun n => (show Kept P w K mg base (1) "bodies_of" ["statement"] (spBodies K n) from kept_ofC (st := s_bodies_of) X G (c.t.d.def_ 0 (d := dd_bodies_of) rfl) (c.t.d.fact 0 (f := .glo "bodies_of") rfl) (fun _ _ _ _ _ _ us hl => match us, hl with | [_], _ => rfl) (fun fd F => ok_bodies T TB_bodies_of F))
  have kM : ∀ n, Kept P w K mg base (2 * n + 2) "moves_of" ["body"] (spMoves K n) := fun n => by
    induction n with
    | zero => exact (show Kept P w K mg base (2) "moves_of" ["body"] (spMoves K 0) from kept_of (st := s_moves_of) X G (c.t.d.def_ 1 (d := dd_moves_of) rfl) (c.t.d.fact 1 (f := .glo "moves_of") rfl) (fun _ _ _ _ _ _ us hl => match us, hl with | [_], _ => rfl) (fun f fd F => ok_moves0 F))
    | succ n ih =>
      have D := (show Kept P w K mg base (2 * n + 3) "moves_in" ["statement"] (spMoveS K n) from kept_of (st := s_moves_in) X G (c.t.d.def_ 2 (d := dd_moves_in) rfl) (c.t.d.fact 2 (f := .glo "moves_in") rfl) (fun _ _ _ _ _ _ us hl => match us, hl with | [_], _ => rfl) (fun f fd F => ok_min T (kBd n) ih F))
      exact (show Kept P w K mg base (2 * n + 4) "moves_of" ["body"] (spMoves K (n + 1)) from kept_of (st := s_moves_of) X G (c.t.d.def_ 1 (d := dd_moves_of) rfl) (c.t.d.fact 1 (f := .glo "moves_of") rfl) (fun _ _ _ _ _ _ us hl => match us, hl with | [_], _ => rfl) (fun f fd F => ok_moves T D F))
  have kMS : ∀ n, Kept P w K mg base (2 * n + 3) "moves_in" ["statement"] (spMoveS K n) := fun n => (show Kept P w K mg base (2 * n + 3) "moves_in" ["statement"] (spMoveS K n) from kept_of (st := s_moves_in) X G (c.t.d.def_ 2 (d := dd_moves_in) rfl) (c.t.d.fact 2 (f := .glo "moves_in") rfl) (fun _ _ _ _ _ _ us hl => match us, hl with | [_], _ => rfl) (fun f fd F => ok_min T (kBd n) (kM n) F))
  have D_moves_of := (show Kept P w K mg base (18) "moves_of" ["body"] (spMovesX K) from kept_of (st := s_moves_of) X G (c.t.d.def_ 1 (d := dd_moves_of) rfl) (c.t.d.fact 1 (f := .glo "moves_of") rfl) (fun _ _ _ _ _ _ us hl => match us, hl with | [_], _ => rfl) (fun f fd F => (fun F => ok_movesX fun n hn => match n, hn with | 0, _ => (ok_moves0 F).mono (by omega) | n + 1, hn => (ok_moves T (kMS n) F).mono (by omega)) F))
  have D__law_bodies := (show Kept P w K mg base (1) "_law_bodies" ["statement"] (spLBx K) from kept_of (st := s__law_bodies) X G (c.t.d.def_ 11 (d := dd__law_bodies) rfl) (c.t.d.fact 11 (f := .glo "_law_bodies") rfl) (fun _ _ _ _ _ _ us hl => match us, hl with | [_], _ => rfl) (fun f fd F => ok_lb T F))
  have D__law_count := (show Kept P w K mg base (2) "_law_count" ["body"] (spCount K) from kept_of (st := s__law_count) X G (c.t.d.def_ 19 (d := dd__law_count) rfl) (c.t.d.fact 19 (f := .glo "_law_count") rfl) (fun _ _ _ _ _ _ us hl => match us, hl with | [_], _ => rfl) (fun f fd F => ok_count T D__law_bodies F))
  have D_leaf := (show Kept P w K mg base (3) "_law_leaf" ["d", "world", "word"] (spLeaf K) from kept_of (st := s__law_leaf) X G (c.t.d.def_ 13 (d := dd__law_leaf) rfl) (c.t.d.fact 13 (f := .glo "_law_leaf") rfl) (fun _ _ _ _ _ _ us hl => match us, hl with | [_, _, _], _ => rfl) (fun f fd F => ok_leaf T D__law_draw D__law_pick D__law_shuffled F))
  have D_wishes := (show Kept P w K mg base (2) "_law_wishes" ["d", "word", "want", "many"] spWishes from kept_of (st := s__law_wishes) X G (c.t.d.def_ 15 (d := dd__law_wishes) rfl) (c.t.d.fact 15 (f := .glo "_law_wishes") rfl) (fun _ _ _ _ _ _ us hl => match us, hl with | [_, _, _, _], _ => rfl) (fun f fd F => ok_wishes T D__law_draw F))
  have kF : ∀ n, Kept P w K mg base 3 "_law_form" ["d", "world", "word", "bodies"] (spForm K n) := fun n => (show Kept P w K mg base (3) "_law_form" ["d", "world", "word", "bodies"] (spForm K n) from kept_of (st := s__law_form) X G (c.t.d.def_ 14 (d := dd__law_form) rfl) (c.t.d.fact 14 (f := .glo "_law_form") rfl) (fun _ _ _ _ _ _ us hl => match us, hl with | [_, _, _, _], _ => rfl) (fun f fd F => ok_form T D__law_draw D__law_pick D__law_shuffled F))
  have kW : ∀ n, Kept P w K mg base (2 * n + 4) "_law_wished" ["d", "world", "want", "depth"] (spWished K n) := fun n => by
    induction n with
    | zero =>
      have D0 := (show Kept P w K mg base (2 * 0 + 3) "_law_willed" ["d", "world", "want", "depth"] (fun _ _ _ _ => False) from kept_of (st := s__law_willed) X G (c.t.d.def_ 17 (d := dd__law_willed) rfl) (c.t.d.fact 17 (f := .glo "_law_willed") rfl) (fun _ _ _ _ _ _ us hl => match us, hl with | [_, _, _, _], _ => rfl) (fun f fd F => ok_void sc__law_willed F))
      exact (show Kept P w K mg base (2 * 0 + 4) "_law_wished" ["d", "world", "want", "depth"] (spWished K 0) from kept_of (st := s__law_wished) X G (c.t.d.def_ 16 (d := dd__law_wished) rfl) (c.t.d.fact 16 (f := .glo "_law_wished") rfl) (fun _ _ _ _ _ _ us hl => match us, hl with | [_, _, _, _], _ => rfl) (fun f fd F => ok_wished (fun n h => absurd h (by omega)) T D__law_draw D__law_pick D_leaf (kF (0 - 1)) D_wishes D0 F))
    | succ n ih =>
      have D1 := (show Kept P w K mg base (2 * n + 5) "_law_willed" ["d", "world", "want", "depth"] (spWilled K n) from kept_of (st := s__law_willed) X G (c.t.d.def_ 17 (d := dd__law_willed) rfl) (c.t.d.fact 17 (f := .glo "_law_willed") rfl) (fun _ _ _ _ _ _ us hl => match us, hl with | [_, _, _, _], _ => rfl) (fun f fd F => ok_willed T D__law_draw ih F))
      exact (show Kept P w K mg base (2 * (n + 1) + 4) "_law_wished" ["d", "world", "want", "depth"] (spWished K (n + 1)) from kept_of (st := s__law_wished) X G (c.t.d.def_ 16 (d := dd__law_wished) rfl) (c.t.d.fact 16 (f := .glo "_law_wished") rfl) (fun _ _ _ _ _ _ us hl => match us, hl with | [_, _, _, _], _ => rfl) (fun f fd F => ok_wished (fun n2 h => by rw [show n = n2 by omega]) T D__law_draw D__law_pick D_leaf (kF (n + 1 - 1)) D_wishes D1 F))
  have D__law_willed := (show Kept P w K mg base (17) "_law_willed" ["d", "world", "want", "depth"] (spWilled K 6) from kept_of (st := s__law_willed) X G (c.t.d.def_ 17 (d := dd__law_willed) rfl) (c.t.d.fact 17 (f := .glo "_law_willed") rfl) (fun _ _ _ _ _ _ us hl => match us, hl with | [_, _, _, _], _ => rfl) (fun f fd F => ok_willed (n := 6) T D__law_draw (kW 6) F))
  have D__law_loops := (show Kept P w K mg base (4) "_law_loops" ["d", "world"] (spLoops K) from kept_of (st := s__law_loops) X G (c.t.d.def_ 18 (d := dd__law_loops) rfl) (c.t.d.fact 18 (f := .glo "_law_loops") rfl) (fun _ _ _ _ _ _ us hl => match us, hl with | [_, _], _ => rfl) (fun f fd F => ok_loops T D__law_draw D__law_pick D_leaf F))
  exact ok_law T D_moves_of D__law_begin D__law_draw D__law_rare D__law_is_int D__law_world D__law_willed D__law_loops D__law_count F
end Mt
open PySem PySem.W PySem.Calls PyProof.Rows
set_option maxHeartbeats 0 in
theorem PySem.Challenge.cw_meantrace_k12_moves_counted_holds : PySem.Challenge.rw_meantrace_k12_moves_counted.Holds := by
  w_on; o_law
  refine HandSHeadRun.head_any (r := OpenLaw.row PySem.Challenge.rw_meantrace_k12_moves_counted) (q := view (OpenLaw.row PySem.Challenge.rw_meantrace_k12_moves_counted).prog [25]) (H := Mt.hk) (ob := Mt.ob) (M := 2000) (loose := Mt.names) (d := HandSHeadRun.topDef (OpenLaw.row PySem.Challenge.rw_meantrace_k12_moves_counted).prog 25) (kwd := []) Mt.ob_eq
    (by kernel_rfl) (fun s => by kernel_rfl) Mt.run (by kernel_rfl) (by kernel_rfl) (by kernel_rfl) (by rfl) (by first | assumption | decide +kernel) (by decide +kernel) ⟨rfl, rfl, rfl, rfl, rfl, by decide +kernel⟩ ?hw ?hc
  case hw => w_witness2
  case hc =>
    refine LamX.walk_ofTsE (l := PySem.Challenge.rw_meantrace_k12_moves_counted) (n := 63) (k := 20) (x := "script") (CX := fun _ => L2.CX0) rfl (by decide) (by kernel_rfl) ⟨rfl, by decide, by decide⟩ ?F (fun _ _ _ _ _ z => z)
    intro w mg fa h Y G hmg0
    obtain ⟨K, KX, c⟩ := Y
    have hmg : mg ("law" : PySem.Str) = some (.ref fa) := by
      have e : (HandSHeadRun.topDef (OpenLaw.row PySem.Challenge.rw_meantrace_k12_moves_counted).prog 25).name = ("law" : PySem.Str) := by kernel_rfl
      rw [← e]
      exact hmg0
    obtain ⟨fd, hb, hF⟩ := Mt.facts (P := (PySem.Challenge.rw_meantrace_k12_moves_counted).prog) (w := w) KX G hmg c
    have mem : ∀ p ∈ [He.cT K ("bodies_of", none)], ∃ q ∈ Mt.tfs, p = He.cT K q := fun p hp => by
      obtain ⟨q, hq, e⟩ := List.mem_map.mp (show p ∈ Mt.tfs.map (He.cT K) from hp)
      exact ⟨q, hq, e.symm⟩
    refine ⟨K, KX, fd, [He.cT K ("bodies_of", none)], Mt.spLaw K, fun p hp => ?_, fun p hp => ?_, fun p hp => ?_, hb, fun H a ns hl hbits hT hS => ?_, fun base kb gb tb => hF base kb gb (let t := tb _ List.mem_cons_self; ⟨t.code, t.bm, t.gP⟩)⟩
    · obtain ⟨q, hq, e⟩ := mem p hp
      rw [e]
      exact c.empty q hq
    · obtain ⟨q, hq, e⟩ := mem p hp
      rw [e]
      exact c.out q hq
    · obtain ⟨q, hq, e⟩ := mem p hp
      rw [e]
      exact PySem.W.codeHd_of_K KX (c.hd q hq)
    · exact ⟨a, ns, rfl, hS, hl, hT _ List.mem_cons_self, fun _ => rfl⟩
