import PyProof.Rows.All
import Wide.All
import OpenK.AllK
import Wide.FinOn
import KE.KStateDown
import HandS.ForMost
import HandS.Wide
import HandS.IsInst
import HandS.Walk
import HandS.Style
import HandS.Evl
import HandS.StrMore
import HandS.Exc
import HandS.WordsExc
import HandS.Defaults
import HandS.Head0
import HandS.Head1
import HandS.Head2
import HandS.HeadEnd
import HandS.HeadHook1
import HandS.HeadHook2
import HandS.Gcd
import HandS.Head3
import HandS.Star
import HandS.RaiseMore
import HandS.AnyAll
import HandS.Conv
import HandS.More
import HandS.Small
import HandS.HeadHook3
import HandS.HeadHook4
import HandS.HeadWalk
import HandS.EndTab
import PyProof.GenCompT
import PyProof.TupleOfGen
import PyProof.WalksPairs
import KE.KTupSum
import KE.DataMinMax
import HandS.SortKw
import PySem.Challenge.RW_meantrace_k32_tallies_joined
set_option Elab.async false
set_option linter.all false
set_option maxRecDepth 100000
/-! Our own words over the hand layer: defs of the top by name, the draws' state, heaps that go on. -/
namespace Mt
open PySem PySem.Spec PyProof.Rows L2
section
variable {P : Program} {w : World} {K : PySem.W.Frag} {mg : Str → Option Value} {base : Heap}
abbrev FnP (K : PySem.W.Frag) (x : Str) (st : Stmt) (f : Addr) (fd : FuncData) : Prop := FunD K x x (defArgs st) (defBody st) (defScope st) [] [] f fd
/-- a def that keeps its promise -/
def Kept (P : Program) (w : World) (K : PySem.W.Frag) (mg : Str → Option Value) (base : Heap) (k : Nat) (x : Str) (ps : List Str) (sp : Sp) : Prop :=
  ∃ f fd, FnOk P w K mg base CX0 k f fd ps sp ∧ mg x = some (.ref f) ∧ PySem.W.keepIn K (.ref f) = true ∧ Binds K fd ps []
/-- what the head tells: facts by names, defs, one more word of one's own -/
abbrev AlM : Type := He.AlD × Bool
def obsM (n : Nat) (fa : List He.Fa) (fn : List He.DefD) (ex : PySem.W.Frag → Bool) (g : Addr → Option Obj) : AlM := (He.obsDG n fa fn g, ex (He.frG g (He.asD g n)))
def SaysM (fa : List He.Fa) (fn : List He.DefD) (ex : PySem.W.Frag → Bool) (K : PySem.W.Frag) : Prop := He.SaysD fa fn K ∧ ex K = true
def hookM (n : Nat) (fa : List He.Fa) (fn : List He.DefD) (ex : PySem.W.Frag → Bool) : PySem.W.Hook where
  α := AlM
  obs := fun s => obsM n fa fn ex s.heap.get?
  val := fun _ => (He.valD fn, true)
  says := fun _ h => ∃ K : PySem.W.Frag, K.In h ∧ SaysM fa fn ex K
  of := fun _ _ e => ⟨_, He.frG_in, congrArg (fun z : AlM => z.1) e, congrArg (fun z : AlM => z.2) e⟩
  keeps := fun _ _ _ ⟨K, hK, c⟩ k => ⟨K, PySem.W.Frag.In.keeps hK k, c⟩
theorem obsM_eq {n : Nat} {fa : List He.Fa} {fn : List He.DefD} {ex : PySem.W.Frag → Bool} {g : Addr → Option Obj} {s : Shared} (h : ∀ a, g a = s.heap.get? a) : obsM n fa fn ex g = (hookM n fa fn ex).obs s := by
  have e : g = s.heap.get? := funext h
  rw [e] <;> rfl
theorem kept_of {h : Heap} (X : K.In h) (G : h.Ns mainGlobals mg) {x : Str} {ps : List Str} {st : Stmt} {k : Nat} {sp : Sp}
    (hd : ∃ fd, FnP K x st (He.ga K x) fd) (hg : (He.Fa.glo x).ok K = true)
    (hb : ∀ (kV doc pm : Value) (an : Option Addr) (cdv ct : Value) (us : List Value), us.length = ps.length → bindArgs (PySem.W.fnOf x x (defArgs st) (defBody st) (defScope st) .none kV doc pm an cdv ct) ⟨us, []⟩ = pure (ps.zip us))
    (ok : ∀ f fd, FnP K x st f fd → FnOk P w K mg base CX0 k f fd ps sp) : Kept P w K mg base k x ps sp := by
  obtain ⟨fd, F⟩ := hd
  exact ⟨_, fd, ok _ fd F, He.glo_ok X G hg, F.kp, F.bindsN hb⟩
end
section
variable {X : Cx}
theorem pe_d {k : Nat} {x : Str} {ps : List Str} {sp : Sp} {e : Expr} {es : List Expr} {t : TA} {p pos : Pos} (D : Kept X.prog X.w X.K X.mg X.base k x ps sp) (hr : Room k X.A) (hg : Gl X x) (ha : PA X (e :: es) t)
    (hdb : (x == ("__debug__" : Str)) = false := by decide) (he : starEach (e :: es) X.env = (false, eval e X.env) :: starEach es X.env := by rfl) (hpl : (backTo pos (starEach es X.env)).any (·.1) = false := by rfl) :
    PE X (.Call (.Name x p) (e :: es) [] pos) (tCall sp [] E0 t) := by
  obtain ⟨f, fd, F, g, kp, b⟩ := D
  exact pe_call F hr hg g kp b .nil pass0 ha hdb he hpl
theorem pe_d0 {k : Nat} {x : Str} {ps : List Str} {sp : Sp} {p pos : Pos} (D : Kept X.prog X.w X.K X.mg X.base k x ps sp) (hr : Room k X.A) (hg : Gl X x) (hdb : (x == ("__debug__" : Str)) = false := by decide) :
    PE X (.Call (.Name x p) [] [] pos) (tCall sp [] E0 tNil) := by
  obtain ⟨f, fd, F, g, kp, b⟩ := D
  exact pe_call0 F hr hg g kp b .nil pass0 hdb
/-- a text of the module; an object of the module -/
theorem pe_gs {x z : Str} {pos : Pos} (h : ∃ t, X.mg x = some (.str z t)) (hg : Gl X x) (hd : (x == ("__debug__" : Str)) = false := by decide) : PE X (.Name x pos) (tC (.str z)) := by
  obtain ⟨t, h⟩ := h
  exact pe_glob hg h ⟨_, rfl⟩ hd
/-- xs[i] op= e reads xs[i] -/
theorem get_list : PGet X (rIxL X.K) := by
  intro pins s σ H o i ov iv Q I ro ri h
  obtain ⟨p, xs, i, z, rfl, rfl, hq, he, q⟩ := h
  cases ro
  obtain ⟨t, rfl⟩ := ri
  obtain ⟨its, r, pl, hz⟩ := I.list hq
  obtain ⟨j, h1, h2, h3, h4, h5⟩ := atI_get he
  obtain ⟨w, ew, rw'⟩ := r.get h2
  have hl := r.length
  have hn := line63
  have fin : EP X pins σ Q w s := ⟨z, H, I, rw', q⟩
  by_cases h0 : 0 ≤ i
  · have hj : i.toNat = j := by
      rw [seqIndex_of h0 h5] at h1
      exact Option.some.inj h1
    exact wpAny_mono (wpAny_getItem_list (Q := fun r s' => r = w ∧ EP X pins σ Q r s') pl.isList h0 (by omega) (by rw [hj]; simpa using ew) ⟨rfl, fin⟩) (fun _ _ q => q.2) (fun _ _ q => q)
  · have hj : (i + (its.toArray.size : Int)).toNat = j := by
      rw [seqIndex_neg (by omega) h4] at h1
      rw [List.size_toArray, ← hl]
      exact Option.some.inj h1
    exact wpAny_mono (wpAny_getItem_list_neg (Q := fun r s' => r = w ∧ EP X pins σ Q r s') pl.isList (by omega) (by rw [List.size_toArray] <;> omega) (by omega) (by rw [hj]; simpa using ew) ⟨rfl, fin⟩) (fun _ _ q => q.2) (fun _ _ q => q)
end

/-! ### the draws: [cells, place, rest, seed] at D -/
structure DrawAt (S D : Addr) (H : Hp) : Prop where
  ne : S ≠ D
  cells : ∃ cs : List Int, H S = some (.lst (cs.map V.int))
  at_ : ∃ i r c : Int, 0 ≤ i ∧ H D = some (.lst [.ref S, .int i, .int r, .int c])
/-- all else that is tracked stays -/
def Keep (D : Addr) (H H' : Hp) : Prop := ∀ b o, H b = some o → b ≠ D → H' b = some o
def Go (S D : Addr) (H H' : Hp) : Prop := DrawAt S D H' ∧ Keep D H H'
theorem Keep.refl {D : Addr} {H : Hp} : Keep D H H := fun _ _ h _ => h
theorem Keep.trans {D : Addr} {H H1 H2 : Hp} (a : Keep D H H1) (b : Keep D H1 H2) : Keep D H H2 := fun x o h n => b x o (a x o h n) n
theorem Go.trans {S D : Addr} {H H1 H2 : Hp} (a : Go S D H H1) (b : Go S D H1 H2) : Go S D H H2 := ⟨b.1, a.2.trans b.2⟩
theorem Keep.set {D : Addr} {H H' : Hp} {o : HO} (k : Keep D H H') : Keep D H (upd H' D o) := fun b u h n => by
  rw [upd_ne n]
  exact k b u h n
theorem DrawAt.set {S D : Addr} {H : Hp} (d : DrawAt S D H) {i r c : Int} (h : 0 ≤ i) : DrawAt S D (upd H D (.lst [.ref S, .int i, .int r, .int c])) :=
  ⟨d.ne, d.cells.imp fun cs h => by rw [upd_ne d.ne]; exact h, ⟨i, r, c, h, upd_same⟩⟩
theorem DrawAt.new {S D p : Addr} {H : Hp} {o : HO} (d : DrawAt S D H) (h : H p = none) : DrawAt S D (upd H p o) := by
  obtain ⟨cs, h1⟩ := d.cells
  obtain ⟨i, r, c, h0, h2⟩ := d.at_
  exact ⟨d.ne, ⟨cs, by rw [upd_ne (ne_of_none h1 h)]; exact h1⟩, ⟨i, r, c, h0, by rw [upd_ne (ne_of_none h2 h)]; exact h2⟩⟩
theorem Keep.new {D p : Addr} {H : Hp} {o : HO} (h : H p = none) : Keep D H (upd H p o) := fun b u e _ => by
  rw [upd_ne (ne_of_none e h)]
  exact e
theorem Go.new {S D p : Addr} {H : Hp} {o : HO} (d : DrawAt S D H) (h : H p = none) : Go S D H (upd H p o) := ⟨d.new h, Keep.new h⟩
theorem Go.same {S D : Addr} {H H' : Hp} (d : DrawAt S D H) (h : Same H H') : Go S D H H' := by
  obtain ⟨cs, h1⟩ := d.cells
  obtain ⟨i, r, c, h0, h2⟩ := d.at_
  exact ⟨⟨d.ne, ⟨cs, h _ _ h1⟩, ⟨i, r, c, h0, h _ _ h2⟩⟩, fun b o e _ => h b o e⟩
theorem Go.refl {S D : Addr} {H : Hp} (d : DrawAt S D H) : Go S D H H := ⟨d, Keep.refl⟩
/-- a fresh place stays fresh when looked at from behind -/
theorem DrawAt.free {S D p : Addr} {H : Hp} (d : DrawAt S D H) (h : H p = none) : p ≠ D ∧ p ≠ S := by
  obtain ⟨cs, h1⟩ := d.cells
  obtain ⟨i, r, c, h0, h2⟩ := d.at_
  exact ⟨(ne_of_none h2 h).symm, (ne_of_none h1 h).symm⟩
theorem Go.free {S D p : Addr} {H H' : Hp} (g : Go S D H H') (d : DrawAt S D H) (h : H' p = none) : H p = none := by
  cases q : H p with
  | none => rfl
  | some o =>
    by_cases e : p = D
    · exact absurd e (g.1.free h).1
    · rw [g.2 p o q e] at h
      cases h
def spDraw : Sp := fun vs H Q _ => ∃ (S D : Addr) (many : Int), vs = [.ref D, .int many] ∧ CDivW 0 many ∧ DrawAt S D H ∧ ∀ H' v, 0 ≤ v → v < many → Go S D H H' → Q (.int v) H'
end Mt
namespace Mt
open PySem PySem.Spec PyProof.Rows L2
def topS (i : Nat) : Stmt := PySem.Challenge.pw_meantrace_k32_tallies_joined.main.body.getD i (.Pass ⟨0, 0, 0, 0⟩)
abbrev s_make_fraction : Stmt := topS 2
abbrev N_make_fraction : List Str := ["n", "d", "common"]
theorem sc_make_fraction : FnScope N_make_fraction ["n", "d"] (defScope s_make_fraction) := ⟨rfl, rfl, rfl, by decide +kernel, rfl, by decide +kernel, by decide +kernel⟩
abbrev s_difference_of : Stmt := topS 3
abbrev N_difference_of : List Str := ["a", "b"]
theorem sc_difference_of : FnScope N_difference_of ["a", "b"] (defScope s_difference_of) := ⟨rfl, rfl, rfl, by decide +kernel, rfl, by decide +kernel, by decide +kernel⟩
abbrev s_product_of : Stmt := topS 4
abbrev N_product_of : List Str := ["a", "b"]
theorem sc_product_of : FnScope N_product_of ["a", "b"] (defScope s_product_of) := ⟨rfl, rfl, rfl, by decide +kernel, rfl, by decide +kernel, by decide +kernel⟩
abbrev s_tally_of : Stmt := topS 6
abbrev N_tally_of : List Str := ["values", "squares", "worth", "least", "greatest"]
theorem sc_tally_of : FnScope N_tally_of ["values"] (defScope s_tally_of) := ⟨rfl, rfl, rfl, by decide +kernel, rfl, by decide +kernel, by decide +kernel⟩
abbrev s_joined : Stmt := topS 7
abbrev N_joined : List Str := ["tally", "other", "sums", "at", "ends", "row", "least", "greatest"]
theorem sc_joined : FnScope N_joined ["tally", "other"] (defScope s_joined) := ⟨rfl, rfl, rfl, by decide +kernel, rfl, by decide +kernel, by decide +kernel⟩
abbrev s_mean_of : Stmt := topS 8
abbrev N_mean_of : List Str := ["tally", "many", "total"]
theorem sc_mean_of : FnScope N_mean_of ["tally"] (defScope s_mean_of) := ⟨rfl, rfl, rfl, by decide +kernel, rfl, by decide +kernel, by decide +kernel⟩
abbrev s_spread_of : Stmt := topS 9
abbrev N_spread_of : List Str := ["tally", "mean"]
theorem sc_spread_of : FnScope N_spread_of ["tally"] (defScope s_spread_of) := ⟨rfl, rfl, rfl, by decide +kernel, rfl, by decide +kernel, by decide +kernel⟩
abbrev s__law_begin : Stmt := topS 11
abbrev N__law_begin : List Str := ["script", "cell"]
theorem sc__law_begin : FnScope N__law_begin ["script"] (defScope s__law_begin) := ⟨rfl, rfl, rfl, by decide +kernel, rfl, by decide +kernel, by decide +kernel⟩
abbrev s__law_draw : Stmt := topS 12
abbrev N__law_draw : List Str := ["d", "many", "found", "size", "cell"]
theorem sc__law_draw : FnScope N__law_draw ["d", "many"] (defScope s__law_draw) := ⟨rfl, rfl, rfl, by decide +kernel, rfl, by decide +kernel, by decide +kernel⟩
abbrev s__law_rare : Stmt := topS 13
abbrev N__law_rare : List Str := ["d", "many"]
theorem sc__law_rare : FnScope N__law_rare ["d", "many"] (defScope s__law_rare) := ⟨rfl, rfl, rfl, by decide +kernel, rfl, by decide +kernel, by decide +kernel⟩
abbrev s__law_is_int : Stmt := topS 14
abbrev N__law_is_int : List Str := ["thing"]
theorem sc__law_is_int : FnScope N__law_is_int ["thing"] (defScope s__law_is_int) := ⟨rfl, rfl, rfl, by decide +kernel, rfl, by decide +kernel, by decide +kernel⟩
abbrev s__law_is_ints : Stmt := topS 15
abbrev N__law_is_ints : List Str := ["row", "part"]
theorem sc__law_is_ints : FnScope N__law_is_ints ["row"] (defScope s__law_is_ints) := ⟨rfl, rfl, rfl, by decide +kernel, rfl, by decide +kernel, by decide +kernel⟩
abbrev s__law_frac : Stmt := topS 16
abbrev N__law_frac : List Str := ["n", "d", "a", "b", "rest"]
theorem sc__law_frac : FnScope N__law_frac ["n", "d"] (defScope s__law_frac) := ⟨rfl, rfl, rfl, by decide +kernel, rfl, by decide +kernel, by decide +kernel⟩
abbrev s__law_is_frac : Stmt := topS 17
abbrev N__law_is_frac : List Str := ["thing"]
theorem sc__law_is_frac : FnScope N__law_is_frac ["thing"] (defScope s__law_is_frac) := ⟨rfl, rfl, rfl, by decide +kernel, rfl, by decide +kernel, by decide +kernel⟩
abbrev s__law_figure : Stmt := topS 18
abbrev N__law_figure : List Str := ["d", "kind", "far"]
theorem sc__law_figure : FnScope N__law_figure ["d", "kind"] (defScope s__law_figure) := ⟨rfl, rfl, rfl, by decide +kernel, rfl, by decide +kernel, by decide +kernel⟩
abbrev s__law_line : Stmt := topS 19
abbrev N__law_line : List Str := ["d", "many", "kind", "row", "k"]
theorem sc__law_line : FnScope N__law_line ["d"] (defScope s__law_line) := ⟨rfl, rfl, rfl, by decide +kernel, rfl, by decide +kernel, by decide +kernel⟩
abbrev s__law_tally : Stmt := topS 20
abbrev N__law_tally : List Str := ["row", "total", "squares", "least", "most", "value"]
theorem sc__law_tally : FnScope N__law_tally ["row"] (defScope s__law_tally) := ⟨rfl, rfl, rfl, by decide +kernel, rfl, by decide +kernel, by decide +kernel⟩
abbrev s__law_same : Stmt := topS 21
abbrev N__law_same : List Str := ["told", "due", "part"]
theorem sc__law_same : FnScope N__law_same ["told", "due"] (defScope s__law_same) := ⟨rfl, rfl, rfl, by decide +kernel, rfl, by decide +kernel, by decide +kernel⟩
abbrev s__law_means_hold : Stmt := topS 22
abbrev N__law_means_hold : List Str := ["row", "due", "mean", "spread", "many", "total", "apart", "value"]
theorem sc__law_means_hold : FnScope N__law_means_hold ["row"] (defScope s__law_means_hold) := ⟨rfl, rfl, rfl, by decide +kernel, rfl, by decide +kernel, by decide +kernel⟩
abbrev s__law_row_holds : Stmt := topS 23
abbrev N__law_row_holds : List Str := ["row", "due", "k", "ahead", "behind"]
theorem sc__law_row_holds : FnScope N__law_row_holds ["row"] (defScope s__law_row_holds) := ⟨rfl, rfl, rfl, by decide +kernel, rfl, by decide +kernel, by decide +kernel⟩
abbrev s_law : Stmt := topS 24
abbrev N_law : List Str := ["script", "d", "rows", "row", "first", "last", "ahead", "behind", "due"]
theorem sc_law : FnScope N_law ["script"] (defScope s_law) := ⟨rfl, rfl, rfl, by decide +kernel, rfl, by decide +kernel, by decide +kernel⟩
structure Txt (K : PySem.W.Frag) (mg : Str → Option Value) : Prop where
  b_int : mg "int" = none
  b_abs : mg "abs" = none
  b_len : mg "len" = none
  b_isinstance : mg "isinstance" = none
  b_bool : mg "bool" = none
  b_tuple : mg "tuple" = none
  b_range : mg "range" = none
  b_sum : mg "sum" = none
  b_min : mg "min" = none
  b_max : mg "max" = none
  b_all : mg "all" = none
  f_gcd : mg "gcd" = some (.builtin "math.gcd")
theorem upd_upd {H : Hp} {p : Addr} {a b : HO} : upd (upd H p a) p b = upd H p b := by
  funext x
  unfold upd
  split <;> rfl
theorem take_map_succ {α β : Type} {f : α → β} {l : List α} {i : Nat} {c : α} (h : l[i]? = some c) : (l.take i).map f ++ [f c] = (l.take (i + 1)).map f := by
  rw [List.take_add_one, h, List.map_append]
  rfl
theorem divW_of {n : Int} (h : 0 < n) (h2 : n < 2 ^ 64) : CDivW 0 n := wide_div h (b := 64) (by omega) (by decide) (by decide)
theorem getV {ns : List Int} {i : Nat} {x : V} (h : (ns.map V.int)[i]? = some x) : ∃ z, x = .int z ∧ ns[i]? = some z := by
  rw [List.getElem?_map] at h
  cases e : ns[i]? with
  | none =>
    rw [e] at h
    cases h
  | some z =>
    rw [e] at h
    exact ⟨z, (Option.some.inj h).symm, rfl⟩
def spBegin (K : PySem.W.Frag) : Sp := fun vs H Q _ => ∃ (a : Addr) (ns : List Int), vs = [.ref a] ∧ SqL K H a (ns.map V.int) ∧ ns.length ≤ 63 ∧ ∀ S D H', Same H H' → H D = none → DrawAt S D H' → Q (.ref D) H'
/-- a text or a list, what it holds -/
def Row (K : PySem.W.Frag) (H : Hp) (v : V) (xs : List V) : Prop := (∃ z : Str, v = .str z ∧ xs = z.cps.toList.map fun c => .str ⟨#[c]⟩) ∨ ∃ p, v = .ref p ∧ SqL K H p xs
def spPick (K : PySem.W.Frag) : Sp := fun vs H Q _ => ∃ (S D : Addr) (r : V) (xs : List V), vs = [.ref D, r] ∧ DrawAt S D H ∧ (∀ H', Go S D H H' → Row K H' r xs) ∧ 0 < xs.length ∧ xs.length ≤ 100000 ∧ ∀ H' x, x ∈ xs → Go S D H H' → Q x H'

theorem same_new {H : Hp} {p : Addr} {o : HO} (h : H p = none) : Same H (upd H p o) := fun b x e => by
  rw [upd_ne (ne_of_none e h)]
  exact e
/-- a change at a place that H does not know -/
theorem same_mut {H H' : Hp} {p : Addr} {o : HO} (s : Same H H') (h : H p = none) : Same H (upd H' p o) := fun b u e => by
  rw [upd_ne (ne_of_none e h)]
  exact s b u e
theorem iteNT {A B : Prop} (h : B) : if (!true) = true then A else B := iteF h
theorem line5 {n : Nat} (h : n ≤ 100000) : n ≤ sizeLine := Nat.le_trans h (by decide)
theorem line6 {n : Nat} (h : n < 100000) : n < sizeLine := Nat.lt_of_lt_of_le h (by decide)
/-! ### fractions -/
abbrev F2 : Type := Int × Int
def gg (n d : Int) : Nat := Nat.gcd n.natAbs d.natAbs
def fr (n d : Int) : F2 := ((if d < 0 then -n else n) / (gg n d : Int), (if d < 0 then -d else d) / (gg n d : Int))
def add2 (a b : F2) : Int × Int := (a.1 * b.2 + b.1 * a.2, a.2 * b.2)
def sub2 (a b : F2) : Int × Int := (a.1 * b.2 - b.1 * a.2, a.2 * b.2)
def mul2 (a b : F2) : Int × Int := (a.1 * b.1, a.2 * b.2)
def div2 (a b : F2) : Int × Int := (a.1 * b.2, a.2 * b.1)
def frp (x : Int × Int) : F2 := fr x.1 x.2
theorem gg_pos {n d : Int} (h : d ≠ 0) : 0 < gg n d := Nat.gcd_pos_of_pos_right _ (Int.natAbs_pos.mpr h)
theorem gg_le {n d : Int} (h : d ≠ 0) : gg n d ≤ d.natAbs := Nat.gcd_le_right _ (Int.natAbs_pos.mpr h)
/-- in lowest terms, the second at least 1 -/
structure Low (x : F2) : Prop where
  pos : 1 ≤ x.2
  co : Nat.gcd x.1.natAbs x.2.natAbs = 1
theorem fr_low {n d : Int} (h : d ≠ 0) : Low (fr n d) := by
  have g0 := gg_pos (n := n) h
  have gd1 : (gg n d : Int) ∣ d := Int.ofNat_dvd_left.mpr (Nat.gcd_dvd_right _ _)
  have gn1 : (gg n d : Int) ∣ n := Int.ofNat_dvd_left.mpr (Nat.gcd_dvd_left _ _)
  have key : ∀ a b : Int, a.natAbs = n.natAbs → b.natAbs = d.natAbs → 0 < b → Low (a / (gg n d : Int), b / (gg n d : Int)) := fun a b ha hb hp => by
    have g1 : (gg n d : Int) ∣ b := Int.ofNat_dvd_left.mpr (by rw [hb]; exact Nat.gcd_dvd_right _ _)
    have g2 : (gg n d : Int) ∣ a := Int.ofNat_dvd_left.mpr (by rw [ha]; exact Nat.gcd_dvd_left _ _)
    refine ⟨?_, ?_⟩
    · have := Int.ediv_pos_of_pos_of_dvd hp (by omega) g1
      show 1 ≤ b / (gg n d : Int)
      omega
    · show Nat.gcd (a / (gg n d : Int)).natAbs (b / (gg n d : Int)).natAbs = 1
      rw [Int.natAbs_ediv_of_dvd g2, Int.natAbs_ediv_of_dvd g1, ha, hb, Int.natAbs_natCast]
      exact Nat.gcd_div_gcd_div_gcd_of_pos_right (Int.natAbs_pos.mpr h)
  unfold fr
  by_cases hd : d < 0
  · rw [if_pos hd, if_pos hd]
    exact key _ _ (Int.natAbs_neg n) (Int.natAbs_neg d) (by omega)
  · rw [if_neg hd, if_neg hd]
    exact key _ _ rfl rfl (by omega)
theorem low_fr {x : F2} (h : Low x) : fr x.1 x.2 = x := by
  have h1 := h.pos
  unfold fr
  rw [if_neg (by omega), if_neg (by omega)]
  have : gg x.1 x.2 = 1 := h.co
  rw [this]
  show (x.1 / 1, x.2 / 1) = x
  rw [Int.ediv_one, Int.ediv_one]
/-- the size: below 2 ^ k both -/
def Sz (k : Nat) (x : Int × Int) : Prop := x.1.natAbs < 2 ^ k ∧ x.2.natAbs < 2 ^ k
theorem div_small (a : Int) (g : Nat) : (a / (g : Int)).natAbs ≤ a.natAbs := Int.natAbs_ediv_le_natAbs a g
theorem fr_sz {k : Nat} {x : Int × Int} (h : Sz k x) : Sz k (frp x) := by
  have key : ∀ (c : Prop) [Decidable c] (a : Int) (g : Nat), ((if c then -a else a) / (g : Int)).natAbs ≤ a.natAbs := fun c _ a g => by
    split
    · exact Nat.le_trans (div_small _ _) (Nat.le_of_eq (Int.natAbs_neg a))
    · exact div_small _ _
  exact ⟨Nat.lt_of_le_of_lt (key _ _ _) h.1, Nat.lt_of_le_of_lt (key _ _ _) h.2⟩
theorem sz_mul {a b : Int} {j k : Nat} (ha : a.natAbs < 2 ^ j) (hb : b.natAbs < 2 ^ k) : (a * b).natAbs < 2 ^ (j + k) := wide_lt ha hb
theorem sz_add {a b : Int} {k : Nat} (ha : a.natAbs < 2 ^ k) (hb : b.natAbs < 2 ^ k) : (a + b).natAbs < 2 ^ (k + 1) := by
  have := Int.natAbs_add_le a b
  rw [Nat.pow_succ]
  omega
theorem sz_sub {a b : Int} {k : Nat} (ha : a.natAbs < 2 ^ k) (hb : b.natAbs < 2 ^ k) : (a - b).natAbs < 2 ^ (k + 1) := by
  have := sz_add ha (b := -b) (by rw [Int.natAbs_neg]; exact hb)
  rw [Int.sub_eq_add_neg]
  exact this
theorem sz_up {x : Int × Int} {j k : Nat} (h : Sz j x) (hl : j ≤ k) : Sz k x :=
  ⟨Nat.lt_of_lt_of_le h.1 (Nat.pow_le_pow_right (by decide) hl), Nat.lt_of_lt_of_le h.2 (Nat.pow_le_pow_right (by decide) hl)⟩
theorem n_up {a : Int} {j k : Nat} (h : a.natAbs < 2 ^ j) (hl : j ≤ k) : a.natAbs < 2 ^ k := Nat.lt_of_lt_of_le h (Nat.pow_le_pow_right (by decide) hl)
theorem add2_sz {a b : F2} {j k : Nat} (ha : Sz j a) (hb : Sz k b) : Sz (j + k + 1) (add2 a b) :=
  ⟨sz_add (sz_mul ha.1 hb.2) (by rw [Nat.add_comm j k]; exact sz_mul hb.1 ha.2), n_up (sz_mul ha.2 hb.2) (Nat.le_succ _)⟩
theorem sub2_sz {a b : F2} {j k : Nat} (ha : Sz j a) (hb : Sz k b) : Sz (j + k + 1) (sub2 a b) :=
  ⟨sz_sub (sz_mul ha.1 hb.2) (by rw [Nat.add_comm j k]; exact sz_mul hb.1 ha.2), n_up (sz_mul ha.2 hb.2) (Nat.le_succ _)⟩
theorem mul2_sz {a b : F2} {j k : Nat} (ha : Sz j a) (hb : Sz k b) : Sz (j + k + 1) (mul2 a b) := ⟨n_up (sz_mul ha.1 hb.1) (Nat.le_succ _), n_up (sz_mul ha.2 hb.2) (Nat.le_succ _)⟩
theorem div2_sz {a b : F2} {j k : Nat} (ha : Sz j a) (hb : Sz k b) : Sz (j + k + 1) (div2 a b) := ⟨n_up (sz_mul ha.1 hb.2) (Nat.le_succ _), n_up (sz_mul ha.2 hb.1) (Nat.le_succ _)⟩
/-- the sum of a row, from the left -/
def tot : List F2 → F2 → F2
  | [], t => t
  | x :: r, t => tot r (frp (add2 t x))
theorem gg_if (n d : Int) : (if d < 0 then -n else n).natAbs.gcd (if d < 0 then -d else d).natAbs = gg n d := by
  unfold gg
  split <;> simp
theorem low0 : Low (0, 1) := ⟨by decide, by decide⟩
theorem sz0 : Sz 1 (0, 1) := ⟨by decide, by decide⟩
theorem low_frp {x : Int × Int} (h : x.2 ≠ 0) : Low (frp x) := fr_low h
theorem add2_ne {a b : F2} (ha : Low a) (hb : Low b) : (add2 a b).2 ≠ 0 := by
  have h1 := ha.pos
  have h2 := hb.pos
  exact Int.ne_of_gt (Int.mul_pos (by omega) (by omega))
theorem tot_ok : ∀ (fs : List F2) (t : F2) {k : Nat}, Low t → Sz k t → (∀ x ∈ fs, Sz 100 x ∧ Low x) → Sz (k + 101 * fs.length) (tot fs t) ∧ Low (tot fs t)
  | [], t, k, h1, h2, _ => ⟨h2, h1⟩
  | x :: r, t, k, h1, h2, h3 => by
    obtain ⟨a, b⟩ := h3 x (List.mem_cons_self)
    have := tot_ok r (frp (add2 t x)) (k := k + 100 + 1) (low_frp (add2_ne h1 b)) (fr_sz (add2_sz h2 a)) (fun y hy => h3 y (List.mem_cons_of_mem _ hy))
    refine ⟨sz_up this.1 ?_, this.2⟩
    rw [List.length_cons]
    omega
theorem tot_snoc (x : F2) : ∀ (l : List F2) (t : F2), tot (l ++ [x]) t = frp (add2 (tot l t) x)
  | [], _ => rfl
  | y :: r, t => tot_snoc x r (frp (add2 t y))
theorem same_l {K : PySem.W.Frag} {H H' : Hp} {a : Addr} {xs : List V} (e : Same H H') (h : SqL K H a xs) : SqL K H' a xs := e.seq h
theorem same_t {K : PySem.W.Frag} {H H' : Hp} {a : Addr} {xs : List V} (e : Same H H') (h : SqT K H a xs) : SqT K H' a xs := by
  rcases h with (h | ⟨o, h⟩) | h
  · exact .inl (.inl (e _ _ h))
  · exact .inl (.inr ⟨o, e _ _ h⟩)
  · exact .inr h
theorem Paired.at {α β : Type} {R : α → β → Prop} : ∀ {xs : List α} {ys : List β} {i : Nat} {x : α}, Paired R xs ys → xs[i]? = some x → ∃ y, ys[i]? = some y ∧ R x y
  | _, _, _, _, .nil, e => by simp at e
  | _, _, 0, _, .cons r _, e => by
    have e : _ = _ := Option.some.inj e
    subst e
    exact ⟨_, rfl, r⟩
  | _, _, i + 1, x, .cons _ t, e => by
    obtain ⟨y, h1, h2⟩ := Paired.at (i := i) (x := x) t (by simpa using e)
    exact ⟨y, by simpa using h1, h2⟩
def dF (x : Int × Int) : PyData := .tuple [.int x.1, .int x.2]
def dFs (l : List (Int × Int)) : PyData := .list (l.map dF)
theorem dF_sh (x : Int × Int) : SeqAt.shaped (dF x) = true := rfl
theorem dFs_lay : ∀ l : List (Int × Int), PyData.canLayAll0 (l.map dF) = true
  | [] => rfl
  | x :: r => by
    show (PyData.canLay0 (dF x) && PyData.canLayAll0 (r.map dF)) = true
    rw [dFs_lay r]
    rfl
theorem dFs_dep : ∀ l : List (Int × Int), PyData.depthAll (l.map dF) ≤ 1
  | [] => Nat.zero_le _
  | x :: r => by
    show max (PyData.depth (dF x)) (PyData.depthAll (r.map dF)) ≤ 1
    have := dFs_dep r
    have e : PyData.depth (dF x) = 1 := rfl
    omega
theorem dFs_sh (l : List (Int × Int)) : SeqAt.shaped (dFs l) = true := by
  unfold SeqAt.shaped
  rw [Bool.and_eq_true]
  refine ⟨dFs_lay l, decide_eq_true ?_⟩
  show PyData.depthAll (l.map dF) + 1 ≤ 64
  have := dFs_dep l
  omega
theorem dFs_eqv (l : List (Int × Int)) : PyData.eqv (dFs l) (dFs l) = true := SeqAt.eqv_refl _ (dFs_lay l)
theorem dF_eqv (x : Int × Int) : PyData.eqv (dF x) (dF x) = true := SeqAt.eqv_refl _ rfl
/-! ### promises -/
def tupF (x : Int × Int) : HO := .tup [.int x.1, .int x.2]
def spFrac : Sp := fun vs H Q _ => ∃ n d : Int, vs = [.int n, .int d] ∧ d ≠ 0 ∧ Sz 4000 (n, d) ∧ ∀ p, H p = none → Q (.ref p) (upd H p (tupF (fr n d)))
def spBin (K : PySem.W.Frag) (op : F2 → F2 → Int × Int) : Sp := fun vs H Q _ => ∃ (p q : Addr) (a b : F2), vs = [.ref p, .ref q] ∧ H p = some (tupF a) ∧ H q = some (tupF b) ∧ Sz 1900 a ∧ Sz 1900 b ∧ (op a b).2 ≠ 0 ∧ ∀ r, H r = none → Q (.ref r) (upd H r (tupF (frp (op a b))))
def spIsInt : Sp := fun vs H Q _ => ∃ i : Int, vs = [.int i] ∧ Q (.bl true) H
def spIsInts (K : PySem.W.Frag) : Sp := fun vs H Q _ => ∃ (p : Addr) (ns : List Int), vs = [.ref p] ∧ H p = some (.tup (ns.map V.int)) ∧ ns.length ≤ 100 ∧ ∀ H', Same H H' → Q (.bl true) H'
def spIsFrac (K : PySem.W.Frag) : Sp := fun vs H Q _ => ∃ (p : Addr) (x : F2), vs = [.ref p] ∧ H p = some (tupF x) ∧ Low x ∧ Sz 4000 x ∧ ∀ H', Same H H' → Q (.bl true) H'
def spLaw (K : PySem.W.Frag) : Sp := fun vs H Q _ => ∃ (a : Addr) (ns : List Int), vs = [.ref a] ∧ SqL K H a (ns.map V.int) ∧ ns.length ≤ 63 ∧ ∀ H', Q (.bl true) H'
theorem dp_F {K : PySem.W.Frag} {H : Hp} {p : Addr} {x : Int × Int} (h : H p = some (tupF x)) : Dp K H (.ref p) (dF x) := .tup (SqT.of h) (.cons (.int _) (.cons (.int _) .nil))
theorem cut_k (xs : List V) (k : Nat) : cutV xs none (some (k : Int)) = xs.take k := by
  unfold cutV
  rw [HT.sIx_nat, HT.sIx_none]
  show List.take (min k xs.length - 0) (xs.drop 0) = _
  rw [List.drop_zero, Nat.sub_zero, ← List.take_eq_take_min]
theorem cut_3 (xs : List V) : cutV xs none (some 3) = xs.take 3 := cut_k xs 3
theorem all_true {α : Type} (l : List α) : (l.map fun _ => true).all id = true := by
  rw [List.all_map]
  exact List.all_eq_true.mpr fun _ _ => rfl
/-! ### sum, min, max of a tuple of whole numbers, with default= -/
section
variable {X : Cx}
theorem cr_sumT (hc : X.calm = true) : CallR X (.builtin "sum") (fun vs H Q => ∃ (a : Addr) (ns : List Int), vs = [V.ref a] ∧ SqT X.K H a (ns.map V.int) ∧ Q (.int ns.sum) H) := by
  intro pins s σ H vs us Q I r h
  obtain ⟨a, ns, rfl, hs, q⟩ := h
  obtain ⟨its, rv, hl, _⟩ := I.tuple hs
  rw [Vals.ref1 r]
  obtain ⟨xs, e⟩ := rv.ints.allInts.items
  have hn : numsOf (intItems xs).toList = ns := e ▸ rv.ints.numsOf
  rw [nums_intItems] at hn
  rw [e] at hl
  refine PySem.W.ktm_sumG (I.ok.hd hc) hl fun h' tk t' hk => ⟨.int _, H, I.kept hk, ⟨t', rfl⟩, ?_⟩
  rw [preSum_eq, List.take_of_length_le (by simp), hn]
  exact q
theorem al_ints (ns : List Int) : PySem.W.AlikeAll (ns.map PyData.int) := by
  refine ⟨fun x hx y hy => ?_, fun x hx e => ?_⟩
  · obtain ⟨i, _, rfl⟩ := List.mem_map.mp hx
    obtain ⟨j, _, rfl⟩ := List.mem_map.mp hy
    rfl
  · obtain ⟨i, _, rfl⟩ := List.mem_map.mp hx
    cases e
theorem dep_ints : ∀ ns : List Int, PyData.depthAll (ns.map PyData.int) = 0
  | [] => rfl
  | n :: r => by
    show max (PyData.depth (.int n)) (PyData.depthAll (r.map PyData.int)) = 0
    rw [dep_ints r]
    rfl
/-- xs of whole numbers: f of the first and the others, or the default -/
def rExtT (K : PySem.W.Frag) (f : Int → Int → Int) : List V → List V → Hp → VK → Prop := fun vs zs H Q => ∃ (a : Addr) (ns : List Int) (d : V), vs = [.ref a] ∧ zs = [d] ∧ SqT K H a (ns.map V.int) ∧ (ns = [] → Q d H) ∧ ∀ n r, ns = n :: r → Q (.int (r.foldl f n)) H
def rExtL (K : PySem.W.Frag) (f : Int → Int → Int) : List V → List V → Hp → VK → Prop := fun vs zs H Q => ∃ (a : Addr) (ns : List Int) (d : V), vs = [.ref a] ∧ zs = [d] ∧ SqL K H a (ns.map V.int) ∧ (ns = [] → Q d H) ∧ ∀ n r, ns = n :: r → Q (.int (r.foldl f n)) H
theorem cr_minT (hc : X.calm = true) (hu : X.A.units + 64 < cLine) : CallRK X (.builtin "min") [Str.ofString "default"] (rExtT X.K min) := by
  intro pins s σ H vs zs us ws Q I r rz h
  obtain ⟨a, ns, d, rfl, rfl, hs, q0, q⟩ := h
  obtain ⟨its, rv, hl, _⟩ := I.tuple hs
  obtain ⟨w, rfl, rw'⟩ := vals1 rz
  rw [Vals.ref1 r]
  refine PySem.W.min_tuple_default (xs := ns.map PyData.int) (as := []) (I.ok.hd hc) hl (ints_readAll _ rv.ints) (al_ints ns) (by rw [dep_ints]; omega) (fun e h' tk hk => ⟨d, H, I.kept hk, rw', q0 ?_⟩) fun y ys i v h' tk bs e hv rd hk => ?_
  · cases ns with
    | nil => rfl
    | cons n r => cases e
  · cases ns with
    | nil => cases e
    | cons n r =>
      obtain ⟨rfl, rfl⟩ := List.cons.inj (show PyData.int n :: r.map PyData.int = y :: ys from e)
      rw [PySem.W.minD_ints] at rd
      cases rd with
      | int i t => exact ⟨.int _, H, I.kept hk, ⟨t, rfl⟩, q n r rfl⟩
theorem cr_maxT (hc : X.calm = true) (hu : X.A.units + 64 < cLine) : CallRK X (.builtin "max") [Str.ofString "default"] (rExtT X.K max) := by
  intro pins s σ H vs zs us ws Q I r rz h
  obtain ⟨a, ns, d, rfl, rfl, hs, q0, q⟩ := h
  obtain ⟨its, rv, hl, _⟩ := I.tuple hs
  obtain ⟨w, rfl, rw'⟩ := vals1 rz
  rw [Vals.ref1 r]
  refine PySem.W.max_tuple_default (xs := ns.map PyData.int) (as := []) (I.ok.hd hc) hl (ints_readAll _ rv.ints) (al_ints ns) (by rw [dep_ints]; omega) (fun e h' tk hk => ⟨d, H, I.kept hk, rw', q0 ?_⟩) fun y ys i v h' tk bs e hv rd hk => ?_
  · cases ns with
    | nil => rfl
    | cons n r => cases e
  · cases ns with
    | nil => cases e
    | cons n r =>
      obtain ⟨rfl, rfl⟩ := List.cons.inj (show PyData.int n :: r.map PyData.int = y :: ys from e)
      rw [PySem.W.maxD_ints] at rd
      cases rd with
      | int i t => exact ⟨.int _, H, I.kept hk, ⟨t, rfl⟩, q n r rfl⟩
theorem cr_minL (hc : X.calm = true) (hu : X.A.units + 64 < cLine) : CallRK X (.builtin "min") [Str.ofString "default"] (rExtL X.K min) := by
  intro pins s σ H vs zs us ws Q I r rz h
  obtain ⟨a, ns, d, rfl, rfl, hs, q0, q⟩ := h
  obtain ⟨its, rv, hl, _⟩ := I.list hs
  obtain ⟨w, rfl, rw'⟩ := vals1 rz
  rw [Vals.ref1 r]
  refine PySem.W.min_list_default (xs := ns.map PyData.int) (as := []) (I.ok.hd hc) hl.isList (ints_readAll _ rv.ints) (al_ints ns) (by rw [dep_ints]; omega) (fun e h' tk hk => ⟨d, H, I.kept hk, rw', q0 ?_⟩) fun y ys i v h' tk bs e hv rd hk => ?_
  · cases ns with
    | nil => rfl
    | cons n r => cases e
  · cases ns with
    | nil => cases e
    | cons n r =>
      obtain ⟨rfl, rfl⟩ := List.cons.inj (show PyData.int n :: r.map PyData.int = y :: ys from e)
      rw [PySem.W.minD_ints] at rd
      cases rd with
      | int i t => exact ⟨.int _, H, I.kept hk, ⟨t, rfl⟩, q n r rfl⟩
theorem cr_maxL (hc : X.calm = true) (hu : X.A.units + 64 < cLine) : CallRK X (.builtin "max") [Str.ofString "default"] (rExtL X.K max) := by
  intro pins s σ H vs zs us ws Q I r rz h
  obtain ⟨a, ns, d, rfl, rfl, hs, q0, q⟩ := h
  obtain ⟨its, rv, hl, _⟩ := I.list hs
  obtain ⟨w, rfl, rw'⟩ := vals1 rz
  rw [Vals.ref1 r]
  refine PySem.W.max_list_default (xs := ns.map PyData.int) (as := []) (I.ok.hd hc) hl.isList (ints_readAll _ rv.ints) (al_ints ns) (by rw [dep_ints]; omega) (fun e h' tk hk => ⟨d, H, I.kept hk, rw', q0 ?_⟩) fun y ys i v h' tk bs e hv rd hk => ?_
  · cases ns with
    | nil => rfl
    | cons n r => cases e
  · cases ns with
    | nil => cases e
    | cons n r =>
      obtain ⟨rfl, rfl⟩ := List.cons.inj (show PyData.int n :: r.map PyData.int = y :: ys from e)
      rw [PySem.W.maxD_ints] at rd
      cases rd with
      | int i t => exact ⟨.int _, H, I.kept hk, ⟨t, rfl⟩, q n r rfl⟩
end
/-! ### the reckoning -/
def sq (l : List Int) : Int := (l.map fun v => v * v).sum
def aps (c t : Int) (l : List Int) : Int := (l.map fun v => (c * v - t) * (c * v - t)).sum
theorem aps_eq (c t : Int) : ∀ l : List Int, aps c t l = c * c * sq l - 2 * c * t * l.sum + l.length * (t * t)
  | [] => by simp [sq, aps]
  | v :: r => by
    have := aps_eq c t r
    unfold sq aps at *
    simp only [List.map_cons, List.sum_cons, List.length_cons] at *
    rw [this]
    push_cast
    grind
def len (l : List Int) : Int := (l.length : Int)
/-- the numerator of the error, over the number of integers cubed -/
def nn (l : List Int) : Int := sq l * len l - l.sum * l.sum
def AP (l : List Int) : Int := aps (len l) l.sum l
def Q4 (l : List Int) : Int := len l * len l * len l * len l
theorem AP_eq (l : List Int) : AP l = len l * nn l := by
  unfold AP nn
  rw [aps_eq]
  unfold len
  grind
theorem frv {n d : Int} (h : d ≠ 0) : (fr n d).1 * d = n * (fr n d).2 := by
  have g0 : (gg n d : Int) ≠ 0 := by
    have := Nat.gcd_pos_of_pos_right n.natAbs (Int.natAbs_pos.mpr h)
    show ((Nat.gcd n.natAbs d.natAbs : Nat) : Int) ≠ 0
    omega
  obtain ⟨a, ha⟩ : (gg n d : Int) ∣ n := Int.ofNat_dvd_left.mpr (Nat.gcd_dvd_left _ _)
  obtain ⟨b, hb⟩ : (gg n d : Int) ∣ d := Int.ofNat_dvd_left.mpr (Nat.gcd_dvd_right _ _)
  show ((if d < 0 then -n else n) / (gg n d : Int)) * d = n * ((if d < 0 then -d else d) / (gg n d : Int))
  generalize (gg n d : Int) = g at *
  split
  · rw [show -n = g * -a by rw [ha]; grind, show -d = g * -b by rw [hb]; grind, Int.mul_ediv_cancel_left _ g0, Int.mul_ediv_cancel_left _ g0]
    subst ha hb
    grind
  · rw [show n / g = a by rw [ha, Int.mul_ediv_cancel_left _ g0], show d / g = b by rw [hb, Int.mul_ediv_cancel_left _ g0]]
    subst ha hb
    grind
theorem low_uniq {x y : F2} (hx : Low x) (hy : Low y) (e : x.1 * y.2 = y.1 * x.2) : x = y := by
  obtain ⟨a, b⟩ := x
  obtain ⟨c, d⟩ := y
  have b1 : 1 ≤ b := hx.pos
  have d1 : 1 ≤ d := hy.pos
  have e1 : a.natAbs * d.natAbs = c.natAbs * b.natAbs := by
    rw [← Int.natAbs_mul, ← Int.natAbs_mul]
    exact congrArg Int.natAbs e
  have h1 : b.natAbs ∣ d.natAbs := Nat.Coprime.dvd_of_dvd_mul_left (Nat.Coprime.symm hx.co) ⟨c.natAbs, by rw [e1, Nat.mul_comm]⟩
  have h2 : d.natAbs ∣ b.natAbs := Nat.Coprime.dvd_of_dvd_mul_left (Nat.Coprime.symm hy.co) ⟨a.natAbs, by rw [← e1, Nat.mul_comm]⟩
  have h3 := Nat.dvd_antisymm h1 h2
  have h4 : b = d := by omega
  subst h4
  have h5 : a = c := Int.eq_of_mul_eq_mul_right (by omega) (show a * b = c * b from e)
  rw [h5]
theorem key {s t n u1 u2 m1 m2 q1 q2 x1 x2 : Int} (hn : n ≠ 0) (hu : u2 ≠ 0) (hm : m2 ≠ 0) (hq : q2 ≠ 0) (e1 : u1 * n = s * u2) (e2 : m1 * n = t * m2) (e3 : q1 * (m2 * m2) = m1 * m1 * q2) (e4 : x1 * (u2 * q2) = (u1 * q2 - q1 * u2) * x2) :
    x1 * (n * n * n) = n * (s * n - t * t) * x2 := by
  have c : u2 * q2 * (m2 * m2) ≠ 0 := Int.mul_ne_zero (Int.mul_ne_zero hu hq) (Int.mul_ne_zero hm hm)
  refine Int.eq_of_mul_eq_mul_left c ?_
  calc u2 * q2 * (m2 * m2) * (x1 * (n * n * n)) = (x1 * (u2 * q2)) * (m2 * m2) * (n * n * n) := by grind
    _ = (u1 * q2 - q1 * u2) * x2 * (m2 * m2) * (n * n * n) := by rw [e4]
    _ = x2 * (n * n * n) * (u1 * q2 * (m2 * m2) - q1 * (m2 * m2) * u2) := by grind
    _ = x2 * (n * n * n) * (u1 * q2 * (m2 * m2) - m1 * m1 * q2 * u2) := by rw [e3]
    _ = x2 * n * q2 * ((u1 * n) * n * (m2 * m2) - (m1 * n) * (m1 * n) * u2) := by grind
    _ = x2 * n * q2 * ((s * u2) * n * (m2 * m2) - (t * m2) * (t * m2) * u2) := by rw [e1, e2]
    _ = u2 * q2 * (m2 * m2) * (n * (s * n - t * t) * x2) := by grind
def omin : Option Int → Option Int → Option Int
  | none, b => b
  | a, none => a
  | some a, some b => some (min a b)
def loO : List Int → Option Int
  | [] => none
  | x :: r => omin (some x) (loO r)
theorem omin_assoc (a b c : Option Int) : omin a (omin b c) = omin (omin a b) c := by
  cases a <;> cases b <;> cases c <;> simp [omin]
theorem omin_comm (a b : Option Int) : omin a b = omin b a := by
  cases a <;> cases b <;> simp [omin]
  omega
theorem loO_app : ∀ (a b : List Int), loO (a ++ b) = omin (loO a) (loO b)
  | [], b => by cases h : loO b <;> simp [loO, omin, h]
  | x :: r, b => by
    show omin (some x) (loO (r ++ b)) = _
    rw [loO_app r b, omin_assoc]
    rfl
theorem loO_fold : ∀ (r : List Int) (a : Int), omin (some a) (loO r) = some (r.foldl min a)
  | [], a => rfl
  | x :: r, a => by
    show omin (some a) (omin (some x) (loO r)) = some (r.foldl min (min a x))
    rw [omin_assoc]
    exact loO_fold r (min a x)
def omax : Option Int → Option Int → Option Int
  | none, b => b
  | a, none => a
  | some a, some b => some (max a b)
def hiO : List Int → Option Int
  | [] => none
  | x :: r => omax (some x) (hiO r)
theorem omax_assoc (a b c : Option Int) : omax a (omax b c) = omax (omax a b) c := by
  cases a <;> cases b <;> cases c <;> simp [omax]
theorem omax_comm (a b : Option Int) : omax a b = omax b a := by
  cases a <;> cases b <;> simp [omax]
  omega
theorem hiO_app : ∀ (a b : List Int), hiO (a ++ b) = omax (hiO a) (hiO b)
  | [], b => by cases h : hiO b <;> simp [hiO, omax, h]
  | x :: r, b => by
    show omax (some x) (hiO (r ++ b)) = _
    rw [hiO_app r b, omax_assoc]
    rfl
theorem hiO_fold : ∀ (r : List Int) (a : Int), omax (some a) (hiO r) = some (r.foldl max a)
  | [], a => rfl
  | x :: r, a => by
    show omax (some a) (omax (some x) (hiO r)) = some (r.foldl max (max a x))
    rw [omax_assoc]
    exact hiO_fold r (max a x)

/-! ### tallies -/
def Few (ns : List Int) : Prop := ∀ z ∈ ns, z.natAbs ≤ 2 ^ 40
theorem sum_few : ∀ {ns : List Int}, Few ns → ns.sum.natAbs ≤ ns.length * 2 ^ 40
  | [], _ => by simp
  | z :: r, h => by
    have h1 := h z List.mem_cons_self
    have h2 := sum_few (ns := r) fun x hx => h x (List.mem_cons_of_mem _ hx)
    rw [List.sum_cons, List.length_cons]
    omega
theorem sq_few : ∀ {ns : List Int}, Few ns → (sq ns).natAbs ≤ ns.length * 2 ^ 80
  | [], _ => by simp [sq]
  | z :: r, h => by
    have h1 := h z List.mem_cons_self
    have h2 := sq_few (ns := r) fun x hx => h x (List.mem_cons_of_mem _ hx)
    have h3 : (z * z).natAbs ≤ 2 ^ 40 * 2 ^ 40 := by
      rw [Int.natAbs_mul]
      exact Nat.mul_le_mul h1 h1
    have e : sq (z :: r) = z * z + sq r := rfl
    rw [e, List.length_cons]
    omega
theorem Few.app {a b : List Int} (ha : Few a) (hb : Few b) : Few (a ++ b) := fun z hz => (List.mem_append.mp hz).elim (ha z) (hb z)
theorem Few.take {ns : List Int} (h : Few ns) (i : Nat) : Few (ns.take i) := fun z hz => h z (List.mem_of_mem_take hz)
theorem Few.drop {ns : List Int} (h : Few ns) (i : Nat) : Few (ns.drop i) := fun z hz => h z (List.mem_of_mem_drop hz)
theorem few_nil : Few [] := fun _ h => absurd h List.not_mem_nil
theorem few_add {ns : List Int} {z : Int} (h : Few ns) (hz : z.natAbs ≤ 2 ^ 40) : Few (ns ++ [z]) := fun x hx => by
  rcases List.mem_append.mp hx with h1 | h1
  · exact h x h1
  · rw [List.mem_singleton.mp h1]
    exact hz
def vO : Option Int → V
  | none => .non
  | some i => .int i
def dO : Option Int → PyData
  | none => .none
  | some i => .int i
def tal (l : List Int) : List V := [.int (len l), .int l.sum, .int (sq l), vO (loO l), vO (hiO l)]
def dT (l : List Int) : PyData := .tuple [.int (len l), .int l.sum, .int (sq l), dO (loO l), dO (hiO l)]
theorem dp_O {K : PySem.W.Frag} {H : Hp} (o : Option Int) : Dp K H (vO o) (dO o) := by
  cases o with
  | none => exact .non
  | some i => exact .int i
theorem dp_T {K : PySem.W.Frag} {H : Hp} {p : Addr} {l : List Int} (h : H p = some (.tup (tal l))) : Dp K H (.ref p) (dT l) := .tup (SqT.of h) (.cons (.int _) (.cons (.int _) (.cons (.int _) (.cons (dp_O _) (.cons (dp_O _) .nil)))))
theorem dT_lay (l : List Int) : PyData.canLay0 (dT l) = true := by
  unfold dT
  cases loO l <;> cases hiO l <;> rfl
theorem dT_sh (l : List Int) : SeqAt.shaped (dT l) = true := by
  unfold dT
  cases loO l <;> cases hiO l <;> rfl
theorem dT_eqv (l : List Int) : PyData.eqv (dT l) (dT l) = true := SeqAt.eqv_refl _ (dT_lay l)
theorem len_app (a b : List Int) : len (a ++ b) = len a + len b := by
  unfold len
  rw [List.length_append]
  omega
theorem sum_app (a b : List Int) : (a ++ b).sum = a.sum + b.sum := List.sum_append
theorem sq_app (a b : List Int) : sq (a ++ b) = sq a + sq b := by
  unfold sq
  rw [List.map_append, List.sum_append]
theorem tal_comm (a b : List Int) : tal (a ++ b) = tal (b ++ a) := by
  unfold tal
  rw [len_app, len_app, sum_app, sum_app, sq_app, sq_app, loO_app, loO_app, hiO_app, hiO_app, Int.add_comm (len a), Int.add_comm a.sum, Int.add_comm (sq a), omin_comm, omax_comm]
theorem len_pos {l : List Int} (h : l ≠ []) : 0 < len l := by
  have := List.length_pos_iff.mpr h
  unfold len
  omega
theorem loO_none {l : List Int} (h : loO l = none) : l = [] := by
  cases l with
  | nil => rfl
  | cons x r =>
    have : loO (x :: r) = some (r.foldl min x) := loO_fold r x
    rw [this] at h
    cases h
def mn (l : List Int) : F2 := fr l.sum (len l)
def spr (l : List Int) : F2 := frp (sub2 (fr (sq l) (len l)) (frp (mul2 (mn l) (mn l))))
theorem spr_low {l : List Int} (h : l ≠ []) : Low (spr l) := by
  have h0 := len_pos h
  have a := fr_low (n := sq l) (d := len l) (by omega)
  have b := fr_low (n := l.sum) (d := len l) (by omega)
  have c := low_frp (x := mul2 (mn l) (mn l)) (Int.mul_ne_zero (by have := b.pos; show (fr l.sum (len l)).2 ≠ 0; omega) (by have := b.pos; show (fr l.sum (len l)).2 ≠ 0; omega))
  refine low_frp (Int.mul_ne_zero ?_ ?_)
  · have := a.pos
    omega
  · have := c.pos
    omega
theorem spr_eq {l : List Int} (h : l ≠ []) : spr l = fr (AP l) (len l * len l * len l) := by
  have h0 := len_pos h
  have n0 : len l ≠ 0 := by omega
  have n3 : len l * len l * len l ≠ 0 := Int.mul_ne_zero (Int.mul_ne_zero n0 n0) n0
  have a := fr_low (n := sq l) (d := len l) n0
  have b := fr_low (n := l.sum) (d := len l) n0
  have a1 := a.pos
  have b1 := b.pos
  have m2 : (mul2 (mn l) (mn l)).2 ≠ 0 := Int.mul_ne_zero (by show (fr l.sum (len l)).2 ≠ 0; omega) (by show (fr l.sum (len l)).2 ≠ 0; omega)
  have c := low_frp (x := mul2 (mn l) (mn l)) m2
  have c1 := c.pos
  have s2 : (sub2 (fr (sq l) (len l)) (frp (mul2 (mn l) (mn l)))).2 ≠ 0 := Int.mul_ne_zero (by omega) (by omega)
  refine low_uniq (spr_low h) (fr_low n3) ?_
  have e1 := frv (n := sq l) n0
  have e2 := frv (n := l.sum) n0
  have e3 : (frp (mul2 (mn l) (mn l))).1 * ((mn l).2 * (mn l).2) = (mn l).1 * (mn l).1 * (frp (mul2 (mn l) (mn l))).2 := frv m2
  have e4 : (spr l).1 * ((fr (sq l) (len l)).2 * (frp (mul2 (mn l) (mn l))).2) = ((fr (sq l) (len l)).1 * (frp (mul2 (mn l) (mn l))).2 - (frp (mul2 (mn l) (mn l))).1 * (fr (sq l) (len l)).2) * (spr l).2 := frv s2
  have e5 := key n0 (by omega) (by show (fr l.sum (len l)).2 ≠ 0; omega) (by omega) e1 e2 e3 e4
  have e6 := frv (n := AP l) n3
  refine Int.eq_of_mul_eq_mul_right n3 ?_
  have e8 : len l * (sq l * len l - l.sum * l.sum) = AP l := (AP_eq l).symm
  rw [e8] at e5
  clear e1 e2 e3 e4 e8
  generalize fr (AP l) (len l * len l * len l) = y at *
  generalize spr l = x at *
  generalize len l * len l * len l = n at *
  generalize AP l = p at *
  calc x.1 * y.2 * n = (x.1 * n) * y.2 := by grind
    _ = p * x.2 * y.2 := by rw [e5]
    _ = p * y.2 * x.2 := by grind
    _ = y.1 * n * x.2 := by rw [e6]
    _ = y.1 * x.2 * n := by grind
theorem mn_low {l : List Int} (h : l ≠ []) : Low (mn l) := fr_low (by have := len_pos h; omega)
theorem sz_s {l : List Int} (h : l.length ≤ 200) (hf : Few l) : Sz 60 (l.sum, len l) := by
  have := sum_few hf
  refine ⟨?_, ?_⟩
  · show l.sum.natAbs < 2 ^ 60
    omega
  · show (len l).natAbs < 2 ^ 60
    unfold len
    omega
theorem sz_q {l : List Int} (h : l.length ≤ 200) (hf : Few l) : Sz 100 (sq l, len l) := by
  have := sq_few hf
  refine ⟨?_, ?_⟩
  · show (sq l).natAbs < 2 ^ 100
    omega
  · show (len l).natAbs < 2 ^ 100
    unfold len
    omega
theorem mn_sz {l : List Int} (h : l.length ≤ 200) (hf : Few l) : Sz 60 (mn l) := fr_sz (sz_s h hf)
theorem spr_sz {l : List Int} (h : l.length ≤ 200) (hf : Few l) : Sz 300 (spr l) := fr_sz (sz_up (sub2_sz (fr_sz (sz_q h hf)) (fr_sz (mul2_sz (mn_sz h hf) (mn_sz h hf)))) (by decide))
def spRare : Sp := fun vs H Q _ => ∃ (S D : Addr) (m : Int), vs = [.ref D, .int m] ∧ 0 < m ∧ m < 1000 ∧ DrawAt S D H ∧ ∀ H' b, Go S D H H' → Q (.bl b) H'
def spTally (K : PySem.W.Frag) : Sp := fun vs H Q _ => ∃ (a : Addr) (ns : List Int), vs = [.ref a] ∧ SqT K H a (ns.map V.int) ∧ ns.length ≤ 200 ∧ Few ns ∧ ∀ (H' : Hp) (p : Addr), Same H H' → H' p = some (.tup (tal ns)) → Q (.ref p) H'
def spLTally (K : PySem.W.Frag) : Sp := fun vs H Q _ => ∃ (a : Addr) (ns : List Int), vs = [.ref a] ∧ SqL K H a (ns.map V.int) ∧ ns.length ≤ 200 ∧ Few ns ∧ ∀ (H' : Hp) (p : Addr), Same H H' → H' p = some (.tup (tal ns)) → Q (.ref p) H'
def spJoin (K : PySem.W.Frag) : Sp := fun vs H Q _ => ∃ (p q : Addr) (xs ys : List Int), vs = [.ref p, .ref q] ∧ H p = some (.tup (tal xs)) ∧ H q = some (.tup (tal ys)) ∧ ∀ (H' : Hp) (r : Addr), Same H H' → H' r = some (.tup (tal (xs ++ ys))) → Q (.ref r) H'
def spMean (K : PySem.W.Frag) : Sp := fun vs H Q _ => ∃ (p : Addr) (xs : List Int), vs = [.ref p] ∧ H p = some (.tup (tal xs)) ∧ xs.length ≤ 200 ∧ Few xs ∧ ∀ H' : Hp, Same H H' → (xs = [] → Q .non H') ∧ ∀ r, xs ≠ [] → H' r = some (tupF (mn xs)) → Q (.ref r) H'
def spSpread (K : PySem.W.Frag) : Sp := fun vs H Q _ => ∃ (p : Addr) (xs : List Int), vs = [.ref p] ∧ H p = some (.tup (tal xs)) ∧ xs.length ≤ 200 ∧ Few xs ∧ ∀ H' : Hp, Same H H' → (xs = [] → Q .non H') ∧ ∀ r, xs ≠ [] → H' r = some (tupF (spr xs)) → Q (.ref r) H'
def spFigure : Sp := fun vs H Q _ => ∃ (S D : Addr) (k : Int), vs = [.ref D, .int k] ∧ DrawAt S D H ∧ ∀ H' (z : Int), z.natAbs ≤ 2 ^ 40 → Go S D H H' → Q (.int z) H'
def spLine : Sp := fun vs H Q _ => ∃ (S D : Addr), vs = [.ref D] ∧ DrawAt S D H ∧ ∀ (H' : Hp) (L : Addr) (ns : List Int), Go S D H H' → H L = none → H' L = some (.lst (ns.map V.int)) → ns.length ≤ 60 → Few ns → Q (.ref L) H'
def spSame (K : PySem.W.Frag) : Sp := fun vs H Q _ => ∃ (p q : Addr) (l : List Int), vs = [.ref p, .ref q] ∧ H p = some (.tup (tal l)) ∧ H q = some (.tup (tal l)) ∧ ∀ H', Same H H' → Q (.bl true) H'
def spHolds (K : PySem.W.Frag) : Sp := fun vs H Q _ => ∃ (a : Addr) (ns : List Int), vs = [.ref a] ∧ SqL K H a (ns.map V.int) ∧ ns.length ≤ 200 ∧ Few ns ∧ ∀ H', Same H H' → Q (.bl true) H'
section
variable {P : Program} {w : World} {K : PySem.W.Frag} {mg : Str → Option Value} {base : Heap}
theorem ok__law_draw (T : Txt K mg) {f : Addr} {fd : FuncData} (F : FnP K "_law_draw" s__law_draw f fd) : FnOk P w K mg base CX0 1 f fd ["d", "many"] spDraw := by
  refine F.ok sc__law_draw (fun vs H Q E h => ?_) (fun cdv A outer s H vs Q E hr h => ?_)
  · obtain ⟨S, D, m, rfl, _⟩ := h
    rfl
  · obtain ⟨S, D, m, rfl, hm, d, q⟩ := h
    obtain ⟨cs, hS⟩ := id d.cells
    obtain ⟨i, r, c, h0, hD⟩ := id d.at_
    have hm0 : 0 < m := hm.1
    refine ⟨_, PSs.nox (pss_cons (ps_if (pt_cmpR op_gt (pe_ix ix_list (pv 0) pe_int (fun _ _ => rfl)) pe_int (nomark _)) (pss_cons (ps_set (i := 2) sc__law_draw.nd rfl (Or.inl rfl) (pe_ix ix_list (pv 0) pe_int (fun _ _ => rfl)))
      (pss_cons (ps_asg (pe_op op_fdivW (pv 2) (pv 1)) (pg_sub (pv 0) pe_int set_list))
      (pss_one (ps_ret (pe_op op_mod (pe_callTy call_int1 (by rfl) T.b_int (by decide +kernel) (pa_cons (pv 2) pa_nil)) (pv 1)))))) pss_nil)
      (pss_cons (ps_set (i := 3) sc__law_draw.nd rfl (Or.inl rfl) pe_int)
      (Evl.pss_cut (ps_if (pt_cmpR op_lt (pe_ix ix_list (pv 0) pe_int (fun _ _ => rfl)) (pe_callB call_len (by rfl) T.b_len (by decide +kernel) (pa_cons (pe_ix ix_list (pv 0) pe_int (fun _ _ => rfl)) pa_nil)) (nomark _)) (pss_cons (ps_set (i := 4) sc__law_draw.nd rfl (Or.inl rfl) (pe_ix ix_list (pe_ix ix_list (pv 0) pe_int (fun _ _ => rfl)) (pe_ix ix_list (pv 0) pe_int (fun _ _ => rfl)) (fun _ _ => rfl)))
      (pss_one (ps_set (i := 3) sc__law_draw.nd rfl (Or.inl rfl) (pe_op op_add (pe_op op_mul pe_int (pe_callB call_abs (by rfl) T.b_abs (by decide +kernel) (pa_cons (pv 4) pa_nil))) (pe_callTy call_int1 (by rfl) T.b_int (by decide +kernel) (pa_cons (pe_cmpR op_lt (pv 4) pe_int (nomark _)) pa_nil)))))) pss_nil)
      (pss_cons (ps_augS (pv 0) pe_int get_list pe_int ip_add set_list)
      (pss_cons (ps_if (pt_cmpR op_ge (pv 3) (pe_op op_mul pe_int (pe_op op_pow pe_int pe_int)) (nomark _)) (pss_cons (ps_set (i := 2) sc__law_draw.nd rfl (Or.inl rfl) (pe_op op_mod (pe_callTy call_int1 (by rfl) T.b_int (by decide +kernel) (pa_cons (pe_op op_fdivW (pv 3) pe_int) pa_nil)) (pe_op op_shl pe_int pe_int)))
      (pss_cons (ps_asg (pe_op op_fdivW (pv 2) (pv 1)) (pg_sub (pv 0) pe_int set_list))
      (pss_one (ps_ret (pe_op op_mod (pe_callTy call_int1 (by rfl) T.b_int (by decide +kernel) (pa_cons (pv 2) pa_nil)) (pv 1)))))) pss_nil)
      (pss_cons (ps_asg (pe_op op_mod (pe_callTy call_int1 (by rfl) T.b_int (by decide +kernel) (pa_cons (pe_op op_add (pe_op op_add (pe_op op_add (pe_op op_mul (pe_ix ix_list (pv 0) pe_int (fun _ _ => rfl)) pe_int) (pe_op op_mul (pe_op op_mod (pe_callTy call_int1 (by rfl) T.b_int (by decide +kernel) (pa_cons (pv 3) pa_nil)) pe_int) pe_int)) (pe_op op_mul (pe_ix ix_list (pv 0) pe_int (fun _ _ => rfl)) pe_int)) pe_int) pa_nil)) pe_int) (pg_sub (pv 0) pe_int set_list))
      (pss_one (ps_ret (pe_op op_mod (pe_callTy call_int1 (by rfl) T.b_int (by decide +kernel) (pa_cons (pe_op op_fdivW (pe_ix ix_list (pv 0) pe_int (fun _ _ => rfl)) pe_int) pa_nil)) (pv 1)))))))))), ?_⟩
    refine ⟨_, rfl, D, _, _, _, rfl, rfl, SqL.of hD, atI_nat (j := 2) rfl, _, _, rfl, rfl, _, rfl, ?_⟩
    refine ite2 (fun e => ?_) (fun e => ?_)
    · refine ⟨_, rfl, D, _, _, _, rfl, rfl, SqL.of hD, atI_nat (j := 2) rfl, ?_⟩
      refine ⟨_, rfl, _, rfl, _, _, rfl, rfl, hm, _, rfl, D, _, _, 2, rfl, rfl, hD, rfl, ?_⟩
      refine ⟨_, rfl, .inl ⟨_, rfl, _, rfl, _, _, rfl, rfl, hm0, ?_⟩⟩
      refine q _ _ (Int.emod_nonneg _ (by omega)) (Int.emod_lt_of_pos _ hm0) ⟨d.set h0, Keep.refl.set⟩
    · refine ⟨fun σ' H' => ∃ (z : Int) (x : Option V), σ' = [some (.ref D), some (.int m), none, some (.int z), x] ∧ H' = H, ?_, ?_⟩
      · refine ⟨_, rfl, D, _, _, _, rfl, rfl, SqL.of hD, atI_nat (j := 1) rfl, ?_⟩
        refine ⟨_, rfl, D, _, _, _, rfl, rfl, SqL.of hD, atI_nat (j := 0) rfl, _, _, rfl, .inl ⟨_, SqL.of hS, rfl⟩, _, _, rfl, rfl, _, rfl, ?_⟩
        refine ite2 (fun e1 => ?_) (fun e1 => ?_)
        · have e2 : i < ((cs.map V.int).length : Int) := of_decide_eq_true e1
          have e3 : i.toNat < (cs.map V.int).length := by omega
          have e4 : i.toNat < cs.length := by rw [List.length_map] at e3; exact e3
          have e5 : (cs.map V.int)[i.toNat]? = some (.int cs[i.toNat]) := by
            rw [List.getElem?_map, List.getElem?_eq_getElem e4]
            rfl
          have e6 : atI (cs.map V.int) i = some (.int cs[i.toNat]) := by
            have := atI_nat (xs := cs.map V.int) e5
            rw [show ((i.toNat : Nat) : Int) = i by omega] at this
            exact this
          refine ⟨_, rfl, D, _, _, _, rfl, rfl, SqL.of hD, atI_nat (j := 0) rfl, ?_⟩
          refine ⟨_, rfl, D, _, _, _, rfl, rfl, SqL.of hD, atI_nat (j := 1) rfl, ?_⟩
          refine ⟨S, _, _, _, rfl, rfl, SqL.of hS, e6, ?_⟩
          refine ⟨_, rfl, _, rfl, _, _, rfl, rfl, .inl ⟨by decide, by decide⟩, ?_⟩
          refine ⟨_, rfl, _, _, rfl, rfl, .inr ⟨_, rfl, _, _, rfl, rfl, ?_⟩⟩
          exact ⟨_, _, rfl, rfl⟩
        · exact ⟨_, _, rfl, rfl⟩
      · rintro σ' H' ⟨z, x, rfl, rfl⟩
        refine ⟨_, rfl, D, _, _, _, rfl, rfl, SqL.of hD, atI_nat (j := 1) rfl, ?_⟩
        refine ⟨_, _, rfl, rfl, D, _, _, 1, rfl, rfl, hD, rfl, ?_⟩
        have hD1 : (upd H' D (.lst [.ref S, .int (i + 1), .int r, .int c])) D = some (.lst [.ref S, .int (i + 1), .int r, .int c]) := upd_same
        have d1 : DrawAt S D (upd H' D (.lst [.ref S, .int (i + 1), .int r, .int c])) := d.set (by omega)
        refine ⟨_, rfl, _, _, rfl, rfl, ⟨by decide, by decide, by decide⟩, _, _, rfl, rfl, .inl ⟨by decide, by decide⟩, _, _, rfl, rfl, _, rfl, ?_⟩
        refine ite2 (fun e1 => ?_) (fun e1 => ?_)
        · refine ⟨_, rfl, _, _, rfl, rfl, ⟨by decide, by decide⟩, .inl ⟨_, rfl, _, _, rfl, rfl, ⟨by decide, by decide, by decide⟩, ?_⟩⟩
          refine ⟨_, _, rfl, rfl, ?_, ?_⟩
          · show (0 : Int) < 1 * 2 ^ (6000 : Int).toNat
            exact Int.mul_pos (by decide) (Int.pow_pos (by decide))
          · refine ⟨_, rfl, _, rfl, _, _, rfl, rfl, hm, _, rfl, D, _, _, 2, rfl, rfl, hD1, rfl, ?_⟩
            refine ⟨_, rfl, .inl ⟨_, rfl, _, rfl, _, _, rfl, rfl, hm0, ?_⟩⟩
            exact q _ _ (Int.emod_nonneg _ (by omega)) (Int.emod_lt_of_pos _ hm0) ⟨d1.set (by omega), Keep.refl.set.set⟩
        · refine ⟨_, rfl, D, _, _, _, rfl, rfl, SqL.of hD1, atI_nat (j := 3) rfl, _, _, rfl, rfl, .inr ⟨by decide, by decide⟩, ?_⟩
          refine ⟨_, rfl, .inl ⟨_, rfl, _, _, rfl, rfl, (by show (0 : Int) < 2147483629; decide), _, _, rfl, rfl, .inr ⟨by decide, by decide⟩, _, _, rfl, rfl, ?_⟩⟩
          refine ⟨_, rfl, D, _, _, _, rfl, rfl, SqL.of hD1, atI_nat (j := 1) rfl, _, _, rfl, rfl, .inr ⟨by decide, by decide⟩, _, _, rfl, rfl, _, _, rfl, rfl, .inl ⟨_, rfl, ?_⟩⟩
          refine ⟨_, _, rfl, rfl, (by show (0 : Int) < 2147483647; decide), _, rfl, D, _, _, 3, rfl, rfl, hD1, rfl, ?_⟩
          refine ⟨_, rfl, D, _, _, _, rfl, rfl, SqL.of upd_same, atI_nat (j := 3) rfl, _, _, rfl, rfl, ⟨by decide, by decide⟩, ?_⟩
          refine .inl ⟨_, rfl, _, rfl, _, _, rfl, rfl, hm0, ?_⟩
          exact q _ _ (Int.emod_nonneg _ (by omega)) (Int.emod_lt_of_pos _ hm0) ⟨d1.set (by omega), Keep.refl.set.set⟩
theorem ok__law_begin (T : Txt K mg) {f : Addr} {fd : FuncData} (F : FnP K "_law_begin" s__law_begin f fd) : FnOk P w K mg base CX0 1 f fd ["script"] (spBegin K) := by
  refine F.ok sc__law_begin (fun vs H Q E h => ?_) (fun cdv A outer s H vs Q E hr h => ?_)
  · obtain ⟨a, ns, rfl, _⟩ := h
    rfl
  · obtain ⟨a, ns, rfl, hS, hlen, q⟩ := h
    refine ⟨_, PSs.nox (pss_one (ps_ret (pe_lst (pa_cons (pe_lc (own := [("cell", 1)]) (g := (gName 1)) (tt := tYes) rfl sc__law_begin.nd (pi_list (pv 0)) (blkOk_by (N := N__law_begin) (sc := defScope s__law_begin) (by decide +kernel)) (fun _ _ _ _ _ => (pg_name (i := 1) sc__law_begin.nd rfl (Or.inl rfl))) (fun _ _ _ _ _ => pts_nil) (fun _ _ _ _ _ => (pe_callTy call_int1 (by rfl) T.b_int (by decide +kernel) (pa_cons (pv 1) pa_nil)))) (pa_cons pe_int (pa_cons pe_int (pa_cons pe_int pa_nil))))))), ?_⟩
    refine ⟨_, rfl, a, rfl, ⟨_, hS⟩, fun L hL => lc_list (xs := ns.map V.int) (fun i H' => H' = upd H L (.lst ((ns.take i).map V.int))) rfl (fun i H' _ e => ?_) ?_ ?_⟩
    · subst e
      exact (show Same H _ from fun b o h => by rw [upd_ne (ne_of_none h hL)]; exact h).seq hS
    · rintro i x H1 hi rfl
      obtain ⟨z, rfl, hz⟩ := getV hi
      refine ⟨rfl, _, rfl, .inl ⟨_, rfl, _, upd_same, ?_, ?_⟩⟩
      · rw [List.length_map, List.length_take]
        exact Nat.lt_of_le_of_lt (Nat.min_le_right _ _) (small1000 (by omega))
      · rw [upd_upd, take_map_succ (f := V.int) hz]
    · rintro H' rfl
      refine ⟨by show 4 ≤ sizeLine; decide, fun D hD => ?_⟩
      have nLD : D ≠ L := fun e => by
        rw [e, upd_same] at hD
        cases hD
      have hD0 : H D = none := by
        rw [upd_ne nLD] at hD
        exact hD
      refine q L D _ (fun b o h => ?_) hD0 ⟨fun e => nLD e.symm, ⟨ns, ?_⟩, ⟨0, 0, 7, by decide, upd_same⟩⟩
      · rw [upd_ne (ne_of_none h hD0), upd_ne (ne_of_none h hL)]
        exact h
      · rw [upd_ne (fun e => nLD e.symm), upd_same]
        rw [List.take_of_length_le (by rw [List.length_map]; exact Nat.le_refl _)]
theorem ok_make_fraction (T : Txt K mg) {f : Addr} {fd : FuncData} (F : FnP K "make_fraction" s_make_fraction f fd) : FnOk P w K mg base CX0 1 f fd ["n", "d"] spFrac := by
  refine F.ok sc_make_fraction (fun vs H Q E h => ?_) (fun cdv A outer s H vs Q E hr h => ?_)
  · obtain ⟨n, d, rfl, _⟩ := h
    rfl
  · obtain ⟨n, d, rfl, hd, hz, q⟩ := h
    refine ⟨_, PSs.nox (Evl.pss_cut (ps_if (pt_cmpR op_lt (pv 1) pe_int (nomark _)) (pss_one (ps_par (i := 0) (j := 1) (by rfl) sc_make_fraction.nd rfl rfl (by decide) rfl rfl (pa_cons (pe_un un_neg (pv 0)) (pa_cons (pe_un un_neg (pv 1)) pa_nil)) (by rfl))) pss_nil)
      (pss_cons (ps_set (i := 2) sc_make_fraction.nd rfl (Or.inl rfl) (pe_callBfun cr_gcd (by rfl) T.f_gcd (pa_cons (pv 0) (pa_cons (pv 1) pa_nil))))
      (pss_one (ps_ret (pe_tup (pa_cons (pe_op op_fdivW (pv 0) (pv 2)) (pa_cons (pe_op op_fdivW (pv 1) (pv 2)) pa_nil))))))), ?_⟩
    have g0 := gg_pos (n := n) hd
    have gl := gg_le (n := n) hd
    have cw : CDivW 0 (gg n d : Int) := wide_div (b := 4000) (by omega) (Nat.lt_of_le_of_lt (by rw [Int.natAbs_natCast]; exact gl) hz.2) (by decide) (by decide)
    refine ⟨fun σ H' => σ = [some (.int (if d < 0 then -n else n)), some (.int (if d < 0 then -d else d)), none] ∧ H' = H, ?_, ?_⟩
    · refine ⟨_, rfl, _, _, rfl, rfl, _, rfl, ?_⟩
      refine ite2 (fun e => ?_) (fun e => ?_)
      · have e1 : d < 0 := of_decide_eq_true e
        rw [if_pos e1, if_pos e1]
        exact ⟨_, rfl, _, rfl, _, rfl, _, rfl, _, _, rfl, rfl, rfl⟩
      · have e1 : ¬ d < 0 := fun z => e (decide_eq_true z)
        rw [if_neg e1, if_neg e1]
        exact ⟨rfl, rfl⟩
    · rintro σ H' ⟨rfl, rfl⟩
      refine ⟨_, rfl, _, rfl, _, _, rfl, ?_⟩
      rw [gg_if]
      refine ⟨_, rfl, _, rfl, _, _, rfl, rfl, cw, _, rfl, _, rfl, _, _, rfl, rfl, cw, by show 2 ≤ sizeLine; decide, fun p hp => ?_⟩
      exact q p hp
theorem ok__law_frac (T : Txt K mg) {f : Addr} {fd : FuncData} (F : FnP K "_law_frac" s__law_frac f fd) : FnOk P w K mg base CX0 1 f fd ["n", "d"] spFrac := by
  refine F.ok sc__law_frac (fun vs H Q E h => ?_) (fun cdv A outer s H vs Q E hr h => ?_)
  · obtain ⟨n, d, rfl, _⟩ := h
    rfl
  · obtain ⟨n, d, rfl, hd, hz, q⟩ := h
    refine ⟨_, PSs.nox (Evl.pss_cut (ps_if (pt_cmpR op_lt (pv 1) pe_int (nomark _)) (pss_cons (ps_set (i := 0) sc__law_frac.nd rfl (Or.inl rfl) (pe_un un_neg (pv 0)))
      (pss_one (ps_set (i := 1) sc__law_frac.nd rfl (Or.inl rfl) (pe_un un_neg (pv 1))))) pss_nil)
      (pss_cons (ps_set (i := 2) sc__law_frac.nd rfl (Or.inl rfl) (pe_callB call_abs (by rfl) T.b_abs (by decide +kernel) (pa_cons (pv 0) pa_nil)))
      (pss_cons (ps_set (i := 3) sc__law_frac.nd rfl (Or.inl rfl) (pv 1))
      (pss_cons (ps_while PassesOwn.never (pt_cmpR op_gt (pv 3) pe_int (nomark _)) (pss_cons (ps_set (i := 4) sc__law_frac.nd rfl (Or.inl rfl) (pe_op op_mod (pe_callTy call_int1 (by rfl) T.b_int (by decide +kernel) (pa_cons (pv 2) pa_nil)) (pv 3)))
      (pss_cons (ps_set (i := 2) sc__law_frac.nd rfl (Or.inl rfl) (pv 3))
      (pss_one (ps_set (i := 3) sc__law_frac.nd rfl (Or.inl rfl) (pv 4))))))
      (pss_one (ps_ret (pe_tup (pa_cons (pe_op op_fdivW (pv 0) (pv 2)) (pa_cons (pe_op op_fdivW (pv 1) (pv 2)) pa_nil))))))))), ?_⟩
    have g0 := gg_pos (n := n) hd
    have gl := gg_le (n := n) hd
    have cw : CDivW 0 (gg n d : Int) := wide_div (b := 4000) (by omega) (Nat.lt_of_le_of_lt (by rw [Int.natAbs_natCast]; exact gl) hz.2) (by decide) (by decide)
    refine ⟨fun σ H' => σ = [some (.int (if d < 0 then -n else n)), some (.int (if d < 0 then -d else d)), none, none, none] ∧ H' = H, ?_, ?_⟩
    · refine ⟨_, rfl, _, _, rfl, rfl, _, rfl, ?_⟩
      refine ite2 (fun e => ?_) (fun e => ?_)
      · have e1 : d < 0 := of_decide_eq_true e
        rw [if_pos e1, if_pos e1]
        exact ⟨_, rfl, _, rfl, _, rfl, _, rfl, rfl, rfl⟩
      · have e1 : ¬ d < 0 := fun z => e (decide_eq_true z)
        rw [if_neg e1, if_neg e1]
        exact ⟨rfl, rfl⟩
    · rintro σ H' ⟨rfl, rfl⟩
      refine ⟨_, rfl, _, rfl, _, rfl, ?_⟩
      have ea : (if (if d < 0 then -n else n) < 0 then -(if d < 0 then -n else n) else (if d < 0 then -n else n)) = ((n.natAbs : Nat) : Int) := by
        split <;> split <;> omega
      have eb : (if d < 0 then -d else d) = ((d.natAbs : Nat) : Int) := by
        split <;> omega
      refine ⟨fun m σ' H1 => ∃ (x y : Nat) (r : Option V), σ' = [some (.int (if d < 0 then -n else n)), some (.int (if d < 0 then -d else d)), some (.int (x : Nat)), some (.int (y : Nat)), r] ∧ y = m ∧ Nat.gcd x y = gg n d ∧ H1 = H', ⟨_, n.natAbs, d.natAbs, none, ?_, rfl, rfl, rfl⟩, ?_⟩
      · rw [← ea, ← eb]
        rfl
      · rintro m σ' H1 ⟨x, y, r, rfl, rfl, hg, rfl⟩
        refine ⟨_, rfl, _, _, rfl, rfl, _, rfl, ?_⟩
        refine ite2 (fun e => ?_) (fun e => ?_)
        · have e1 : (0 : Int) < (y : Int) := of_decide_eq_true e
          have e2 : 0 < y := by omega
          refine ⟨fun σ2 H2 => ∃ r : Option V, σ2 = [some (.int (if d < 0 then -n else n)), some (.int (if d < 0 then -d else d)), some (.int (y : Nat)), some (.int ((x % y : Nat) : Int)), r] ∧ H2 = H1, ?_, ?_⟩
          · rintro σ2 H2 ⟨r, rfl, rfl⟩
            refine ⟨x % y, Nat.mod_lt _ e2, y, x % y, r, rfl, rfl, ?_, rfl⟩
            rw [← hg, Nat.gcd_comm x y, Nat.gcd_rec y x, Nat.gcd_comm]
          · exact ⟨_, rfl, .inl ⟨_, rfl, _, rfl, _, _, rfl, rfl, e1, _, rfl, _, rfl, _, rfl, rfl⟩⟩
        · have e1 : ¬ (0 : Int) < (y : Int) := fun z => e (decide_eq_true z)
          have e2 : y = 0 := by omega
          subst e2
          have e3 : x = gg n d := by rw [← hg, Nat.gcd_zero_right]
          subst e3
          exact ⟨_, rfl, _, rfl, _, _, rfl, rfl, cw, _, rfl, _, rfl, _, _, rfl, rfl, cw, by show 2 ≤ sizeLine; decide, fun p hp => q p hp⟩
theorem ok_difference_of (T : Txt K mg) (D_make_fraction : Kept P w K mg base 1 "make_fraction" ["n", "d"] spFrac) {f : Addr} {fd : FuncData} (F : FnP K "difference_of" s_difference_of f fd) : FnOk P w K mg base CX0 2 f fd ["a", "b"] (spBin K sub2) := by
  refine F.ok sc_difference_of (fun vs H Q E h => ?_) (fun cdv A outer s H vs Q E hr h => ?_)
  · obtain ⟨p, p2, a, b, rfl, _⟩ := h
    rfl
  · obtain ⟨p, p2, a, b, rfl, hp, hp2, za, zb, hne, q⟩ := h
    refine ⟨_, PSs.nox (pss_one (ps_ret (pe_d D_make_fraction (hr.mono (by decide)) (by rfl) (pa_cons (pe_op op_sub (pe_op op_mulW (pe_ix ix_tup (pv 0) pe_int (fun _ _ => rfl)) (pe_ix ix_tup (pv 1) pe_int (fun _ _ => rfl))) (pe_op op_mulW (pe_ix ix_tup (pv 1) pe_int (fun _ _ => rfl)) (pe_ix ix_tup (pv 0) pe_int (fun _ _ => rfl)))) (pa_cons (pe_op op_mulW (pe_ix ix_tup (pv 0) pe_int (fun _ _ => rfl)) (pe_ix ix_tup (pv 1) pe_int (fun _ _ => rfl))) pa_nil))))), ?_⟩
    exact ⟨_, rfl, p, _, _, _, rfl, rfl, SqT.of hp, atI_nat (j := 0) rfl, _, rfl, p2, _, _, _, rfl, rfl, SqT.of hp2, atI_nat (j := 1) rfl, _, _, rfl, rfl, wide_mul za.1 zb.2 (by decide) (by decide) (by decide), _, rfl, p2, _, _, _, rfl, rfl, SqT.of hp2, atI_nat (j := 0) rfl, _, rfl, p, _, _, _, rfl, rfl, SqT.of hp, atI_nat (j := 1) rfl, _, _, rfl, rfl, wide_mul zb.1 za.2 (by decide) (by decide) (by decide), _, _, rfl, rfl, _, rfl, p, _, _, _, rfl, rfl, SqT.of hp, atI_nat (j := 1) rfl, _, rfl, p2, _, _, _, rfl, rfl, SqT.of hp2, atI_nat (j := 1) rfl, _, _, rfl, rfl, wide_mul za.2 zb.2 (by decide) (by decide) (by decide), _, _, rfl, hne, sz_up (sub2_sz za zb) (by decide), q⟩
theorem ok_product_of (T : Txt K mg) (D_make_fraction : Kept P w K mg base 1 "make_fraction" ["n", "d"] spFrac) {f : Addr} {fd : FuncData} (F : FnP K "product_of" s_product_of f fd) : FnOk P w K mg base CX0 2 f fd ["a", "b"] (spBin K mul2) := by
  refine F.ok sc_product_of (fun vs H Q E h => ?_) (fun cdv A outer s H vs Q E hr h => ?_)
  · obtain ⟨p, p2, a, b, rfl, _⟩ := h
    rfl
  · obtain ⟨p, p2, a, b, rfl, hp, hp2, za, zb, hne, q⟩ := h
    refine ⟨_, PSs.nox (pss_one (ps_ret (pe_d D_make_fraction (hr.mono (by decide)) (by rfl) (pa_cons (pe_op op_mulW (pe_ix ix_tup (pv 0) pe_int (fun _ _ => rfl)) (pe_ix ix_tup (pv 1) pe_int (fun _ _ => rfl))) (pa_cons (pe_op op_mulW (pe_ix ix_tup (pv 0) pe_int (fun _ _ => rfl)) (pe_ix ix_tup (pv 1) pe_int (fun _ _ => rfl))) pa_nil))))), ?_⟩
    exact ⟨_, rfl, p, _, _, _, rfl, rfl, SqT.of hp, atI_nat (j := 0) rfl, _, rfl, p2, _, _, _, rfl, rfl, SqT.of hp2, atI_nat (j := 0) rfl, _, _, rfl, rfl, wide_mul za.1 zb.1 (by decide) (by decide) (by decide), _, rfl, p, _, _, _, rfl, rfl, SqT.of hp, atI_nat (j := 1) rfl, _, rfl, p2, _, _, _, rfl, rfl, SqT.of hp2, atI_nat (j := 1) rfl, _, _, rfl, rfl, wide_mul za.2 zb.2 (by decide) (by decide) (by decide), _, _, rfl, hne, sz_up (mul2_sz za zb) (by decide), q⟩
theorem ok__law_is_int (T : Txt K mg) {f : Addr} {fd : FuncData} (F : FnP K "_law_is_int" s__law_is_int f fd) : FnOk P w K mg base CX0 1 f fd ["thing"] spIsInt := by
  refine F.ok sc__law_is_int (fun vs H Q E h => ?_) (fun cdv A outer s H vs Q E hr h => ?_)
  · obtain ⟨p, rfl, _⟩ := h
    rfl
  · obtain ⟨i, rfl, q⟩ := h
    refine ⟨_, PSs.nox (pss_one (ps_ret (pe_and (pe_callB call_isi (by rfl) T.b_isinstance (by decide +kernel) (pa_cons (pv 0) (pa_cons (pe_bltn (v := .ty "int") (u := .type "int") (by rfl) T.b_int (by decide +kernel) rfl) pa_nil))) (pe_one (pe_not (pe_callB call_isi (by rfl) T.b_isinstance (by decide +kernel) (pa_cons (pv 0) (pa_cons (pe_bltn (v := .ty "bool") (u := .type "bool") (by rfl) T.b_bool (by decide +kernel) rfl) pa_nil)))))))), ?_⟩
    refine ⟨_, rfl, _, .ty "int", .type "int", .type "int", true, rfl, .ty _, .base (.int _), kit_ty (by decide +kernel), true, rfl, ?_⟩
    exact ⟨_, rfl, _, .ty "bool", .type "int", .type "bool", false, rfl, .ty _, .base (.int _), kit_ty (by decide +kernel), false, rfl, q⟩
theorem ok__law_is_ints (T : Txt K mg) (D__law_is_int : Kept P w K mg base 1 "_law_is_int" ["thing"] spIsInt) {f : Addr} {fd : FuncData} (F : FnP K "_law_is_ints" s__law_is_ints f fd) : FnOk P w K mg base CX0 2 f fd ["row"] (spIsInts K) := by
  refine F.ok sc__law_is_ints (fun vs H Q E h => ?_) (fun cdv A outer s H vs Q E hr h => ?_)
  · obtain ⟨p, ns, rfl, _⟩ := h
    rfl
  · obtain ⟨p, ns, rfl, hp, hl, q⟩ := h
    refine ⟨_, PSs.nox (pss_one (ps_ret (pe_and (pe_callB call_isi (by rfl) T.b_isinstance (by decide +kernel) (pa_cons (pv 0) (pa_cons (pe_bltn (v := .ty "tuple") (u := .type "tuple") (by rfl) T.b_tuple (by decide +kernel) rfl) pa_nil))) (pe_one (pe_callB (cr_all rfl) (by rfl) T.b_all (by decide +kernel) (pa_cons (pe_lc (own := [("part", 1)]) (g := (gName 1)) (tt := tYes) rfl sc__law_is_ints.nd (pi_tup (pv 0)) (blkOk_by (N := N__law_is_ints) (sc := defScope s__law_is_ints) (by decide +kernel)) (fun _ _ _ _ _ => (pg_name (i := 1) sc__law_is_ints.nd rfl (Or.inl rfl))) (fun _ _ _ _ _ => pts_nil) (fun _ _ _ _ _ => (pe_d D__law_is_int (hr.mono (by decide)) (by rfl) (pa_cons (pv 1) pa_nil)))) pa_nil)))))), ?_⟩
    refine ⟨_, rfl, _, .ty "tuple", .type "tuple", .type "tuple", true, rfl, .ty _, .base (.tup hp), kit_ty (by decide +kernel), true, rfl, ?_⟩
    refine ⟨_, rfl, p, rfl, ⟨_, SqT.of hp⟩, fun L hL => lc_tup (K := K) (a := p) (xs := ns.map V.int) (fun i H' => H' = upd H L (.lst ((ns.take i).map fun _ => .bl true))) rfl (fun i H' _ e => ?_) ?_ ?_⟩
    · subst e
      exact same_t (same_new hL) (SqT.of hp)
    · rintro i x H1 hi rfl
      obtain ⟨z, rfl, hz⟩ := getV hi
      refine ⟨rfl, _, rfl, z, rfl, _, upd_same, ?_, ?_⟩
      · rw [List.length_map, List.length_take]
        exact Nat.lt_of_le_of_lt (Nat.min_le_right _ _) (small1000 (by omega))
      · rw [upd_upd, take_map_succ (f := fun _ => V.bl true) hz]
    · rintro H' rfl
      rw [List.take_of_length_le (by rw [List.length_map]; exact Nat.le_refl _)]
      refine ⟨L, ns.map fun _ => true, rfl, SqL.of (by rw [upd_same, List.map_map]; rfl), ?_⟩
      rw [all_true]
      exact q _ (same_new hL)
theorem ok__law_is_frac (T : Txt K mg) (D__law_is_ints : Kept P w K mg base 2 "_law_is_ints" ["row"] (spIsInts K)) (D__law_frac : Kept P w K mg base 1 "_law_frac" ["n", "d"] spFrac) {f : Addr} {fd : FuncData} (F : FnP K "_law_is_frac" s__law_is_frac f fd) : FnOk P w K mg base CX0 3 f fd ["thing"] (spIsFrac K) := by
  refine F.ok sc__law_is_frac (fun vs H Q E h => ?_) (fun cdv A outer s H vs Q E hr h => ?_)
  · obtain ⟨p, x, rfl, _⟩ := h
    rfl
  · obtain ⟨p, x, rfl, hp, hx, hz, q⟩ := h
    refine ⟨_, PSs.nox (pss_cons (ps_if (PW.pt (pw_or (pt_not (pt_val (pe_callB call_isi (by rfl) T.b_isinstance (by decide +kernel) (pa_cons (pv 0) (pa_cons (pe_bltn (v := .ty "tuple") (u := .type "tuple") (by rfl) T.b_tuple (by decide +kernel) rfl) pa_nil))))) (pw_or (pt_cmpR op_ne (pe_callB call_len (by rfl) T.b_len (by decide +kernel) (pa_cons (pv 0) pa_nil)) pe_int (nomark _)) (pw_or1 (pt_not (pt_val (pe_d D__law_is_ints (hr.mono (by decide)) (by rfl) (pa_cons (pv 0) pa_nil)))))))) (pss_one (ps_ret pe_bl)) pss_nil)
      (pss_one (ps_ret (pe_and (pe_cmpR op_ge (pe_ix ix_tup (pv 0) pe_int (fun _ _ => rfl)) pe_int (nomark _)) (pe_one (pe_cmpR (op_eqD (hr.units)) (pe_d D__law_frac (hr.mono (by decide)) (by rfl) (pa_cons (pe_ix ix_tup (pv 0) pe_int (fun _ _ => rfl)) (pa_cons (pe_ix ix_tup (pv 0) pe_int (fun _ _ => rfl)) pa_nil))) (pv 0) (nomark _))))))), ?_⟩
    refine ⟨_, rfl, _, .ty "tuple", .type "tuple", .type "tuple", true, rfl, .ty _, .base (.tup hp), kit_ty (by decide +kernel), true, rfl, ?_⟩
    refine ⟨_, rfl, _, _, rfl, .inr ⟨_, SqT.of hp, rfl⟩, rfl, _, rfl, ?_⟩
    refine iteNS rfl ?_
    refine ⟨_, rfl, p, [x.1, x.2], rfl, hp, (by show 2 ≤ 100; decide), fun H1 s1 => ⟨true, rfl, ?_⟩⟩
    have hp1 := s1 _ _ hp
    refine ⟨_, rfl, p, _, _, _, rfl, rfl, SqT.of hp1, atI_nat (j := 1) rfl, _, _, rfl, rfl, _, rfl, ?_⟩
    refine ite2 (fun _ => ?_) (fun n => absurd (decide_eq_true hx.pos) n)
    refine ⟨_, rfl, p, _, _, _, rfl, rfl, SqT.of hp1, atI_nat (j := 0) rfl, _, rfl, p, _, _, _, rfl, rfl, SqT.of hp1, atI_nat (j := 1) rfl, x.1, x.2, rfl, ?_, hz, fun r hr => ?_⟩
    · have := hx.pos
      omega
    · rw [low_fr hx]
      refine ⟨_, rfl, dF x, dF x, dp_F upd_same, dp_F (same_new hr _ _ hp1), dF_sh x, dF_sh x, ?_⟩
      rw [dF_eqv]
      exact q _ (s1.trans (same_new hr))
end
end Mt
namespace Mt
open PySem PySem.Spec PyProof.Rows L2
theorem lo_cons (n : Int) (r : List Int) : loO (n :: r) = some (r.foldl min n) := loO_fold r n
theorem hi_cons (n : Int) (r : List Int) : hiO (n :: r) = some (r.foldl max n) := hiO_fold r n
section
variable {P : Program} {w : World} {K : PySem.W.Frag} {mg : Str → Option Value} {base : Heap}
theorem ok__law_rare (T : Txt K mg) (D__law_draw : Kept P w K mg base 1 "_law_draw" ["d", "many"] spDraw) {f : Addr} {fd : FuncData} (F : FnP K "_law_rare" s__law_rare f fd) : FnOk P w K mg base CX0 2 f fd ["d", "many"] spRare := by
  refine F.ok sc__law_rare (fun vs H Q E h => ?_) (fun cdv A outer s H vs Q E hr h => ?_)
  · obtain ⟨S, D, m, rfl, _⟩ := h
    rfl
  · obtain ⟨S, D, m, rfl, m0, m1, d, q⟩ := h
    refine ⟨_, PSs.nox (pss_one (ps_ret (pe_cmpR op_eq (pe_d D__law_draw (hr.mono (by decide)) (by rfl) (pa_cons (pv 0) (pa_cons (pv 1) pa_nil))) (pe_op op_fdivW (pv 1) pe_int) (nomark _)))), ?_⟩
    exact ⟨_, rfl, _, rfl, S, D, m, rfl, divW_of m0 (by omega), d, fun H1 v _ _ g => ⟨_, rfl, _, _, rfl, rfl, ⟨by decide, by decide⟩, rfl, q H1 _ g⟩⟩
theorem ok_tally_of (T : Txt K mg) {f : Addr} {fd : FuncData} (F : FnP K "tally_of" s_tally_of f fd) : FnOk P w K mg base CX0 1 f fd ["values"] (spTally K) := by
  refine F.ok sc_tally_of (fun vs H Q E h => ?_) (fun cdv A outer s H vs Q E hr h => ?_)
  · obtain ⟨a, ns, rfl, _⟩ := h
    rfl
  · obtain ⟨a, ns, rfl, hS, hl, hf, q⟩ := h
    refine ⟨_, PSs.nox (pss_cons (ps_set (i := 1) sc_tally_of.nd rfl (Or.inl rfl) (pe_callB (cr_sum rfl) (by rfl) T.b_sum (by decide +kernel) (pa_cons (pe_lc (own := [("worth", 2)]) (g := (gName 2)) (tt := tYes) rfl sc_tally_of.nd (pi_tup (pv 0)) (blkOk_by (N := N_tally_of) (sc := defScope s_tally_of) (by decide +kernel)) (fun _ _ _ _ _ => (pg_name (i := 2) sc_tally_of.nd rfl (Or.inl rfl))) (fun _ _ _ _ _ => pts_nil) (fun _ _ _ _ _ => (pe_op op_mul (pv 2) (pv 2)))) pa_nil)))
      (pss_cons (ps_set (i := 3) sc_tally_of.nd rfl (Or.inl rfl) (pe_callBK (cr_minT rfl hr.units) (by rfl) T.b_min (by decide +kernel) (pa_cons (pv 0) pa_nil) (pk_cons pe_non pk_nil)))
      (pss_cons (ps_set (i := 4) sc_tally_of.nd rfl (Or.inl rfl) (pe_callBK (cr_maxT rfl hr.units) (by rfl) T.b_max (by decide +kernel) (pa_cons (pv 0) pa_nil) (pk_cons pe_non pk_nil)))
      (pss_one (ps_ret (pe_tup (pa_cons (pe_callB call_len (by rfl) T.b_len (by decide +kernel) (pa_cons (pv 0) pa_nil)) (pa_cons (pe_callB (cr_sumT rfl) (by rfl) T.b_sum (by decide +kernel) (pa_cons (pv 0) pa_nil)) (pa_cons (pv 1) (pa_cons (pv 3) (pa_cons (pv 4) pa_nil))))))))))), ?_⟩
    refine ⟨_, rfl, a, rfl, ⟨_, hS⟩, fun L hL => lc_tup (xs := ns.map V.int) (fun i H' => H' = upd H L (.lst ((ns.take i).map fun z => V.int (z * z)))) rfl (fun i H' _ e => ?_) ?_ ?_⟩
    · subst e
      exact same_t (same_new hL) hS
    · rintro i x H1 hi rfl
      obtain ⟨z, rfl, hz⟩ := getV hi
      have hzf := hf z (List.mem_of_getElem? hz)
      refine ⟨rfl, _, rfl, _, rfl, _, _, rfl, rfl, .inl ⟨by omega, by omega⟩, _, upd_same, ?_, ?_⟩
      · rw [List.length_map, List.length_take]
        exact line6 (by omega)
      · rw [upd_upd, take_map_succ (f := fun z => V.int (z * z)) hz]
    · rintro H' rfl
      rw [List.length_map, List.take_length]
      have s1 := same_new (o := .lst (ns.map fun z => V.int (z * z))) hL
      have hS1 := same_t s1 hS
      refine ⟨L, ns.map fun z => z * z, rfl, SqL.of (by rw [List.map_map]; exact upd_same), ?_⟩
      refine ⟨_, rfl, a, ns, .non, rfl, rfl, hS1, fun e => ?_, fun n r e => ?_⟩
      · refine ⟨_, rfl, a, ns, .non, rfl, rfl, hS1, fun _ => ?_, fun n r e2 => (by rw [e] at e2; cases e2)⟩
        exact ⟨_, rfl, _, _, rfl, .inr ⟨_, hS1, rfl⟩, _, rfl, a, ns, rfl, hS1, _, rfl, _, rfl, _, rfl, by show 5 ≤ sizeLine; decide, fun p hp => q _ p (s1.trans (same_new hp)) (by rw [upd_same, List.length_map, e]; rfl)⟩
      · refine ⟨_, rfl, a, ns, .non, rfl, rfl, hS1, fun e2 => (by rw [e] at e2; cases e2), fun n2 r2 e2 => ?_⟩
        obtain ⟨rfl, rfl⟩ := List.cons.inj (e.symm.trans e2)
        exact ⟨_, rfl, _, _, rfl, .inr ⟨_, hS1, rfl⟩, _, rfl, a, ns, rfl, hS1, _, rfl, _, rfl, _, rfl, by show 5 ≤ sizeLine; decide, fun p hp => q _ p (s1.trans (same_new hp)) (by rw [upd_same, List.length_map]; unfold tal; rw [e, lo_cons, hi_cons]; rfl)⟩
theorem ok__law_tally (T : Txt K mg) {f : Addr} {fd : FuncData} (F : FnP K "_law_tally" s__law_tally f fd) : FnOk P w K mg base CX0 1 f fd ["row"] (spLTally K) := by
  refine F.ok sc__law_tally (fun vs H Q E h => ?_) (fun cdv A outer s H vs Q E hr h => ?_)
  · obtain ⟨a, ns, rfl, _⟩ := h
    rfl
  · obtain ⟨a, ns, rfl, hS, hl, hf, q⟩ := h
    refine ⟨_, PSs.nox (pss_cons (ps_if (pt_cmpR op_eq (pe_callB call_len (by rfl) T.b_len (by decide +kernel) (pa_cons (pv 0) pa_nil)) pe_int (nomark _)) (pss_one (ps_ret (pe_tup (pa_cons pe_int (pa_cons pe_int (pa_cons pe_int (pa_cons pe_non (pa_cons pe_non pa_nil)))))))) pss_nil)
      (pss_cons (ps_set (i := 1) sc__law_tally.nd rfl (Or.inl rfl) pe_int)
      (pss_cons (ps_set (i := 2) sc__law_tally.nd rfl (Or.inl rfl) pe_int)
      (pss_cons (ps_set (i := 3) sc__law_tally.nd rfl (Or.inl rfl) (pe_ix ix_list (pv 0) pe_int (fun _ _ => rfl)))
      (pss_cons (ps_set (i := 4) sc__law_tally.nd rfl (Or.inl rfl) (pe_ix ix_list (pv 0) pe_int (fun _ _ => rfl)))
      (pss_cons (ps_for PassesOwn.never rfl (pi_list (pv 0)) (pg_name (i := 5) sc__law_tally.nd rfl (Or.inl rfl)) (pss_cons (ps_set (i := 1) sc__law_tally.nd rfl (Or.inl rfl) (pe_op op_add (pv 1) (pv 5)))
      (pss_cons (ps_set (i := 2) sc__law_tally.nd rfl (Or.inl rfl) (pe_op op_add (pv 2) (pe_op op_mul (pv 5) (pv 5))))
      (Evl.pss_cut (ps_if (pt_cmpR op_lt (pv 5) (pv 3) (nomark _)) (pss_one (ps_set (i := 3) sc__law_tally.nd rfl (Or.inl rfl) (pv 5))) pss_nil)
      (pss_one (ps_if (pt_cmpR op_gt (pv 5) (pv 4) (nomark _)) (pss_one (ps_set (i := 4) sc__law_tally.nd rfl (Or.inl rfl) (pv 5))) pss_nil))))))
      (pss_one (ps_ret (pe_tup (pa_cons (pe_callB call_len (by rfl) T.b_len (by decide +kernel) (pa_cons (pv 0) pa_nil)) (pa_cons (pv 1) (pa_cons (pv 2) (pa_cons (pv 3) (pa_cons (pv 4) pa_nil)))))))))))))), ?_⟩
    refine ⟨_, rfl, _, _, rfl, .inl ⟨_, hS, rfl⟩, rfl, _, rfl, ?_⟩
    rw [List.length_map]
    refine ite2 (fun e => ?_) (fun e => ?_)
    · have e0 : ns = [] := by
        have := of_decide_eq_true e
        injection this with h
        exact List.eq_nil_of_length_eq_zero (by omega)
      subst e0
      exact ⟨by show 5 ≤ sizeLine; decide, fun p hp => q _ p (same_new hp) upd_same⟩
    · cases ns with
      | nil => exact absurd rfl e
      | cons n r =>
        refine ⟨_, rfl, a, _, _, _, rfl, rfl, hS, atI_nat (j := 0) rfl, _, rfl, a, _, _, _, rfl, rfl, hS, atI_nat (j := 0) rfl, ?_⟩
        refine ⟨_, rfl, a, rfl, ⟨_, hS⟩, for_list (K := K) (a := a) (xs := (n :: r).map V.int) (fun i σ H' => ∃ (y : Option V), σ = [some (.ref a), some (.int ((n :: r).take i).sum), some (.int (sq ((n :: r).take i))), some (.int (((n :: r).take i).foldl min n)), some (.int (((n :: r).take i).foldl max n)), y] ∧ H' = H) ⟨none, rfl, rfl⟩ (fun i σ H' _ ⟨_, _, e⟩ => e ▸ hS) ?_ ?_⟩
        · rintro i x σ H' hi ⟨y, rfl, rfl⟩
          obtain ⟨z, rfl, hz⟩ := getV hi
          have hzf := hf z (List.mem_of_getElem? hz)
          have et : (n :: r).take (i + 1) = (n :: r).take i ++ [z] := by
            rw [List.take_add_one, hz]
            rfl
          rw [et, List.sum_append, sq_app, List.foldl_append, List.foldl_append]
          generalize (n :: r).take i = t
          refine ⟨_, rfl, _, rfl, _, _, rfl, rfl, _, rfl, _, rfl, _, rfl, _, _, rfl, rfl, .inl ⟨by omega, by omega⟩, _, _, rfl, rfl, ?_⟩
          have e1 : t.sum + [z].sum = t.sum + z := by simp
          have e2 : sq t + sq [z] = sq t + z * z := by simp [sq]
          rw [e1, e2]
          refine ⟨fun σ' H2 => σ' = [some (.ref a), some (.int (t.sum + z)), some (.int (sq t + z * z)), some (.int (min (t.foldl min n) z)), some (.int (t.foldl max n)), some (.int z)] ∧ H2 = H', ?_, ?_⟩
          · refine ⟨_, rfl, _, rfl, _, _, rfl, rfl, _, rfl, ?_⟩
            refine ite2 (fun e => ?_) (fun e => ?_)
            · have e3 : z < t.foldl min n := of_decide_eq_true e
              have e4 : min (t.foldl min n) z = z := by omega
              rw [e4]
              exact ⟨_, rfl, rfl, rfl⟩
            · have e3 : ¬ z < t.foldl min n := fun h => e (decide_eq_true h)
              have e4 : min (t.foldl min n) z = t.foldl min n := by omega
              rw [e4]
              exact ⟨rfl, rfl⟩
          · rintro σ' H2 ⟨rfl, rfl⟩
            refine ⟨_, rfl, _, rfl, _, _, rfl, rfl, _, rfl, ?_⟩
            refine ite2 (fun e => ?_) (fun e => ?_)
            · have e3 : t.foldl max n < z := of_decide_eq_true e
              have e4 : max (t.foldl max n) z = z := by omega
              refine ⟨_, rfl, some (.int z), ?_, rfl⟩
              show _ = [_, _, _, _, some (V.int (max (t.foldl max n) z)), _]
              rw [e4]
              rfl
            · have e3 : ¬ t.foldl max n < z := fun h => e (decide_eq_true h)
              have e4 : max (t.foldl max n) z = t.foldl max n := by omega
              refine ⟨some (.int z), ?_, rfl⟩
              show _ = [_, _, _, _, some (V.int (max (t.foldl max n) z)), _]
              rw [e4]
              rfl
        · rintro σ H' ⟨y, rfl, rfl⟩
          rw [List.length_map, List.take_length]
          refine ⟨_, rfl, _, _, rfl, .inl ⟨_, hS, rfl⟩, _, rfl, _, rfl, _, rfl, _, rfl, by show 5 ≤ sizeLine; decide, fun p hp => q _ p (same_new hp) ?_⟩
          rw [upd_same, List.length_map]
          unfold tal
          rw [lo_cons, hi_cons, List.foldl_cons, List.foldl_cons, Int.min_self, Int.max_self]
          rfl
end
end Mt
namespace Mt
open PySem PySem.Spec PyProof.Rows L2
theorem ixT {X : Cx} {K : PySem.W.Frag} (h : X.K = K) : IxR X (rIxT K) := h ▸ ix_tup
def one (p : Addr) (l : List Int) : List (Addr × List Int) := if l = [] then [] else [(p, l)]
def low (l : List Int) : Int := (loO l).getD 0
def high (l : List Int) : Int := (hiO l).getD 0
theorem one_mem {p : Addr} {l : List Int} {e : Addr × List Int} (h : e ∈ one p l) : e = (p, l) ∧ l ≠ [] := by
  unfold one at h
  split at h
  · cases h
  · rename_i n
    exact ⟨List.mem_singleton.mp h, n⟩
theorem lo_some {l : List Int} (h : l ≠ []) : loO l = some (low l) := by
  cases l with
  | nil => exact absurd rfl h
  | cons x r =>
    unfold low
    rw [lo_cons]
    rfl
theorem hi_some {l : List Int} (h : l ≠ []) : hiO l = some (high l) := by
  cases l with
  | nil => exact absurd rfl h
  | cons x r =>
    unfold high
    rw [hi_cons]
    rfl
theorem ends_lo (p q : Addr) (xs ys : List Int) : ((one p xs ++ one q ys).map (fun e => low e.2) = [] → loO (xs ++ ys) = none) ∧ ∀ n r, (one p xs ++ one q ys).map (fun e => low e.2) = n :: r → loO (xs ++ ys) = some (r.foldl min n) := by
  rw [loO_app]
  unfold one
  by_cases hx : xs = [] <;> by_cases hy : ys = []
  · subst hx hy
    exact ⟨fun _ => rfl, fun n r h => by cases h⟩
  · subst hx
    rw [if_neg hy, lo_some hy]
    refine ⟨fun h => (by cases h), fun n r h => ?_⟩
    obtain ⟨rfl, rfl⟩ := List.cons.inj (show low ys :: [] = n :: r from h)
    rfl
  · subst hy
    rw [if_neg hx, lo_some hx]
    refine ⟨fun h => (by cases h), fun n r h => ?_⟩
    obtain ⟨rfl, rfl⟩ := List.cons.inj (show low xs :: [] = n :: r from h)
    rfl
  · rw [if_neg hx, if_neg hy, lo_some hx, lo_some hy]
    refine ⟨fun h => (by cases h), fun n r h => ?_⟩
    obtain ⟨rfl, rfl⟩ := List.cons.inj (show low xs :: [low ys] = n :: r from h)
    rfl
theorem ends_hi (p q : Addr) (xs ys : List Int) : ((one p xs ++ one q ys).map (fun e => high e.2) = [] → hiO (xs ++ ys) = none) ∧ ∀ n r, (one p xs ++ one q ys).map (fun e => high e.2) = n :: r → hiO (xs ++ ys) = some (r.foldl max n) := by
  rw [hiO_app]
  unfold one
  by_cases hx : xs = [] <;> by_cases hy : ys = []
  · subst hx hy
    exact ⟨fun _ => rfl, fun n r h => by cases h⟩
  · subst hx
    rw [if_neg hy, hi_some hy]
    refine ⟨fun h => (by cases h), fun n r h => ?_⟩
    obtain ⟨rfl, rfl⟩ := List.cons.inj (show high ys :: [] = n :: r from h)
    rfl
  · subst hy
    rw [if_neg hx, hi_some hx]
    refine ⟨fun h => (by cases h), fun n r h => ?_⟩
    obtain ⟨rfl, rfl⟩ := List.cons.inj (show high xs :: [] = n :: r from h)
    rfl
  · rw [if_neg hx, if_neg hy, hi_some hx, hi_some hy]
    refine ⟨fun h => (by cases h), fun n r h => ?_⟩
    obtain ⟨rfl, rfl⟩ := List.cons.inj (show high xs :: [high ys] = n :: r from h)
    rfl
theorem ext_of {K : PySem.W.Frag} {f : Int → Int → Int} {H : Hp} {N : Addr} {ns : List Int} {Q : VK} (h : SqL K H N (ns.map V.int)) (o : Option Int) (h0 : ns = [] → o = none) (h1 : ∀ n r, ns = n :: r → o = some (r.foldl f n)) (q : Q (vO o) H) : rExtL K f [.ref N] [.non] H Q :=
  ⟨N, ns, .non, rfl, rfl, h, fun e => by rw [h0 e] at q; exact q, fun n r e => by rw [h1 n r e] at q; exact q⟩
theorem getM {es : List (Addr × List Int)} {i : Nat} {x : V} (h : (es.map fun e => V.ref e.1)[i]? = some x) : ∃ e, x = .ref e.1 ∧ es[i]? = some e := by
  rw [List.getElem?_map] at h
  cases e : es[i]? with
  | none =>
    rw [e] at h
    cases h
  | some z =>
    rw [e] at h
    exact ⟨z, (Option.some.inj h).symm, rfl⟩
def Ends (p q : Addr) (xs ys : List Int) : Nat → List (Addr × List Int)
  | 0 => []
  | 1 => one p xs
  | _ => one p xs ++ one q ys
section
variable {P : Program} {w : World} {K : PySem.W.Frag} {mg : Str → Option Value} {base : Heap}
theorem ok_joined (T : Txt K mg) {f : Addr} {fd : FuncData} (F : FnP K "joined" s_joined f fd) : FnOk P w K mg base CX0 1 f fd ["tally", "other"] (spJoin K) := by
  refine F.ok sc_joined (fun vs H Q E h => ?_) (fun cdv A outer s H vs Q E hr h => ?_)
  · obtain ⟨p, q, xs, ys, rfl, _⟩ := h
    rfl
  · obtain ⟨p, q, xs, ys, rfl, hp, hq, fin⟩ := h
    refine ⟨_, PSs.nox (pss_cons (ps_setLc (i := 2) (own := [("at", 3)]) (g := (gName 3)) (tt := tYes) rfl sc_joined.nd rfl rfl (sw_true rfl rfl rfl (by decide +kernel)) (pi_range1 (by rfl) T.b_range (pa_cons pe_int pa_nil)) (blkOk_by (N := N_joined) (sc := defScope s_joined) (by decide +kernel)) (fun _ _ _ _ _ => (pg_name (i := 3) sc_joined.nd rfl (Or.inl rfl))) (fun _ _ _ _ _ => pts_nil) (fun _ _ _ _ _ => (pe_op op_add (pe_ix (ixT (K := K) rfl) (pv 0) (pv 3) (fun _ _ => rfl)) (pe_ix (ixT (K := K) rfl) (pv 1) (pv 3) (fun _ _ => rfl)))))
      (pss_cons (ps_setLc (i := 4) (own := [("row", 5)]) (g := (gName 5)) rfl sc_joined.nd rfl rfl (sw_true rfl rfl rfl (by decide +kernel)) (pi_tup (pe_tup (pa_cons (pv 0) (pa_cons (pv 1) pa_nil)))) (blkOk_by (N := N_joined) (sc := defScope s_joined) (by decide +kernel)) (fun _ _ _ _ _ => (pg_name (i := 5) sc_joined.nd rfl (Or.inl rfl))) (fun _ _ _ _ _ => (pts_one (pt_cmpR op_gt (pe_ix (ixT (K := K) rfl) (pv 5) pe_int (fun _ _ => rfl)) pe_int (nomark _)))) (fun _ _ _ _ _ => (pv 5)))
      (pss_cons (ps_set (i := 6) sc_joined.nd rfl (Or.inl rfl) (pe_callBK (cr_minL rfl hr.units) (by rfl) T.b_min (by decide +kernel) (pa_cons (pe_lc (own := [("row", 5)]) (g := (gName 5)) (tt := tYes) rfl sc_joined.nd (pi_list (pv 4)) (blkOk_by (N := N_joined) (sc := defScope s_joined) (by decide +kernel)) (fun _ _ _ _ _ => (pg_name (i := 5) sc_joined.nd rfl (Or.inl rfl))) (fun _ _ _ _ _ => pts_nil) (fun _ _ _ _ _ => (pe_ix (ixT (K := K) rfl) (pv 5) pe_int (fun _ _ => rfl)))) pa_nil) (pk_cons pe_non pk_nil)))
      (pss_cons (ps_set (i := 7) sc_joined.nd rfl (Or.inl rfl) (pe_callBK (cr_maxL rfl hr.units) (by rfl) T.b_max (by decide +kernel) (pa_cons (pe_lc (own := [("row", 5)]) (g := (gName 5)) (tt := tYes) rfl sc_joined.nd (pi_list (pv 4)) (blkOk_by (N := N_joined) (sc := defScope s_joined) (by decide +kernel)) (fun _ _ _ _ _ => (pg_name (i := 5) sc_joined.nd rfl (Or.inl rfl))) (fun _ _ _ _ _ => pts_nil) (fun _ _ _ _ _ => (pe_ix (ixT (K := K) rfl) (pv 5) pe_int (fun _ _ => rfl)))) pa_nil) (pk_cons pe_non pk_nil)))
      (pss_one (ps_ret (pe_tup (StX.pa_star (pv 2) (pa_cons (pv 6) (pa_cons (pv 7) pa_nil)))))))))), ?_⟩
    refine ⟨3, rfl, by decide, by decide, fun L hL => lc_range (lo := 0) (n := 3) (fun j H' => H' = upd H L (.lst ([V.int (len xs + len ys), .int (xs.sum + ys.sum), .int (sq xs + sq ys)].take j))) rfl ?_ ?_⟩
    · rintro j H1 hj rfl
      have s0 := same_new (o := .lst ([V.int (len xs + len ys), .int (xs.sum + ys.sum), .int (sq xs + sq ys)].take j)) hL
      have hp1 := s0 _ _ hp
      have hq1 := s0 _ _ hq
      obtain ⟨a, b, ha, hb, hab⟩ : ∃ a b : Int, atI (tal xs) (0 + (j : Int)) = some (.int a) ∧ atI (tal ys) (0 + (j : Int)) = some (.int b) ∧ [V.int (len xs + len ys), .int (xs.sum + ys.sum), .int (sq xs + sq ys)].take (j + 1) = [V.int (len xs + len ys), .int (xs.sum + ys.sum), .int (sq xs + sq ys)].take j ++ [.int (a + b)] := by
        rw [Int.zero_add]
        rcases j with _ | _ | _ | j
        · exact ⟨_, _, atI_nat (j := 0) rfl, atI_nat (j := 0) rfl, rfl⟩
        · exact ⟨_, _, atI_nat (j := 1) rfl, atI_nat (j := 1) rfl, rfl⟩
        · exact ⟨_, _, atI_nat (j := 2) rfl, atI_nat (j := 2) rfl, rfl⟩
        · omega
      refine ⟨rfl, _, rfl, _, rfl, p, _, _, _, rfl, rfl, SqT.of hp1, ha, _, rfl, _, rfl, q, _, _, _, rfl, rfl, SqT.of hq1, hb, _, _, rfl, rfl, _, upd_same, ?_, ?_⟩
      · rw [List.length_take]
        exact line6 (by show min j 3 < _; omega)
      · rw [upd_upd, hab]
    · rintro H1 rfl
      have s1 := same_new (o := .lst [V.int (len xs + len ys), .int (xs.sum + ys.sum), .int (sq xs + sq ys)]) hL
      have hL1 := upd_same (H := H) (a := L) (o := .lst [V.int (len xs + len ys), .int (xs.sum + ys.sum), .int (sq xs + sq ys)])
      have hp1 := s1 _ _ hp
      have hq1 := s1 _ _ hq
      show tSeq _ _ _ _ (upd H L (.lst [V.int (len xs + len ys), .int (xs.sum + ys.sum), .int (sq xs + sq ys)]))
      generalize upd H L (.lst [V.int (len xs + len ys), .int (xs.sum + ys.sum), .int (sq xs + sq ys)]) = H1 at *
      refine ⟨_, rfl, _, rfl, by show 2 ≤ sizeLine; decide, fun T hT => ?_⟩
      have s2 := same_new (o := .tup [V.ref p, .ref q]) hT
      have hT2 := upd_same (H := H1) (a := T) (o := .tup [V.ref p, .ref q])
      have hp2 := s2 _ _ hp1
      have hq2 := s2 _ _ hq1
      have s12 := s1.trans s2
      have hL2 := s2 _ _ hL1
      generalize upd H1 T _ = H2 at s2 hT2 hp2 hq2 s12 hL2
      refine ⟨T, rfl, ⟨_, SqT.of hT2⟩, fun M hM => lc_tup (xs := [V.ref p, .ref q]) (fun i H' => H' = upd H2 M (.lst ((Ends p q xs ys i).map fun e => V.ref e.1))) rfl (fun i H' _ e => ?_) ?_ ?_⟩
      · subst e
        exact SqT.of (same_new hM _ _ hT2)
      · rintro i x H3 hi rfl
        have s3 := same_new (o := .lst ((Ends p q xs ys i).map fun e => V.ref e.1)) hM
        have gt : ∀ l : List Int, decide ((0 : Int) < len l) = true → l ≠ [] := fun l h e => by
          subst e
          exact absurd (of_decide_eq_true h) (by decide)
        rcases i with _ | _ | i
        · obtain rfl : V.ref p = x := Option.some.inj hi
          refine ⟨rfl, _, rfl, p, _, _, _, rfl, rfl, SqT.of (s3 _ _ hp2), atI_nat (j := 0) rfl, _, _, rfl, rfl, _, rfl, ?_⟩
          refine ite2 (fun e => ?_) (fun e => ?_)
          · exact ⟨_, rfl, _, upd_same, by show 0 < sizeLine; decide, by rw [upd_upd]; show _ = upd H2 M (.lst ((one p xs).map _)); unfold one; rw [if_neg (gt xs e)]; rfl⟩
          · show _ = upd H2 M (.lst ((one p xs).map _))
            have e0 : xs = [] := Decidable.byContradiction fun n => e (decide_eq_true (len_pos n))
            unfold one
            rw [if_pos e0]
            rfl
        · obtain rfl : V.ref q = x := Option.some.inj hi
          refine ⟨rfl, _, rfl, q, _, _, _, rfl, rfl, SqT.of (s3 _ _ hq2), atI_nat (j := 0) rfl, _, _, rfl, rfl, _, rfl, ?_⟩
          refine ite2 (fun e => ?_) (fun e => ?_)
          · refine ⟨_, rfl, _, upd_same, ?_, ?_⟩
            · show ((one p xs).map _).length < sizeLine
              unfold one
              split
              · exact (by decide : 0 < sizeLine)
              · exact (by decide : 1 < sizeLine)
            · rw [upd_upd]
              show _ = upd H2 M (.lst ((one p xs ++ one q ys).map _))
              rw [List.map_append]
              have : one q ys = [(q, ys)] := if_neg (gt ys e)
              rw [this]
              rfl
          · show _ = upd H2 M (.lst ((one p xs ++ one q ys).map _))
            have e0 : ys = [] := Decidable.byContradiction fun n => e (decide_eq_true (len_pos n))
            have : one q ys = [] := if_pos e0
            rw [this, List.append_nil]
            rfl
        · cases hi
      · rintro H3 rfl
        have s3 := same_new (o := .lst ((one p xs ++ one q ys).map fun e => V.ref e.1)) hM
        have hM3 := upd_same (H := H2) (a := M) (o := .lst ((one p xs ++ one q ys).map fun e => V.ref e.1))
        have hr : ∀ e ∈ one p xs ++ one q ys, upd H2 M (.lst ((one p xs ++ one q ys).map fun e => V.ref e.1)) e.1 = some (.tup (tal e.2)) ∧ e.2 ≠ [] := fun e he => by
          rcases List.mem_append.mp he with h | h
          · obtain ⟨rfl, h2⟩ := one_mem h
            exact ⟨s3 _ _ hp2, h2⟩
          · obtain ⟨rfl, h2⟩ := one_mem h
            exact ⟨s3 _ _ hq2, h2⟩
        have s13 := s12.trans s3
        have hL3 := s3 _ _ hL2
        have elo := ends_lo p q xs ys
        have ehi := ends_hi p q xs ys
        have el2 : (one p xs ++ one q ys).length ≤ 2 := by
          unfold one
          split <;> split <;> simp
        show tSeq _ _ _ _ (upd H2 M (.lst ((one p xs ++ one q ys).map fun e => V.ref e.1)))
        generalize upd H2 M (.lst ((one p xs ++ one q ys).map fun e => V.ref e.1)) = H3 at *
        generalize one p xs ++ one q ys = es at *
        refine ⟨_, rfl, M, rfl, ⟨_, SqL.of hM3⟩, fun N hN => lc_list (xs := es.map fun e => V.ref e.1) (fun i H' => H' = upd H3 N (.lst ((es.take i).map fun e => V.int (low e.2)))) rfl (fun i H' _ e => ?_) ?_ ?_⟩
        · subst e
          exact same_l (same_new hN) (SqL.of hM3)
        · rintro i x H4 hi rfl
          obtain ⟨e, rfl, he⟩ := getM hi
          obtain ⟨h1, h2⟩ := hr e (List.mem_of_getElem? he)
          refine ⟨rfl, _, rfl, e.1, _, _, _, rfl, rfl, SqT.of (same_new hN _ _ h1), (atI_nat (j := 3) (by show some (vO (loO e.2)) = some (V.int (low e.2)); rw [lo_some h2]; rfl)), _, upd_same, ?_, ?_⟩
          · rw [List.length_map, List.length_take]
            exact line6 (by omega)
          · rw [upd_upd, take_map_succ (f := fun e : Addr × List Int => V.int (low e.2)) he]
        · rintro H4 rfl
          rw [List.length_map, List.take_length]
          have s4 := s13.trans (same_new (o := .lst (es.map fun e => V.int (low e.2))) hN)
          have hL4 := same_new (o := .lst (es.map fun e => V.int (low e.2))) hN _ _ hL3
          have hM4 := same_new (o := .lst (es.map fun e => V.int (low e.2))) hN _ _ hM3
          have hr4 : ∀ e ∈ es, upd H3 N (.lst (es.map fun e => V.int (low e.2))) e.1 = some (.tup (tal e.2)) ∧ e.2 ≠ [] := fun e he => ⟨same_new hN _ _ (hr e he).1, (hr e he).2⟩
          refine ext_of (ns := es.map fun e => low e.2) (SqL.of (by rw [List.map_map]; exact upd_same)) (loO (xs ++ ys)) elo.1 elo.2 ?_
          generalize upd H3 N (.lst (es.map fun e => V.int (low e.2))) = H4 at *
          refine ⟨_, rfl, M, rfl, ⟨_, SqL.of hM4⟩, fun O hO => lc_list (xs := es.map fun e => V.ref e.1) (fun i H' => H' = upd H4 O (.lst ((es.take i).map fun e => V.int (high e.2)))) rfl (fun i H' _ e => ?_) ?_ ?_⟩
          · subst e
            exact same_l (same_new hO) (SqL.of hM4)
          · rintro i x H5 hi rfl
            obtain ⟨e, rfl, he⟩ := getM hi
            obtain ⟨h1, h2⟩ := hr4 e (List.mem_of_getElem? he)
            refine ⟨rfl, _, rfl, e.1, _, _, _, rfl, rfl, SqT.of (same_new hO _ _ h1), (atI_nat (j := 4) (by show some (vO (hiO e.2)) = some (V.int (high e.2)); rw [hi_some h2]; rfl)), _, upd_same, ?_, ?_⟩
            · rw [List.length_map, List.length_take]
              exact line6 (by omega)
            · rw [upd_upd, take_map_succ (f := fun e : Addr × List Int => V.int (high e.2)) he]
          · rintro H5 rfl
            rw [List.length_map, List.take_length]
            have s5 := s4.trans (same_new (o := .lst (es.map fun e => V.int (high e.2))) hO)
            have hL5 := same_new (o := .lst (es.map fun e => V.int (high e.2))) hO _ _ hL4
            refine ext_of (ns := es.map fun e => high e.2) (SqL.of (by rw [List.map_map]; exact upd_same)) (hiO (xs ++ ys)) ehi.1 ehi.2 ?_
            generalize upd H4 O (.lst (es.map fun e => V.int (high e.2))) = H5 at *
            refine ⟨_, rfl, L, _, rfl, .inr (SqL.of hL5), _, rfl, _, rfl, by show 5 ≤ sizeLine; decide, fun r hr => fin _ r (s5.trans (same_new hr)) ?_⟩
            rw [upd_same]
            unfold tal
            rw [len_app, sum_app, sq_app]
            rfl
theorem ok_mean_of (T : Txt K mg) (D_make_fraction : Kept P w K mg base 1 "make_fraction" ["n", "d"] spFrac) {f : Addr} {fd : FuncData} (F : FnP K "mean_of" s_mean_of f fd) : FnOk P w K mg base CX0 2 f fd ["tally"] (spMean K) := by
  refine F.ok sc_mean_of (fun vs H Q E h => ?_) (fun cdv A outer s H vs Q E hr h => ?_)
  · obtain ⟨p, xs, rfl, _⟩ := h
    rfl
  · obtain ⟨p, xs, rfl, hp, hl, hf, q⟩ := h
    refine ⟨_, PSs.nox (pss_cons (ps_asg (pe_slice sl_tup (pv 0) po_none (po_some pe_int)) (pg_tup rfl (pgs_cons (pg_name (i := 1) sc_mean_of.nd rfl (Or.inl rfl)) (pgs_cons (pg_name (i := 2) sc_mean_of.nd rfl (Or.inl rfl)) pgs_nil))))
      (pss_one (ps_ret (pe_ifExp (pt_cmpR op_gt (pv 1) pe_int (nomark _)) (pe_d D_make_fraction (hr.mono (by decide)) (by rfl) (pa_cons (pv 2) (pa_cons (pv 1) pa_nil))) pe_non)))), ?_⟩
    refine ⟨_, rfl, 2, rfl, p, _, rfl, SqT.of hp, (fun e => absurd (show HT.sIx 5 5 (some 2) = 5 from e.2) (by decide)), fun p2 hp2 => ?_⟩
    have s2 := same_new (o := .tup (cutV (tal xs) none (some 2))) hp2
    have hT2 := SqT.of (K := K) (upd_same (H := H) (a := p2) (o := .tup (cutV (tal xs) none (some 2))))
    generalize upd H p2 _ = H2 at s2 hT2
    refine ⟨p2, [.int (len xs), .int xs.sum], rfl, hT2, rfl, _, _, rfl, _, _, rfl, rfl, ?_⟩
    refine ⟨_, rfl, _, _, rfl, rfl, _, rfl, ?_⟩
    refine ite2 (fun e => ?_) (fun e => ?_)
    · have hx : xs ≠ [] := fun h => by
        subst h
        exact absurd (of_decide_eq_true e) (by decide)
      have h0 := len_pos hx
      refine ⟨_, rfl, _, rfl, xs.sum, len xs, rfl, by omega, sz_up (sz_s hl hf) (by decide), fun r hr => ?_⟩
      exact (q _ (s2.trans (same_new hr))).2 r hx upd_same
    · have hx : xs = [] := Decidable.byContradiction fun n => e (decide_eq_true (len_pos n))
      exact (q _ s2).1 hx
theorem ok_spread_of (T : Txt K mg) (D_make_fraction : Kept P w K mg base 1 "make_fraction" ["n", "d"] spFrac) (D_difference_of : Kept P w K mg base 2 "difference_of" ["a", "b"] (spBin K sub2)) (D_product_of : Kept P w K mg base 2 "product_of" ["a", "b"] (spBin K mul2)) (D_mean_of : Kept P w K mg base 2 "mean_of" ["tally"] (spMean K)) {f : Addr} {fd : FuncData} (F : FnP K "spread_of" s_spread_of f fd) : FnOk P w K mg base CX0 3 f fd ["tally"] (spSpread K) := by
  refine F.ok sc_spread_of (fun vs H Q E h => ?_) (fun cdv A outer s H vs Q E hr h => ?_)
  · obtain ⟨p, xs, rfl, _⟩ := h
    rfl
  · obtain ⟨p, xs, rfl, hp, hl, hf, q⟩ := h
    refine ⟨_, PSs.nox (pss_cons (ps_set (i := 1) sc_spread_of.nd rfl (Or.inl rfl) (pe_d D_mean_of (hr.mono (by decide)) (by rfl) (pa_cons (pv 0) pa_nil)))
      (pss_cons (ps_if (pt_cmpR op_isN (pv 1) pe_non (nomark _)) (pss_one (ps_ret pe_non)) pss_nil)
      (pss_one (ps_ret (pe_d D_difference_of (hr.mono (by decide)) (by rfl) (pa_cons (pe_d D_make_fraction (hr.mono (by decide)) (by rfl) (pa_cons (pe_ix ix_tup (pv 0) pe_int (fun _ _ => rfl)) (pa_cons (pe_ix ix_tup (pv 0) pe_int (fun _ _ => rfl)) pa_nil))) (pa_cons (pe_d D_product_of (hr.mono (by decide)) (by rfl) (pa_cons (pv 1) (pa_cons (pv 1) pa_nil))) pa_nil))))))), ?_⟩
    refine ⟨_, rfl, p, xs, rfl, hp, hl, hf, fun H1 s1 => ⟨fun hx => ?_, fun m hx hm => ?_⟩⟩
    · refine ⟨_, rfl, rfl, _, rfl, ?_⟩
      refine ite2 (fun _ => ?_) (fun n => absurd (by rfl) n)
      exact (q _ s1).1 hx
    · refine ⟨_, rfl, rfl, _, rfl, ?_⟩
      refine ite2 (fun n => by cases of_decide_eq_true n) (fun _ => ?_)
      have hp1 := s1 _ _ hp
      have h0 := len_pos hx
      refine ⟨_, rfl, p, _, _, _, rfl, rfl, SqT.of hp1, atI_nat (j := 2) rfl, _, rfl, p, _, _, _, rfl, rfl, SqT.of hp1, atI_nat (j := 0) rfl, sq xs, len xs, rfl, by omega, sz_up (sz_q hl hf) (by decide), fun u hu => ?_⟩
      have s2 := same_new (o := tupF (fr (sq xs) (len xs))) hu
      have hm2 := s2 _ _ hm
      have ml := mn_low hx
      have ml1 := ml.pos
      have m2 : (mul2 (mn xs) (mn xs)).2 ≠ 0 := Int.mul_ne_zero (by omega) (by omega)
      refine ⟨_, rfl, _, rfl, m, m, mn xs, mn xs, rfl, hm2, hm2, sz_up (mn_sz hl hf) (by decide), sz_up (mn_sz hl hf) (by decide), m2, fun v hv => ?_⟩
      have s3 := same_new (o := tupF (frp (mul2 (mn xs) (mn xs)))) hv
      have c1 := (low_frp m2).pos
      have a1 := (fr_low (n := sq xs) (d := len xs) (by omega)).pos
      refine ⟨u, v, fr (sq xs) (len xs), frp (mul2 (mn xs) (mn xs)), rfl, s3 _ _ upd_same, upd_same, sz_up (fr_sz (sz_q hl hf)) (by decide), sz_up (fr_sz (mul2_sz (mn_sz hl hf) (mn_sz hl hf))) (by decide), Int.mul_ne_zero (by omega) (by omega), fun r hr => ?_⟩
      exact (q _ (((s1.trans s2).trans s3).trans (same_new hr))).2 r hx upd_same
end
end Mt
namespace Mt
open PySem PySem.Spec PyProof.Rows L2
theorem addL {S D L : Addr} {H0 H : Hp} {ns : List Int} (z : Int) (L0 : H0 L = none) (d0 : DrawAt S D H0) (g : Go S D H0 H) : Go S D H0 (upd H L (.lst (ns.map V.int ++ [.int z]))) ∧ (upd H L (.lst (ns.map V.int ++ [.int z]))) L = some (.lst ((ns ++ [z]).map V.int)) := by
  obtain ⟨LD, LS⟩ := d0.free L0
  obtain ⟨cs, hc⟩ := g.1.cells
  obtain ⟨j, r, c, j0, hD⟩ := g.1.at_
  refine ⟨⟨⟨g.1.ne, ⟨cs, ?_⟩, ⟨j, r, c, j0, ?_⟩⟩, fun b o h n => ?_⟩, by rw [upd_same, List.map_append]; rfl⟩
  · rw [upd_ne LS.symm]
    exact hc
  · rw [upd_ne LD.symm]
    exact hD
  · rw [upd_ne (ne_of_none h L0)]
    exact g.2 b o h n
section
variable {P : Program} {w : World} {K : PySem.W.Frag} {mg : Str → Option Value} {base : Heap}
theorem ok__law_figure (T : Txt K mg) (D__law_draw : Kept P w K mg base 1 "_law_draw" ["d", "many"] spDraw) {f : Addr} {fd : FuncData} (F : FnP K "_law_figure" s__law_figure f fd) : FnOk P w K mg base CX0 2 f fd ["d", "kind"] spFigure := by
  refine F.ok sc__law_figure (fun vs H Q E h => ?_) (fun cdv A outer s H vs Q E hr h => ?_)
  · obtain ⟨S, D, k, rfl, _⟩ := h
    rfl
  · obtain ⟨S, D, k, rfl, d, q⟩ := h
    refine ⟨_, PSs.nox (pss_cons (ps_if (pt_cmpR op_eq (pv 1) pe_int (nomark _)) (pss_one (ps_ret (pe_d D__law_draw (hr.mono (by decide)) (by rfl) (pa_cons (pv 0) (pa_cons pe_int pa_nil))))) pss_nil)
      (pss_cons (ps_if (pt_cmpR op_eq (pv 1) pe_int (nomark _)) (pss_one (ps_ret (pe_op op_sub (pe_un un_neg pe_int) (pe_d D__law_draw (hr.mono (by decide)) (by rfl) (pa_cons (pv 0) (pa_cons pe_int pa_nil)))))) pss_nil)
      (pss_cons (ps_if (pt_cmpR op_eq (pv 1) pe_int (nomark _)) (pss_cons (ps_set (i := 2) sc__law_figure.nd rfl (Or.inl rfl) (pe_op op_add (pe_op op_mul (pe_d D__law_draw (hr.mono (by decide)) (by rfl) (pa_cons (pv 0) (pa_cons (pe_op op_pow pe_int pe_int) pa_nil))) (pe_op op_pow pe_int pe_int)) (pe_d D__law_draw (hr.mono (by decide)) (by rfl) (pa_cons (pv 0) (pa_cons (pe_op op_pow pe_int pe_int) pa_nil)))))
      (pss_one (ps_ret (pe_op op_mul (pv 2) (pe_op op_sub pe_int (pe_op op_mul pe_int (pe_d D__law_draw (hr.mono (by decide)) (by rfl) (pa_cons (pv 0) (pa_cons pe_int pa_nil))))))))) pss_nil)
      (pss_one (ps_ret (pe_op op_sub (pe_d D__law_draw (hr.mono (by decide)) (by rfl) (pa_cons (pv 0) (pa_cons pe_int pa_nil))) pe_int)))))), ?_⟩
    have e6 : (10 : Int) ^ (6 : Int).toNat = 1000000 := by decide
    refine ⟨_, rfl, rfl, _, rfl, ?_⟩
    refine ite2 (fun _ => ⟨_, rfl, S, D, 2, rfl, divW_of (by decide) (by decide), d, fun H1 v v0 v1 g1 => q H1 v (by omega) g1⟩) (fun _ => ?_)
    refine ⟨_, rfl, rfl, _, rfl, ?_⟩
    refine ite2 (fun _ => ⟨_, rfl, _, rfl, S, D, 9, rfl, divW_of (by decide) (by decide), d, fun H1 v v0 v1 g1 => ⟨_, _, rfl, rfl, q H1 _ (by omega) g1⟩⟩) (fun _ => ?_)
    refine ⟨_, rfl, rfl, _, rfl, ?_⟩
    refine ite2 (fun _ => ?_) (fun _ => ⟨_, rfl, S, D, 19, rfl, divW_of (by decide) (by decide), d, fun H1 v v0 v1 g1 => ⟨_, _, rfl, rfl, q H1 _ (by omega) g1⟩⟩)
    refine ⟨_, rfl, _, _, rfl, rfl, ⟨by decide, by decide, by decide⟩, ?_⟩
    refine ⟨S, D, 1000000, congrArg (fun i => [V.ref D, V.int i]) e6, divW_of (by decide) (by decide), d, fun H1 v v0 v1 g1 => ⟨_, _, rfl, rfl, ⟨by decide, by decide, by decide⟩, ?_⟩⟩
    refine ⟨v, 1000000, rfl, congrArg V.int e6, .inr ⟨by decide, by decide⟩, _, rfl, _, _, rfl, rfl, ⟨by decide, by decide, by decide⟩, ?_⟩
    refine ⟨S, D, 1000000, congrArg (fun i => [V.ref D, V.int i]) e6, divW_of (by decide) (by decide), g1.1, fun H2 u u0 u1 g2 => ⟨_, _, rfl, rfl, ?_⟩⟩
    refine ⟨_, rfl, _, rfl, S, D, 2, rfl, divW_of (by decide) (by decide), g2.1, fun H3 b b0 b1 g3 => ⟨_, _, rfl, rfl, .inl ⟨by decide, by decide⟩, _, _, rfl, rfl, _, _, rfl, rfl, .inl ⟨by omega, by omega⟩, q H3 _ ?_ ((g1.trans g2).trans g3)⟩⟩
    rcases (show b = 0 ∨ b = 1 by omega) with rfl | rfl <;> omega
theorem ok__law_line (T : Txt K mg) (D__law_draw : Kept P w K mg base 1 "_law_draw" ["d", "many"] spDraw) (D__law_rare : Kept P w K mg base 2 "_law_rare" ["d", "many"] spRare) (D__law_figure : Kept P w K mg base 2 "_law_figure" ["d", "kind"] spFigure) {f : Addr} {fd : FuncData} (F : FnP K "_law_line" s__law_line f fd) : FnOk P w K mg base CX0 3 f fd ["d"] spLine := by
  refine F.ok sc__law_line (fun vs H Q E h => ?_) (fun cdv A outer s H vs Q E hr h => ?_)
  · obtain ⟨S, D, rfl, _⟩ := h
    rfl
  · obtain ⟨S, D, rfl, d, q⟩ := h
    refine ⟨_, PSs.nox (pss_cons (ps_set (i := 1) sc__law_line.nd rfl (Or.inl rfl) (pe_d D__law_draw (hr.mono (by decide)) (by rfl) (pa_cons (pv 0) (pa_cons pe_int pa_nil))))
      (Evl.pss_cut (ps_if (pt_cmpR op_eq (pe_d D__law_draw (hr.mono (by decide)) (by rfl) (pa_cons (pv 0) (pa_cons pe_int pa_nil))) pe_int (nomark _)) (pss_one (ps_set (i := 1) sc__law_line.nd rfl (Or.inl rfl) (pe_d D__law_draw (hr.mono (by decide)) (by rfl) (pa_cons (pv 0) (pa_cons pe_int pa_nil))))) pss_nil)
      (Evl.pss_cut (ps_if (pt_val (pe_d D__law_rare (hr.mono (by decide)) (by rfl) (pa_cons (pv 0) (pa_cons pe_int pa_nil)))) (pss_one (ps_set (i := 1) sc__law_line.nd rfl (Or.inl rfl) (pe_d D__law_draw (hr.mono (by decide)) (by rfl) (pa_cons (pv 0) (pa_cons pe_int pa_nil))))) pss_nil)
      (pss_cons (ps_set (i := 2) sc__law_line.nd rfl (Or.inl rfl) (pe_d D__law_draw (hr.mono (by decide)) (by rfl) (pa_cons (pv 0) (pa_cons pe_int pa_nil))))
      (pss_cons (ps_set (i := 3) sc__law_line.nd rfl (Or.inl rfl) (pe_lst pa_nil))
      (pss_cons (ps_for PassesOwn.never rfl (pi_range1 (by rfl) T.b_range (pa_cons (pv 1) pa_nil)) (pg_name (i := 4) sc__law_line.nd rfl (Or.inl rfl)) (pss_one (ps_if (PW.pt (pw_and (pt_cmpR op_eq (pv 2) pe_int (nomark _)) (pw_and1 (pt_cmpR op_gt (pv 4) pe_int (nomark _))))) (pss_one (ps_expr (pe_bm PySem.F.plainAttrs_list PySem.F.slot_list_append PySem.F.type_list_append mt_append (pv 3) (pa_cons (pe_ix ix_list (pv 3) pe_int (fun _ _ => rfl)) pa_nil)))) (pss_one (ps_expr (pe_bm PySem.F.plainAttrs_list PySem.F.slot_list_append PySem.F.type_list_append mt_append (pv 3) (pa_cons (pe_d D__law_figure (hr.mono (by decide)) (by rfl) (pa_cons (pv 0) (pa_cons (pv 2) pa_nil))) pa_nil)))))))
      (pss_one (ps_ret (pv 3))))))))), ?_⟩
    refine ⟨_, rfl, S, D, 4, rfl, divW_of (by decide) (by decide), d, fun H1 m m0 m1 g1 => ?_⟩
    refine ⟨fun σ' H' => ∃ mm : Int, σ' = [some (.ref D), some (.int mm), none, none, none] ∧ 0 ≤ mm ∧ mm ≤ 60 ∧ Go S D H H', ?_, ?_⟩
    · refine ⟨_, rfl, S, D, 3, rfl, divW_of (by decide) (by decide), g1.1, fun H2 v _ _ g2 => ⟨rfl, _, rfl, ?_⟩⟩
      refine ite2 (fun _ => ?_) (fun _ => ⟨_, rfl, by omega, by omega, g1.trans g2⟩)
      exact ⟨_, rfl, S, D, 15, rfl, divW_of (by decide) (by decide), g2.1, fun H3 v v0 v1 g3 => ⟨_, rfl, by omega, by omega, (g1.trans g2).trans g3⟩⟩
    · rintro σ' H2 ⟨m2, rfl, n0, n1, g2⟩
      refine ⟨fun σ' H' => ∃ mm : Int, σ' = [some (.ref D), some (.int mm), none, none, none] ∧ 0 ≤ mm ∧ mm ≤ 60 ∧ Go S D H H', ?_, ?_⟩
      · refine ⟨_, rfl, S, D, 9, rfl, by decide, by decide, g2.1, fun H3 b g3 => ⟨b, rfl, ?_⟩⟩
        refine ite2 (fun _ => ?_) (fun _ => ⟨_, rfl, n0, n1, g2.trans g3⟩)
        exact ⟨_, rfl, S, D, 61, rfl, divW_of (by decide) (by decide), g3.1, fun H4 v v0 v1 g4 => ⟨_, rfl, by omega, by omega, (g2.trans g3).trans g4⟩⟩
      · rintro σ' H3 ⟨mm, rfl, mm0, mm1, g3⟩
        refine ⟨_, rfl, S, D, 6, rfl, divW_of (by decide) (by decide), g3.1, fun H4 kd _ _ g4 => ?_⟩
        have g := g3.trans g4
        refine ⟨Nat.zero_le _, fun L hL => ?_⟩
        have LD := (g.1.free hL).1
        refine ⟨_, rfl, _, rfl, by omega, by omega, for_range (lo := 0) (n := mm.toNat) (fun i σ H' => ∃ (ns : List Int) (y : Option V), σ = [some (.ref D), some (.int mm), some (.int kd), some (.ref L), y] ∧ Go S D H4 H' ∧ H' L = some (.lst (ns.map V.int)) ∧ ns.length = i ∧ Few ns) ⟨[], none, rfl, Go.new g.1 hL, upd_same, rfl, few_nil⟩ ?_ ?_⟩
        · rintro i σ H5 hi ⟨ns, y, rfl, g5, hL5, hl, hf⟩
          refine ⟨_, rfl, rfl, _, rfl, ?_⟩
          refine ite2 (fun _ => ?_) (fun _ => ?_)
          · refine ⟨_, rfl, _, _, rfl, rfl, _, rfl, ?_⟩
            refine ite2 (fun e => ?_) (fun _ => ?_)
            · have h0 : (0 : Int) < 0 + (i : Int) := of_decide_eq_true e
              cases ns with
              | nil =>
                have : (0 : Nat) = i := hl
                omega
              | cons z r =>
                exact ⟨_, rfl, .inl ⟨rfl, _, SqL.of hL5⟩, _, rfl, L, _, _, _, rfl, rfl, SqL.of hL5, atI_nat (j := 0) rfl, L, _, _, rfl, rfl, hL5, by rw [List.length_map]; exact line6 (by omega), _, _, rfl, (addL (ns := z :: r) z hL g.1 g5).1, (addL (ns := z :: r) z hL g.1 g5).2, by rw [List.length_append, List.length_singleton, hl], few_add hf (hf z List.mem_cons_self)⟩
            · exact ⟨_, rfl, .inl ⟨rfl, _, SqL.of hL5⟩, _, rfl, _, rfl, S, D, _, rfl, g5.1, fun H6 z hz g6 => ⟨L, _, _, rfl, rfl, g6.2 _ _ hL5 LD, by rw [List.length_map]; exact line6 (by omega), _, _, rfl, (addL (ns := ns) z hL g.1 (g5.trans g6)).1, (addL (ns := ns) z hL g.1 (g5.trans g6)).2, by rw [List.length_append, List.length_singleton, hl], few_add hf hz⟩⟩
          · refine ite2 (fun n => by cases n) (fun _ => ?_)
            exact ⟨_, rfl, .inl ⟨rfl, _, SqL.of hL5⟩, _, rfl, _, rfl, S, D, _, rfl, g5.1, fun H6 z hz g6 => ⟨L, _, _, rfl, rfl, g6.2 _ _ hL5 LD, by rw [List.length_map]; exact line6 (by omega), _, _, rfl, (addL (ns := ns) z hL g.1 (g5.trans g6)).1, (addL (ns := ns) z hL g.1 (g5.trans g6)).2, by rw [List.length_append, List.length_singleton, hl], few_add hf hz⟩⟩
        · rintro σ H5 ⟨ns, y, rfl, g5, hL5, hl, hf⟩
          exact ⟨_, rfl, q H5 L ns (g.trans g5) (g.free d hL) hL5 (by omega) hf⟩
theorem ok__law_same (T : Txt K mg) (D__law_is_int : Kept P w K mg base 1 "_law_is_int" ["thing"] spIsInt) {f : Addr} {fd : FuncData} (F : FnP K "_law_same" s__law_same f fd) : FnOk P w K mg base CX0 2 f fd ["told", "due"] (spSame K) := by
  refine F.ok sc__law_same (fun vs H Q E h => ?_) (fun cdv A outer s H vs Q E hr h => ?_)
  · obtain ⟨p, q, l, rfl, _⟩ := h
    rfl
  · obtain ⟨p, q, l, rfl, hp, hq, fin⟩ := h
    refine ⟨_, PSs.nox (pss_cons (ps_if (PW.pt (pw_or (pt_not (pt_val (pe_callB call_isi (by rfl) T.b_isinstance (by decide +kernel) (pa_cons (pv 0) (pa_cons (pe_bltn (v := .ty "tuple") (u := .type "tuple") (by rfl) T.b_tuple (by decide +kernel) rfl) pa_nil))))) (pw_or1 (pt_cmpR op_ne (pe_callB call_len (by rfl) T.b_len (by decide +kernel) (pa_cons (pv 0) pa_nil)) pe_int (nomark _))))) (pss_one (ps_ret pe_bl)) pss_nil)
      (pss_one (ps_ret (pe_and (pe_cmpR (op_eqD (hr.units)) (pv 0) (pv 1) (nomark _)) (pe_one (pe_callB (cr_all rfl) (by rfl) T.b_all (by decide +kernel) (pa_cons (pe_lc (own := [("part", 2)]) (g := (gName 2)) (tt := tYes) rfl sc__law_same.nd (pi_tup (pv 0)) (blkOk_by (N := N__law_same) (sc := defScope s__law_same) (by decide +kernel)) (fun _ _ _ _ _ => (pg_name (i := 2) sc__law_same.nd rfl (Or.inl rfl))) (fun _ _ _ _ _ => pts_nil) (fun _ _ _ _ _ => (pe_or (pe_cmpR op_isN (pv 2) pe_non (nomark _)) (pe_one (pe_d D__law_is_int (hr.mono (by decide)) (by rfl) (pa_cons (pv 2) pa_nil)))))) pa_nil))))))), ?_⟩
    refine ⟨_, rfl, _, .ty "tuple", .type "tuple", .type "tuple", true, rfl, .ty _, .base (.tup hp), kit_ty (by decide +kernel), true, rfl, ?_⟩
    refine ⟨_, rfl, _, _, rfl, .inr ⟨_, SqT.of hp, rfl⟩, rfl, _, rfl, ?_⟩
    refine iteNS rfl ?_
    refine ⟨_, rfl, _, rfl, dT l, dT l, dp_T hp, dp_T hq, dT_sh l, dT_sh l, _, rfl, ?_⟩
    rw [dT_eqv]
    refine ite2 (fun _ => ?_) (fun n => absurd rfl n)
    refine ⟨_, rfl, p, rfl, ⟨_, SqT.of hp⟩, fun L hL => lc_tup (xs := tal l) (fun i H' => H' = upd H L (.lst (((tal l).take i).map fun _ => V.bl true))) rfl (fun i H' _ e => ?_) ?_ ?_⟩
    · subst e
      exact SqT.of (same_new hL _ _ hp)
    · rintro i x H1 hi rfl
      have ex : x = .non ∨ ∃ z : Int, x = .int z := by
        have o : ∀ o : Option Int, vO o = .non ∨ ∃ z : Int, vO o = .int z := fun o => by
          cases o with
          | none => exact .inl rfl
          | some z => exact .inr ⟨z, rfl⟩
        have := List.mem_of_getElem? hi
        unfold tal at this
        simp only [List.mem_cons, List.not_mem_nil, or_false] at this
        rcases this with h | h | h | h | h
        · exact .inr ⟨_, h⟩
        · exact .inr ⟨_, h⟩
        · exact .inr ⟨_, h⟩
        · rw [h]
          exact o _
        · rw [h]
          exact o _
      have sz : (List.map (fun _ => V.bl true) ((tal l).take i)).length < sizeLine := by
        rw [List.length_map, List.length_take]
        exact line6 (by show min i 5 < _; omega)
      have st : upd (upd H L (.lst (((tal l).take i).map fun _ => V.bl true))) L (.lst (((tal l).take i).map (fun _ => V.bl true) ++ [V.bl true])) = upd H L (.lst (((tal l).take (i + 1)).map fun _ => V.bl true)) := by
        rw [upd_upd, take_map_succ (f := fun _ => V.bl true) hi]
      rcases ex with rfl | ⟨z, rfl⟩
      · refine ⟨rfl, _, rfl, rfl, _, rfl, ?_⟩
        refine ite2 (fun _ => ⟨_, upd_same, sz, st⟩) (fun n => absurd (by rfl) n)
      · refine ⟨rfl, _, rfl, rfl, _, rfl, ?_⟩
        refine ite2 (fun n => by cases of_decide_eq_true n) (fun _ => ⟨_, rfl, z, rfl, _, upd_same, sz, st⟩)
    · rintro H' rfl
      rw [List.take_length]
      refine ⟨L, (tal l).map fun _ => true, rfl, SqL.of (by rw [upd_same, List.map_map]; rfl), ?_⟩
      rw [all_true]
      exact fin _ (same_new hL)
theorem ap_sz {l : List Int} (h : l.length ≤ 200) (hf : Few l) : Sz 4000 (AP l, len l * len l * len l) := by
  have h1 := sum_few hf
  have h2 := sq_few hf
  have h3 : (len l).natAbs < 2 ^ 10 := by
    unfold len
    omega
  have h4 : (sq l).natAbs < 2 ^ 100 := by omega
  have h5 : l.sum.natAbs < 2 ^ 60 := by omega
  refine ⟨?_, ?_⟩
  · show (AP l).natAbs < 2 ^ 4000
    rw [AP_eq]
    exact n_up (sz_mul h3 (sz_sub (n_up (sz_mul h4 h3) (by decide : 110 ≤ 120)) (sz_mul h5 h5))) (by decide)
  · exact n_up (sz_mul (sz_mul h3 h3) h3) (by decide)
theorem ok__law_means_hold (T : Txt K mg) (D_mean_of : Kept P w K mg base 2 "mean_of" ["tally"] (spMean K)) (D_spread_of : Kept P w K mg base 3 "spread_of" ["tally"] (spSpread K)) (D__law_frac : Kept P w K mg base 1 "_law_frac" ["n", "d"] spFrac) (D__law_is_frac : Kept P w K mg base 3 "_law_is_frac" ["thing"] (spIsFrac K)) (D__law_tally : Kept P w K mg base 1 "_law_tally" ["row"] (spLTally K)) {f : Addr} {fd : FuncData} (F : FnP K "_law_means_hold" s__law_means_hold f fd) : FnOk P w K mg base CX0 4 f fd ["row"] (spHolds K) := by
  refine F.ok sc__law_means_hold (fun vs H Q E h => ?_) (fun cdv A outer s H vs Q E hr h => ?_)
  · obtain ⟨a, ns, rfl, _⟩ := h
    rfl
  · obtain ⟨a, ns, rfl, hS, hl, hf, q⟩ := h
    refine ⟨_, PSs.nox (pss_cons (ps_set (i := 1) sc__law_means_hold.nd rfl (Or.inl rfl) (pe_d D__law_tally (hr.mono (by decide)) (by rfl) (pa_cons (pv 0) pa_nil)))
      (pss_cons (ps_set (i := 2) sc__law_means_hold.nd rfl (Or.inl rfl) (pe_d D_mean_of (hr.mono (by decide)) (by rfl) (pa_cons (pv 1) pa_nil)))
      (pss_cons (ps_set (i := 3) sc__law_means_hold.nd rfl (Or.inl rfl) (pe_d D_spread_of (hr.mono (by decide)) (by rfl) (pa_cons (pv 1) pa_nil)))
      (pss_cons (ps_set (i := 4) sc__law_means_hold.nd rfl (Or.inr rfl) (pe_callB call_len (by rfl) T.b_len (by decide +kernel) (pa_cons (pv 0) pa_nil)))
      (pss_cons (ps_if (pt_cmpR op_eq (pv 4) pe_int (nomark _)) (pss_one (ps_ret (pe_and (pe_cmpR op_isN (pv 2) pe_non (nomark _)) (pe_one (pe_cmpR op_isN (pv 3) pe_non (nomark _)))))) pss_nil)
      (pss_cons (ps_if (PW.pt (pw_or (pt_not (pt_val (pe_d D__law_is_frac (hr.mono (by decide)) (by rfl) (pa_cons (pv 2) pa_nil)))) (pw_or1 (pt_not (pt_val (pe_d D__law_is_frac (hr.mono (by decide)) (by rfl) (pa_cons (pv 3) pa_nil))))))) (pss_one (ps_ret pe_bl)) pss_nil)
      (pss_cons (ps_set (i := 5) sc__law_means_hold.nd rfl (Or.inr rfl) (pe_ix ix_tup (pv 1) pe_int (fun _ _ => rfl)))
      (pss_cons (ps_set (i := 6) sc__law_means_hold.nd rfl (Or.inl rfl) (pe_callB (cr_sum rfl) (by rfl) T.b_sum (by decide +kernel) (pa_cons (pe_lc (own := [("value", 7)]) (g := (gName 7)) (tt := tYes) rfl sc__law_means_hold.nd (pi_list (pv 0)) (blkOk_by (N := N__law_means_hold) (sc := defScope s__law_means_hold) (by decide +kernel)) (fun _ _ _ _ _ => (pg_name (i := 7) sc__law_means_hold.nd rfl (Or.inl rfl))) (fun _ _ _ _ _ => pts_nil) (fun _ _ _ _ _ => (pe_op op_mul (pe_op op_sub (pe_op op_mul (pv 4) (pv 7)) (pv 5)) (pe_op op_sub (pe_op op_mul (pv 4) (pv 7)) (pv 5))))) pa_nil)))
      (pss_one (ps_ret (pe_and (pe_cmpR (op_eqD (hr.units)) (pv 2) (pe_d D__law_frac (hr.mono (by decide)) (by rfl) (pa_cons (pv 5) (pa_cons (pv 4) pa_nil))) (nomark _)) (pe_one (pe_cmpR (op_eqD (hr.units)) (pv 3) (pe_d D__law_frac (hr.mono (by decide)) (by rfl) (pa_cons (pv 6) (pa_cons (pe_op op_mul (pe_op op_mul (pv 4) (pv 4)) (pv 4)) pa_nil))) (nomark _)))))))))))))), ?_⟩
    refine ⟨_, rfl, a, ns, rfl, hS, hl, hf, fun H1 p s1 hp => ⟨_, rfl, p, ns, rfl, hp, hl, hf, fun H2 s2 => ⟨fun e => ?_, fun m hx hm => ?_⟩⟩⟩
    · refine ⟨_, rfl, p, ns, rfl, s2 _ _ hp, hl, hf, fun H3 s3 => ⟨fun _ => ?_, fun r hx _ => absurd e hx⟩⟩
      have s03 := (s1.trans s2).trans s3
      subst e
      refine ⟨_, rfl, _, _, rfl, .inl ⟨_, same_l s03 hS, rfl⟩, ?_⟩
      refine ⟨_, rfl, rfl, _, rfl, ?_⟩
      refine ite2 (fun _ => ?_) (fun n => absurd (by rfl) n)
      refine ⟨_, rfl, rfl, _, rfl, ?_⟩
      refine ite2 (fun _ => ?_) (fun n => absurd (by rfl) n)
      exact ⟨_, rfl, rfl, q _ s03⟩
    · refine ⟨_, rfl, p, ns, rfl, s2 _ _ hp, hl, hf, fun H3 s3 => ⟨fun e => absurd e hx, fun r _ hr => ?_⟩⟩
      have s03 := (s1.trans s2).trans s3
      have hm3 := s3 _ _ hm
      have hp3 := s3 _ _ (s2 _ _ hp)
      have h0 := len_pos hx
      have lm : (((ns.map V.int).length : Nat) : Int) = len ns := by
        rw [List.length_map]
        rfl
      refine ⟨_, rfl, _, _, rfl, .inl ⟨_, same_l s03 hS, rfl⟩, ?_⟩
      rw [lm]
      refine ⟨_, rfl, rfl, _, rfl, ?_⟩
      refine ite2 (fun e => ?_) (fun _ => ?_)
      · have : len ns = 0 := by
          have := of_decide_eq_true e
          injection this
        omega
      refine ⟨_, rfl, m, mn ns, rfl, hm3, mn_low hx, sz_up (mn_sz hl hf) (by decide), fun H4 s4 => ⟨true, rfl, ?_⟩⟩
      refine iteNT ?_
      refine ⟨_, rfl, r, spr ns, rfl, s4 _ _ hr, spr_low hx, sz_up (spr_sz hl hf) (by decide), fun H5 s5 => ⟨true, rfl, ?_⟩⟩
      refine iteNT ?_
      have s35 := s4.trans s5
      have s05 := s03.trans s35
      have hS5 := same_l s05 hS
      refine ⟨_, rfl, p, _, _, _, rfl, rfl, SqT.of (s35 _ _ hp3), atI_nat (j := 1) rfl, ?_⟩
      refine ⟨_, rfl, a, rfl, ⟨_, hS5⟩, fun M hM => lc_list (xs := ns.map V.int) (fun i H' => H' = upd H5 M (.lst ((ns.take i).map fun z => V.int ((len ns * z - ns.sum) * (len ns * z - ns.sum))))) rfl (fun i H' _ e => ?_) ?_ ?_⟩
      · subst e
        exact same_l (same_new hM) hS5
      · rintro j x H6 hj rfl
        obtain ⟨z, rfl, hz⟩ := getV hj
        have hzf := hf z (List.mem_of_getElem? hz)
        have su := sum_few hf
        have hln : (len ns).natAbs ≤ 200 := by
          unfold len
          omega
        have hp : (len ns * z - ns.sum).natAbs ≤ 2 ^ 60 := by
          have h1 := Int.natAbs_sub_le (len ns * z) ns.sum
          have h2 : (len ns * z).natAbs ≤ 200 * 2 ^ 40 := by
            rw [Int.natAbs_mul]
            exact Nat.mul_le_mul hln hzf
          omega
        refine ⟨rfl, _, rfl, _, rfl, _, _, rfl, rfl, .inl ⟨by omega, by omega⟩, _, rfl, _, _, rfl, rfl, _, rfl, _, rfl, _, _, rfl, rfl, .inl ⟨by omega, by omega⟩, _, rfl, _, _, rfl, rfl, _, _, rfl, rfl, .inl ⟨by omega, by omega⟩, _, upd_same, ?_, ?_⟩
        · rw [List.length_map, List.length_take]
          exact line6 (by omega)
        · rw [upd_upd, take_map_succ (f := fun z => V.int ((len ns * z - ns.sum) * (len ns * z - ns.sum))) hz]
      · rintro H' rfl
        rw [List.length_map, List.take_length]
        have s6 := same_new (o := .lst (ns.map fun z => V.int ((len ns * z - ns.sum) * (len ns * z - ns.sum)))) hM
        refine ⟨M, ns.map fun z => (len ns * z - ns.sum) * (len ns * z - ns.sum), rfl, SqL.of (by rw [List.map_map]; exact upd_same), ?_⟩
        have hm6 := s6 _ _ (s35 _ _ hm3)
        have hr6 := s6 _ _ (s35 _ _ hr)
        have s06 := s05.trans s6
        have asz := ap_sz hl hf
        have l10 : -(2 ^ 64) < len ns ∧ len ns < 2 ^ 64 := by
          unfold len
          omega
        refine ⟨_, rfl, _, rfl, _, rfl, ns.sum, len ns, rfl, by omega, sz_up (sz_s hl hf) (by decide), fun f hf0 => ?_⟩
        have s7 := same_new (o := tupF (fr ns.sum (len ns))) hf0
        refine ⟨dF (mn ns), dF (mn ns), dp_F (s7 _ _ hm6), dp_F upd_same, dF_sh _, dF_sh _, _, rfl, ?_⟩
        rw [dF_eqv]
        refine ite2 (fun _ => ?_) (fun n => absurd rfl n)
        refine ⟨_, rfl, _, rfl, _, rfl, _, rfl, _, _, rfl, rfl, .inl l10, _, rfl, _, _, rfl, rfl, .inr l10, AP ns, len ns * len ns * len ns, rfl, Int.mul_ne_zero (Int.mul_ne_zero (by omega) (by omega)) (by omega), asz, fun g hg => ?_⟩
        have s8 := same_new (o := tupF (fr (AP ns) (len ns * len ns * len ns))) hg
        refine ⟨dF (spr ns), dF (spr ns), dp_F (s8 _ _ (s7 _ _ hr6)), dp_F (by rw [spr_eq hx]; exact upd_same), dF_sh _, dF_sh _, ?_⟩
        rw [dF_eqv]
        exact q _ ((s06.trans s7).trans s8)
end
end Mt
namespace Mt
open PySem PySem.Spec PyProof.Rows L2
theorem cut_from (ns : List Int) (i : Nat) : cutV (ns.map V.int) (some (i : Int)) none = (ns.drop i).map V.int := by
  unfold cutV
  rw [HT.sIx_nat, HT.sIx_none, List.map_drop]
  by_cases h : i ≤ (ns.map V.int).length
  · rw [Nat.min_eq_left h, List.take_of_length_le (by rw [List.length_drop]; exact Nat.le_refl _)]
  · rw [Nat.min_eq_right (by omega), List.drop_of_length_le (Nat.le_refl _), List.drop_of_length_le (by omega), List.take_nil]
theorem cut_to (ns : List Int) (i : Nat) : cutV (ns.map V.int) none (some (i : Int)) = (ns.take i).map V.int := by
  rw [cut_k, List.map_take]
section
variable {P : Program} {w : World} {K : PySem.W.Frag} {mg : Str → Option Value} {base : Heap}
theorem ok__law_row_holds (T : Txt K mg) (D_tally_of : Kept P w K mg base 1 "tally_of" ["values"] (spTally K)) (D_joined : Kept P w K mg base 1 "joined" ["tally", "other"] (spJoin K)) (D__law_tally : Kept P w K mg base 1 "_law_tally" ["row"] (spLTally K)) (D__law_same : Kept P w K mg base 2 "_law_same" ["told", "due"] (spSame K)) (D__law_means_hold : Kept P w K mg base 4 "_law_means_hold" ["row"] (spHolds K)) {f : Addr} {fd : FuncData} (F : FnP K "_law_row_holds" s__law_row_holds f fd) : FnOk P w K mg base CX0 5 f fd ["row"] (spHolds K) := by
  refine F.ok sc__law_row_holds (fun vs H Q E h => ?_) (fun cdv A outer s H vs Q E hr h => ?_)
  · obtain ⟨a, ns, rfl, _⟩ := h
    rfl
  · obtain ⟨a, ns, rfl, hS, hl, hf, q⟩ := h
    refine ⟨_, PSs.nox (pss_cons (ps_set (i := 1) sc__law_row_holds.nd rfl (Or.inl rfl) (pe_d D__law_tally (hr.mono (by decide)) (by rfl) (pa_cons (pv 0) pa_nil)))
      (pss_cons (ps_if (PW.pt (pw_or (pt_not (pt_val (pe_d D__law_same (hr.mono (by decide)) (by rfl) (pa_cons (pe_d D_tally_of (hr.mono (by decide)) (by rfl) (pa_cons (pe_callTy call_tuple_of (by rfl) T.b_tuple (by decide +kernel) (pa_cons (pv 0) pa_nil)) pa_nil)) (pa_cons (pv 1) pa_nil))))) (pw_or1 (pt_not (pt_val (pe_d D__law_means_hold (hr.mono (by decide)) (by rfl) (pa_cons (pv 0) pa_nil))))))) (pss_one (ps_ret pe_bl)) pss_nil)
      (pss_cons (ps_for PassesOwn.never rfl (pi_range1 (by rfl) T.b_range (pa_cons (pe_op op_add (pe_callB call_len (by rfl) T.b_len (by decide +kernel) (pa_cons (pv 0) pa_nil)) pe_int) pa_nil)) (pg_name (i := 2) sc__law_row_holds.nd rfl (Or.inl rfl)) (pss_cons (ps_set (i := 3) sc__law_row_holds.nd rfl (Or.inl rfl) (pe_d D__law_tally (hr.mono (by decide)) (by rfl) (pa_cons (pe_slice sl_list (pv 0) po_none (po_some (pv 2))) pa_nil)))
      (pss_cons (ps_set (i := 4) sc__law_row_holds.nd rfl (Or.inl rfl) (pe_d D__law_tally (hr.mono (by decide)) (by rfl) (pa_cons (pe_slice sl_list (pv 0) (po_some (pv 2)) po_none) pa_nil)))
      (pss_one (ps_if (PW.pt (pw_or (pt_not (pt_val (pe_d D__law_same (hr.mono (by decide)) (by rfl) (pa_cons (pe_d D_joined (hr.mono (by decide)) (by rfl) (pa_cons (pv 3) (pa_cons (pv 4) pa_nil))) (pa_cons (pv 1) pa_nil))))) (pw_or1 (pt_not (pt_val (pe_d D__law_same (hr.mono (by decide)) (by rfl) (pa_cons (pe_d D_joined (hr.mono (by decide)) (by rfl) (pa_cons (pv 4) (pa_cons (pv 3) pa_nil))) (pa_cons (pv 1) pa_nil)))))))) (pss_one (ps_ret pe_bl)) pss_nil)))))
      (pss_one (ps_ret pe_bl))))), ?_⟩
    refine ⟨_, rfl, a, ns, rfl, hS, hl, hf, fun H1 p s1 hp => ?_⟩
    refine ⟨_, rfl, a, _, rfl, .inl ⟨same_l s1 hS, fun T hT => ?_⟩⟩
    have s2 := s1.trans (same_new (o := .tup (ns.map V.int)) hT)
    have hp2 := same_new (o := .tup (ns.map V.int)) hT _ _ hp
    refine ⟨T, ns, rfl, SqT.of upd_same, hl, hf, fun H3 t s3 ht => ⟨_, rfl, t, p, ns, rfl, ht, s3 _ _ hp2, fun H4 s4 => ⟨true, rfl, ?_⟩⟩⟩
    refine iteNT ?_
    have s04 := (s2.trans s3).trans s4
    have hp4 := s4 _ _ (s3 _ _ hp2)
    refine ⟨_, rfl, a, ns, rfl, same_l s04 hS, hl, hf, fun H5 s5 => ⟨true, rfl, ?_⟩⟩
    refine iteNT ?_
    have s05 := s04.trans s5
    have hS5 := same_l s05 hS
    have hp5 := s5 _ _ hp4
    refine ⟨_, rfl, _, _, rfl, .inl ⟨_, hS5, rfl⟩, _, _, rfl, rfl, _, rfl, ?_, ?_, for_range (lo := 0) (n := (((ns.map V.int).length : Int) + 1).toNat) (fun i σ H' => ∃ y2 y3 y4, σ = [some (.ref a), some (.ref p), y2, y3, y4] ∧ Same H5 H') ⟨none, none, none, rfl, Same.refl _⟩ ?_ ?_⟩
    · rw [List.length_map]
      omega
    · rw [List.length_map]
      omega
    · rintro i σ H6 hi ⟨y2, y3, y4, rfl, s6⟩
      have hS6 := same_l s6 hS5
      refine ⟨_, rfl, _, rfl, _, rfl, a, _, rfl, hS6, fun L hL => ?_⟩
      rw [Int.zero_add, cut_to]
      have s7 := same_new (o := .lst ((ns.take i).map V.int)) hL
      refine ⟨L, ns.take i, rfl, SqL.of upd_same, by rw [List.length_take]; omega, hf.take i, fun H8 u s8 hu => ?_⟩
      have s68 := s7.trans s8
      refine ⟨_, rfl, _, rfl, _, rfl, a, _, rfl, same_l s68 hS6, fun M hM => ?_⟩
      rw [cut_from]
      have s9 := same_new (o := .lst ((ns.drop i).map V.int)) hM
      refine ⟨M, ns.drop i, rfl, SqL.of upd_same, by rw [List.length_drop]; omega, hf.drop i, fun H10 v s10 hv => ?_⟩
      have hu10 := s10 _ _ (s9 _ _ hu)
      have s610 := (s68.trans s9).trans s10
      have hp10 := s610 _ _ (s6 _ _ hp5)
      have et : tal (ns.take i ++ ns.drop i) = tal ns := by rw [List.take_append_drop]
      have et2 : tal (ns.drop i ++ ns.take i) = tal ns := by rw [tal_comm, List.take_append_drop]
      refine ⟨_, rfl, _, rfl, u, v, _, _, rfl, hu10, hv, fun H11 j s11 hj => ⟨_, rfl, j, p, ns, rfl, et ▸ hj, s11 _ _ hp10, fun H12 s12 => ⟨true, rfl, ?_⟩⟩⟩
      refine iteNT ?_
      have s1012 := s11.trans s12
      refine ⟨_, rfl, _, rfl, v, u, _, _, rfl, s1012 _ _ hv, s1012 _ _ hu10, fun H13 j2 s13 hj2 => ⟨_, rfl, j2, p, ns, rfl, et2 ▸ hj2, s13 _ _ (s1012 _ _ hp10), fun H14 s14 => ⟨true, rfl, ?_⟩⟩⟩
      refine iteNT ?_
      exact ⟨_, _, _, rfl, (s6.trans s610).trans ((s1012.trans s13).trans s14)⟩
    · rintro σ H6 ⟨y2, y3, y4, rfl, s6⟩
      exact q _ (s05.trans s6)
theorem ok_law (T : Txt K mg) (D_joined : Kept P w K mg base 1 "joined" ["tally", "other"] (spJoin K)) (D__law_begin : Kept P w K mg base 1 "_law_begin" ["script"] (spBegin K)) (D__law_line : Kept P w K mg base 3 "_law_line" ["d"] spLine) (D__law_tally : Kept P w K mg base 1 "_law_tally" ["row"] (spLTally K)) (D__law_same : Kept P w K mg base 2 "_law_same" ["told", "due"] (spSame K)) (D__law_means_hold : Kept P w K mg base 4 "_law_means_hold" ["row"] (spHolds K)) (D__law_row_holds : Kept P w K mg base 5 "_law_row_holds" ["row"] (spHolds K)) {f : Addr} {fd : FuncData} (F : FnP K "law" s_law f fd) : FnOk P w K mg base CX0 6 f fd ["script"] (spLaw K) := by
  refine F.ok sc_law (fun vs H Q E h => ?_) (fun cdv A outer s H vs Q E hr h => ?_)
  · obtain ⟨a, ns, rfl, _⟩ := h
    rfl
  · obtain ⟨a, cs, rfl, hS, hlen, q⟩ := h
    refine ⟨_, PSs.nox (pss_cons (ps_set (i := 1) sc_law.nd rfl (Or.inl rfl) (pe_d D__law_begin (hr.mono (by decide)) (by rfl) (pa_cons (pv 0) pa_nil)))
      (pss_cons (ps_set (i := 2) sc_law.nd rfl (Or.inl rfl) (pe_lst (pa_cons (pe_d D__law_line (hr.mono (by decide)) (by rfl) (pa_cons (pv 1) pa_nil)) (pa_cons (pe_d D__law_line (hr.mono (by decide)) (by rfl) (pa_cons (pv 1) pa_nil)) (pa_cons (pe_d D__law_line (hr.mono (by decide)) (by rfl) (pa_cons (pv 1) pa_nil)) pa_nil)))))
      (pss_cons (ps_if (pt_not (pt_val (pe_callB (cr_all rfl) (by rfl) T.b_all (by decide +kernel) (pa_cons (pe_lc (own := [("row", 3)]) (g := (gName 3)) (tt := tYes) rfl sc_law.nd (pi_list (pv 2)) (blkOk_by (N := N_law) (sc := defScope s_law) (by decide +kernel)) (fun _ _ _ _ _ => (pg_name (i := 3) sc_law.nd rfl (Or.inl rfl))) (fun _ _ _ _ _ => pts_nil) (fun _ _ _ _ _ => (pe_d D__law_row_holds (hr.mono (by decide)) (by rfl) (pa_cons (pv 3) pa_nil)))) pa_nil)))) (pss_one (ps_ret pe_bl)) pss_nil)
      (pss_cons (ps_set (i := 4) sc_law.nd rfl (Or.inl rfl) (pe_d D__law_tally (hr.mono (by decide)) (by rfl) (pa_cons (pe_ix ix_list (pv 2) pe_int (fun _ _ => rfl)) pa_nil)))
      (pss_cons (ps_set (i := 5) sc_law.nd rfl (Or.inl rfl) (pe_d D__law_tally (hr.mono (by decide)) (by rfl) (pa_cons (pe_ix ix_list (pv 2) pe_int (fun _ _ => rfl)) pa_nil)))
      (pss_cons (ps_set (i := 6) sc_law.nd rfl (Or.inl rfl) (pe_d D_joined (hr.mono (by decide)) (by rfl) (pa_cons (pv 4) (pa_cons (pe_d D__law_tally (hr.mono (by decide)) (by rfl) (pa_cons (pe_ix ix_list (pv 2) pe_int (fun _ _ => rfl)) pa_nil)) pa_nil))))
      (pss_cons (ps_set (i := 7) sc_law.nd rfl (Or.inl rfl) (pe_d D_joined (hr.mono (by decide)) (by rfl) (pa_cons (pe_d D__law_tally (hr.mono (by decide)) (by rfl) (pa_cons (pe_ix ix_list (pv 2) pe_int (fun _ _ => rfl)) pa_nil)) (pa_cons (pv 5) pa_nil))))
      (pss_cons (ps_if (PW.pt (pw_or (pt_not (pt_val (pe_d D__law_same (hr.mono (by decide)) (by rfl) (pa_cons (pv 6) (pa_cons (pe_d D__law_tally (hr.mono (by decide)) (by rfl) (pa_cons (pe_op op_cat (pe_ix ix_list (pv 2) pe_int (fun _ _ => rfl)) (pe_ix ix_list (pv 2) pe_int (fun _ _ => rfl))) pa_nil)) pa_nil))))) (pw_or1 (pt_not (pt_val (pe_d D__law_same (hr.mono (by decide)) (by rfl) (pa_cons (pv 7) (pa_cons (pe_d D__law_tally (hr.mono (by decide)) (by rfl) (pa_cons (pe_op op_cat (pe_ix ix_list (pv 2) pe_int (fun _ _ => rfl)) (pe_ix ix_list (pv 2) pe_int (fun _ _ => rfl))) pa_nil)) pa_nil)))))))) (pss_one (ps_ret pe_bl)) pss_nil)
      (pss_cons (ps_set (i := 8) sc_law.nd rfl (Or.inl rfl) (pe_d D__law_tally (hr.mono (by decide)) (by rfl) (pa_cons (pe_op op_cat (pe_op op_cat (pe_ix ix_list (pv 2) pe_int (fun _ _ => rfl)) (pe_ix ix_list (pv 2) pe_int (fun _ _ => rfl))) (pe_ix ix_list (pv 2) pe_int (fun _ _ => rfl))) pa_nil)))
      (pss_cons (ps_if (PW.pt (pw_or (pt_not (pt_val (pe_d D__law_same (hr.mono (by decide)) (by rfl) (pa_cons (pe_d D_joined (hr.mono (by decide)) (by rfl) (pa_cons (pv 6) (pa_cons (pv 5) pa_nil))) (pa_cons (pv 8) pa_nil))))) (pw_or1 (pt_not (pt_val (pe_d D__law_same (hr.mono (by decide)) (by rfl) (pa_cons (pe_d D_joined (hr.mono (by decide)) (by rfl) (pa_cons (pv 4) (pa_cons (pv 7) pa_nil))) (pa_cons (pv 8) pa_nil)))))))) (pss_one (ps_ret pe_bl)) pss_nil)
      (pss_one (ps_ret (pe_d D__law_means_hold (hr.mono (by decide)) (by rfl) (pa_cons (pe_op op_cat (pe_op op_cat (pe_ix ix_list (pv 2) pe_int (fun _ _ => rfl)) (pe_ix ix_list (pv 2) pe_int (fun _ _ => rfl))) (pe_ix ix_list (pv 2) pe_int (fun _ _ => rfl))) pa_nil)))))))))))))), ?_⟩
    refine ⟨_, rfl, a, cs, rfl, hS, hlen, fun S D H1 s1 fD d => ?_⟩
    refine ⟨_, rfl, S, D, rfl, d, fun H2 A0 xs g2 nA hA lx fx => ?_⟩
    have AD := (d.free nA).1
    refine ⟨_, rfl, S, D, rfl, g2.1, fun H3 B0 ys g3 nB hB ly fy => ?_⟩
    have BD := (g2.1.free nB).1
    refine ⟨_, rfl, S, D, rfl, g3.1, fun H4 C0 zs g4 nC hC lz fz => ?_⟩
    have hA4 := g4.2 _ _ (g3.2 _ _ hA AD) AD
    have hB4 := g4.2 _ _ hB BD
    refine ⟨by show 3 ≤ sizeLine; decide, fun R hR => ?_⟩
    have s5 := same_new (o := .lst [V.ref A0, .ref B0, .ref C0]) hR
    have hR5 := upd_same (H := H4) (a := R) (o := .lst [V.ref A0, .ref B0, .ref C0])
    have hA5 := s5 _ _ hA4
    have hB5 := s5 _ _ hB4
    have hC5 := s5 _ _ hC
    generalize upd H4 R _ = H5 at s5 hR5 hA5 hB5 hC5
    have hold : ∀ (H : Hp) (x : V), Same H5 H → x ∈ [V.ref A0, .ref B0, .ref C0] → ∃ (a : Addr) (ns : List Int), [x] = [V.ref a] ∧ SqL K H a (ns.map V.int) ∧ ns.length ≤ 200 ∧ Few ns := fun H x s hx => by
      simp only [List.mem_cons, List.not_mem_nil, or_false] at hx
      rcases hx with rfl | rfl | rfl
      · exact ⟨A0, xs, rfl, SqL.of (s _ _ hA5), by omega, fx⟩
      · exact ⟨B0, ys, rfl, SqL.of (s _ _ hB5), by omega, fy⟩
      · exact ⟨C0, zs, rfl, SqL.of (s _ _ hC5), by omega, fz⟩
    refine ⟨_, rfl, R, rfl, ⟨_, SqL.of hR5⟩, fun L hL => lc_list (xs := [V.ref A0, .ref B0, .ref C0]) (fun i H' => Same H5 H' ∧ H' L = some (.lst ((List.replicate i true).map V.bl))) ⟨same_new hL, upd_same⟩ (fun i H' _ ⟨e, _⟩ => SqL.of (e _ _ hR5)) ?_ ?_⟩
    · rintro i x H6 hi ⟨s6, hL6⟩
      have hi3 : i < 3 := (List.getElem?_eq_some_iff.mp hi).1
      obtain ⟨a', ns', e', h1, h2, h3⟩ := hold H6 x s6 (List.mem_of_getElem? hi)
      refine ⟨rfl, _, rfl, a', ns', e', h1, h2, h3, fun H7 s7 => ⟨_, s7 _ _ hL6, ?_, same_mut (s6.trans s7) hL, ?_⟩⟩
      · rw [List.length_map, List.length_replicate]
        exact line6 (by omega)
      · rw [upd_same, List.replicate_succ', List.map_append]
        rfl
    · rintro H6 ⟨s6, hL6⟩
      refine ⟨L, List.replicate 3 true, rfl, SqL.of hL6, ?_⟩
      refine ⟨true, rfl, iteNT ?_⟩
      clear hL6 hold hL
      have hR6 := s6 _ _ hR5
      have hA6 := s6 _ _ hA5
      have hB6 := s6 _ _ hB5
      have hC6 := s6 _ _ hC5
      refine ⟨_, rfl, R, _, _, _, rfl, rfl, SqL.of hR6, atI_nat (j := 0) rfl, A0, xs, rfl, SqL.of hA6, by omega, fx, fun H7 t1 s7 ht1 => ?_⟩
      refine ⟨_, rfl, R, _, _, _, rfl, rfl, SqL.of (s7 _ _ hR6), atI_nat (j := 2) rfl, C0, zs, rfl, SqL.of (s7 _ _ hC6), by omega, fz, fun H8 t3 s8 ht3 => ?_⟩
      have s68 := s7.trans s8
      refine ⟨_, rfl, _, rfl, R, _, _, _, rfl, rfl, SqL.of (s68 _ _ hR6), atI_nat (j := 1) rfl, B0, ys, rfl, SqL.of (s68 _ _ hB6), by omega, fy, fun H9 t2 s9 ht2 => ⟨t1, t2, xs, ys, rfl, s9 _ _ (s8 _ _ ht1), ht2, fun H10 j1 s10 hj1 => ?_⟩⟩
      have s610 := s68.trans (s9.trans s10)
      have s810 := s9.trans s10
      refine ⟨_, rfl, R, _, _, _, rfl, rfl, SqL.of (s610 _ _ hR6), atI_nat (j := 1) rfl, B0, ys, rfl, SqL.of (s610 _ _ hB6), by omega, fy, fun H11 t4 s11 ht4 => ⟨_, rfl, t4, t3, ys, zs, rfl, ht4, s11 _ _ (s810 _ _ ht3), fun H12 j2 s12 hj2 => ?_⟩⟩
      have s1012 := s11.trans s12
      have s612 := s610.trans s1012
      have hR12 := s612 _ _ hR6
      have hA12 := s612 _ _ hA6
      have hB12 := s612 _ _ hB6
      have hC12 := s612 _ _ hC6
      have hj12 := s1012 _ _ hj1
      have ht112 := s1012 _ _ (s810 _ _ (s8 _ _ ht1))
      have ht312 := s1012 _ _ (s810 _ _ ht3)
      clear s6 s7 s8 s9 s10 s11 s12 s68 s610 s810 s1012 s612
      have fxy := fx.app fy
      have fyz := fy.app fz
      have cat : ∀ (l1 l2 : List Int), l1.map V.int ++ l2.map V.int = (l1 ++ l2).map V.int := fun l1 l2 => List.map_append.symm
      have lxy : (xs ++ ys).length ≤ 120 := by rw [List.length_append]; omega
      have lyz : (ys ++ zs).length ≤ 120 := by rw [List.length_append]; omega
      have lxyz : ((xs ++ ys) ++ zs).length ≤ 180 := by rw [List.length_append]; omega
      refine ⟨_, rfl, _, rfl, R, _, _, _, rfl, rfl, SqL.of hR12, atI_nat (j := 0) rfl, _, rfl, R, _, _, _, rfl, rfl, SqL.of hR12, atI_nat (j := 1) rfl, A0, B0, _, _, rfl, rfl, hA12, hB12, by rw [List.length_map, List.length_map]; exact line5 (by omega), fun L1 hL1 => ?_⟩
      rw [cat]
      have u1 := same_new (o := .lst ((xs ++ ys).map V.int)) hL1
      refine ⟨L1, xs ++ ys, rfl, SqL.of upd_same, by omega, fxy, fun H13 t5 v1 ht5 => ⟨j1, t5, xs ++ ys, rfl, (u1.trans v1) _ _ hj12, ht5, fun H14 w1 => ⟨true, rfl, ?_⟩⟩⟩
      refine iteNT ?_
      have a1 := (u1.trans v1).trans w1
      have hR14 := a1 _ _ hR12
      refine ⟨_, rfl, _, rfl, R, _, _, _, rfl, rfl, SqL.of hR14, atI_nat (j := 1) rfl, _, rfl, R, _, _, _, rfl, rfl, SqL.of hR14, atI_nat (j := 2) rfl, B0, C0, _, _, rfl, rfl, a1 _ _ hB12, a1 _ _ hC12, by rw [List.length_map, List.length_map]; exact line5 (by omega), fun L2 hL2 => ?_⟩
      rw [cat]
      have u2 := same_new (o := .lst ((ys ++ zs).map V.int)) hL2
      have a12 := a1.trans u2
      refine ⟨L2, ys ++ zs, rfl, SqL.of upd_same, by omega, fyz, fun H15 t6 v2 ht6 => ⟨j2, t6, ys ++ zs, rfl, (a12.trans v2) _ _ hj2, ht6, fun H16 w2 => ⟨true, rfl, ?_⟩⟩⟩
      refine iteNT ?_
      have a2 := (a12.trans v2).trans w2
      have hR16 := a2 _ _ hR12
      refine ⟨_, rfl, R, _, _, _, rfl, rfl, SqL.of hR16, atI_nat (j := 0) rfl, _, rfl, R, _, _, _, rfl, rfl, SqL.of hR16, atI_nat (j := 1) rfl, A0, B0, _, _, rfl, rfl, a2 _ _ hA12, a2 _ _ hB12, by rw [List.length_map, List.length_map]; exact line5 (by omega), fun L3 hL3 => ?_⟩
      rw [cat]
      have u3 := same_new (o := .lst ((xs ++ ys).map V.int)) hL3
      have a3 := a2.trans u3
      refine ⟨_, rfl, R, _, _, _, rfl, rfl, SqL.of (a3 _ _ hR12), atI_nat (j := 2) rfl, L3, C0, _, _, rfl, rfl, upd_same, a3 _ _ hC12, by rw [List.length_map, List.length_map]; exact line5 (by omega), fun L4 hL4 => ?_⟩
      rw [cat]
      have u4 := same_new (o := .lst (((xs ++ ys) ++ zs).map V.int)) hL4
      have a4 := a3.trans u4
      refine ⟨L4, (xs ++ ys) ++ zs, rfl, SqL.of upd_same, by omega, fxy.app fz, fun H17 t7 v3 ht7 => ?_⟩
      have a5 := a4.trans v3
      have eas : tal (xs ++ (ys ++ zs)) = tal ((xs ++ ys) ++ zs) := by rw [List.append_assoc]
      refine ⟨_, rfl, _, rfl, j1, t3, xs ++ ys, zs, rfl, a5 _ _ hj12, a5 _ _ ht312, fun H18 j3 v4 hj3 => ⟨_, rfl, j3, t7, (xs ++ ys) ++ zs, rfl, hj3, v4 _ _ ht7, fun H19 w3 => ⟨true, rfl, ?_⟩⟩⟩
      refine iteNT ?_
      have b1 := v4.trans w3
      have a6 := a5.trans b1
      refine ⟨_, rfl, _, rfl, t1, j2, xs, ys ++ zs, rfl, a6 _ _ ht112, a6 _ _ hj2, fun H20 j4 v5 hj4 => ⟨_, rfl, j4, t7, (xs ++ ys) ++ zs, rfl, eas ▸ hj4, v5 _ _ (b1 _ _ ht7), fun H21 w4 => ⟨true, rfl, ?_⟩⟩⟩
      refine iteNT ?_
      have a7 := (a6.trans v5).trans w4
      have hR21 := a7 _ _ hR12
      refine ⟨_, rfl, R, _, _, _, rfl, rfl, SqL.of hR21, atI_nat (j := 0) rfl, _, rfl, R, _, _, _, rfl, rfl, SqL.of hR21, atI_nat (j := 1) rfl, A0, B0, _, _, rfl, rfl, a7 _ _ hA12, a7 _ _ hB12, by rw [List.length_map, List.length_map]; exact line5 (by omega), fun L5 hL5 => ?_⟩
      rw [cat]
      have a8 := a7.trans (same_new (o := .lst ((xs ++ ys).map V.int)) hL5)
      refine ⟨_, rfl, R, _, _, _, rfl, rfl, SqL.of (a8 _ _ hR12), atI_nat (j := 2) rfl, L5, C0, _, _, rfl, rfl, upd_same, a8 _ _ hC12, by rw [List.length_map, List.length_map]; exact line5 (by omega), fun L6 hL6 => ?_⟩
      rw [cat]
      exact ⟨L6, (xs ++ ys) ++ zs, rfl, SqL.of upd_same, by omega, fxy.app fz, fun H' _ => q H'⟩
end
end Mt
namespace Mt
open PySem PySem.Spec PyProof.Rows L2
def dd_make_fraction : He.DefD := ⟨("make_fraction", none), "make_fraction", "make_fraction", defArgs s_make_fraction, defBody s_make_fraction, defScope s_make_fraction, [], []⟩
def dd_difference_of : He.DefD := ⟨("difference_of", none), "difference_of", "difference_of", defArgs s_difference_of, defBody s_difference_of, defScope s_difference_of, [], []⟩
def dd_product_of : He.DefD := ⟨("product_of", none), "product_of", "product_of", defArgs s_product_of, defBody s_product_of, defScope s_product_of, [], []⟩
def dd_tally_of : He.DefD := ⟨("tally_of", none), "tally_of", "tally_of", defArgs s_tally_of, defBody s_tally_of, defScope s_tally_of, [], []⟩
def dd_joined : He.DefD := ⟨("joined", none), "joined", "joined", defArgs s_joined, defBody s_joined, defScope s_joined, [], []⟩
def dd_mean_of : He.DefD := ⟨("mean_of", none), "mean_of", "mean_of", defArgs s_mean_of, defBody s_mean_of, defScope s_mean_of, [], []⟩
def dd_spread_of : He.DefD := ⟨("spread_of", none), "spread_of", "spread_of", defArgs s_spread_of, defBody s_spread_of, defScope s_spread_of, [], []⟩
def dd__law_begin : He.DefD := ⟨("_law_begin", none), "_law_begin", "_law_begin", defArgs s__law_begin, defBody s__law_begin, defScope s__law_begin, [], []⟩
def dd__law_draw : He.DefD := ⟨("_law_draw", none), "_law_draw", "_law_draw", defArgs s__law_draw, defBody s__law_draw, defScope s__law_draw, [], []⟩
def dd__law_rare : He.DefD := ⟨("_law_rare", none), "_law_rare", "_law_rare", defArgs s__law_rare, defBody s__law_rare, defScope s__law_rare, [], []⟩
def dd__law_is_int : He.DefD := ⟨("_law_is_int", none), "_law_is_int", "_law_is_int", defArgs s__law_is_int, defBody s__law_is_int, defScope s__law_is_int, [], []⟩
def dd__law_is_ints : He.DefD := ⟨("_law_is_ints", none), "_law_is_ints", "_law_is_ints", defArgs s__law_is_ints, defBody s__law_is_ints, defScope s__law_is_ints, [], []⟩
def dd__law_frac : He.DefD := ⟨("_law_frac", none), "_law_frac", "_law_frac", defArgs s__law_frac, defBody s__law_frac, defScope s__law_frac, [], []⟩
def dd__law_is_frac : He.DefD := ⟨("_law_is_frac", none), "_law_is_frac", "_law_is_frac", defArgs s__law_is_frac, defBody s__law_is_frac, defScope s__law_is_frac, [], []⟩
def dd__law_figure : He.DefD := ⟨("_law_figure", none), "_law_figure", "_law_figure", defArgs s__law_figure, defBody s__law_figure, defScope s__law_figure, [], []⟩
def dd__law_line : He.DefD := ⟨("_law_line", none), "_law_line", "_law_line", defArgs s__law_line, defBody s__law_line, defScope s__law_line, [], []⟩
def dd__law_tally : He.DefD := ⟨("_law_tally", none), "_law_tally", "_law_tally", defArgs s__law_tally, defBody s__law_tally, defScope s__law_tally, [], []⟩
def dd__law_same : He.DefD := ⟨("_law_same", none), "_law_same", "_law_same", defArgs s__law_same, defBody s__law_same, defScope s__law_same, [], []⟩
def dd__law_means_hold : He.DefD := ⟨("_law_means_hold", none), "_law_means_hold", "_law_means_hold", defArgs s__law_means_hold, defBody s__law_means_hold, defScope s__law_means_hold, [], []⟩
def dd__law_row_holds : He.DefD := ⟨("_law_row_holds", none), "_law_row_holds", "_law_row_holds", defArgs s__law_row_holds, defBody s__law_row_holds, defScope s__law_row_holds, [], []⟩
def dd_law : He.DefD := ⟨("law", none), "law", "law", defArgs s_law, defBody s_law, defScope s_law, [], []⟩
def dds : List He.DefD := [dd_make_fraction, dd_difference_of, dd_product_of, dd_tally_of, dd_joined, dd_mean_of, dd_spread_of, dd__law_begin, dd__law_draw, dd__law_rare, dd__law_is_int, dd__law_is_ints, dd__law_frac, dd__law_is_frac, dd__law_figure, dd__law_line, dd__law_tally, dd__law_same, dd__law_means_hold, dd__law_row_holds, dd_law]
def fas : List He.Fa := [.glo "make_fraction", .glo "difference_of", .glo "product_of", .glo "tally_of", .glo "joined", .glo "mean_of", .glo "spread_of", .glo "_law_begin", .glo "_law_draw", .glo "_law_rare", .glo "_law_is_int", .glo "_law_is_ints", .glo "_law_frac", .glo "_law_is_frac", .glo "_law_figure", .glo "_law_line", .glo "_law_tally", .glo "_law_same", .glo "_law_means_hold", .glo "_law_row_holds", .glo "law", .free "int", .free "abs", .free "len", .free "isinstance", .free "bool", .free "tuple", .free "range", .free "sum", .free "min", .free "max", .free "all"]
def exM (K : PySem.W.Frag) : Bool := He.eqO (PySem.W.nsIn K mainGlobals "gcd") (some (some (.builtin "math.gcd")))
abbrev R : PySem.W.OpenRow := PySem.W.OpenLaw.row PySem.Challenge.rw_meantrace_k32_tallies_joined
abbrev hk : PySem.W.Hook := hookM 4 fas dds exM
def ob (s : PySem.W.SharedT) : AlM := obsM 4 fas dds exM (HandSHeadRun.getT s)
theorem ob_eq (s : PySem.W.SharedT) : ob s = hk.obs s.abs := obsM_eq (HandSHeadRun.getT_eq s)
def names : List PySem.Str := ["make_fraction", "difference_of", "product_of", "tally_of", "joined", "mean_of", "spread_of", "_law_begin", "_law_draw", "_law_rare", "_law_is_int", "_law_is_ints", "_law_frac", "_law_is_frac", "_law_figure", "_law_line", "_law_tally", "_law_same", "_law_means_hold", "_law_row_holds"]
theorem run (w : World) : HandSHeadRun.RunEqI R (PySem.W.view R.prog [0, 24]) hk ob 3000 names w := by
  unfold HandSHeadRun.RunEqI; kernel_rfl
theorem facts {P : Program} {w : World} {K : PySem.W.Frag} {h : Heap} {mg : Str → Option Value} {f : Addr} (X : K.In h) (G : h.Ns mainGlobals mg) (hfa : mg ("law" : Str) = some (.ref f)) (c : SaysM fas dds exM K) :
    ∃ fd : FuncData, (∀ (s : Shared) (v : Value), BindsTo s fd ⟨[v], []⟩ [("script", v)]) ∧ ∀ base : Heap, K.In base → base.Ns mainGlobals mg → FnOk P w K mg base CX0 6 f fd ["script"] (spLaw K) := by
  obtain ⟨fd, F⟩ := c.1.def_ 20 (d := dd_law) rfl
  have e := hfa.symm.trans (He.glo_ok X G (c.1.fact 20 (f := .glo "law") rfl))
  cases e
  have T : Txt K mg := ⟨He.free_ok X G (c.1.fact 21 (f := .free "int") rfl), He.free_ok X G (c.1.fact 22 (f := .free "abs") rfl), He.free_ok X G (c.1.fact 23 (f := .free "len") rfl), He.free_ok X G (c.1.fact 24 (f := .free "isinstance") rfl), He.free_ok X G (c.1.fact 25 (f := .free "bool") rfl), He.free_ok X G (c.1.fact 26 (f := .free "tuple") rfl), He.free_ok X G (c.1.fact 27 (f := .free "range") rfl), He.free_ok X G (c.1.fact 28 (f := .free "sum") rfl), He.free_ok X G (c.1.fact 29 (f := .free "min") rfl), He.free_ok X G (c.1.fact 30 (f := .free "max") rfl), He.free_ok X G (c.1.fact 31 (f := .free "all") rfl), PySem.W.mg_of X G (He.eqO_ok c.2)⟩
  have b := FunD.bindsA (ps := ["script"]) F fun _ _ _ _ _ _ us hl => match us, hl with | [_], _ => rfl
  refine ⟨fd, fun s v => b s [v] rfl, fun base _ _ => ?_⟩
  have D_make_fraction : Kept P w K mg base 1 "make_fraction" ["n", "d"] spFrac := kept_of (st := s_make_fraction) X G (c.1.def_ 0 (d := dd_make_fraction) rfl) (c.1.fact 0 (f := .glo "make_fraction") rfl) (fun _ _ _ _ _ _ us hl => match us, hl with | [_, _], _ => rfl) (fun f fd F => ok_make_fraction T F)
  have D_tally_of : Kept P w K mg base 1 "tally_of" ["values"] (spTally K) := kept_of (st := s_tally_of) X G (c.1.def_ 3 (d := dd_tally_of) rfl) (c.1.fact 3 (f := .glo "tally_of") rfl) (fun _ _ _ _ _ _ us hl => match us, hl with | [_], _ => rfl) (fun f fd F => ok_tally_of T F)
  have D_joined : Kept P w K mg base 1 "joined" ["tally", "other"] (spJoin K) := kept_of (st := s_joined) X G (c.1.def_ 4 (d := dd_joined) rfl) (c.1.fact 4 (f := .glo "joined") rfl) (fun _ _ _ _ _ _ us hl => match us, hl with | [_, _], _ => rfl) (fun f fd F => ok_joined T F)
  have D__law_begin : Kept P w K mg base 1 "_law_begin" ["script"] (spBegin K) := kept_of (st := s__law_begin) X G (c.1.def_ 7 (d := dd__law_begin) rfl) (c.1.fact 7 (f := .glo "_law_begin") rfl) (fun _ _ _ _ _ _ us hl => match us, hl with | [_], _ => rfl) (fun f fd F => ok__law_begin T F)
  have D__law_draw : Kept P w K mg base 1 "_law_draw" ["d", "many"] spDraw := kept_of (st := s__law_draw) X G (c.1.def_ 8 (d := dd__law_draw) rfl) (c.1.fact 8 (f := .glo "_law_draw") rfl) (fun _ _ _ _ _ _ us hl => match us, hl with | [_, _], _ => rfl) (fun f fd F => ok__law_draw T F)
  have D__law_is_int : Kept P w K mg base 1 "_law_is_int" ["thing"] spIsInt := kept_of (st := s__law_is_int) X G (c.1.def_ 10 (d := dd__law_is_int) rfl) (c.1.fact 10 (f := .glo "_law_is_int") rfl) (fun _ _ _ _ _ _ us hl => match us, hl with | [_], _ => rfl) (fun f fd F => ok__law_is_int T F)
  have D__law_frac : Kept P w K mg base 1 "_law_frac" ["n", "d"] spFrac := kept_of (st := s__law_frac) X G (c.1.def_ 12 (d := dd__law_frac) rfl) (c.1.fact 12 (f := .glo "_law_frac") rfl) (fun _ _ _ _ _ _ us hl => match us, hl with | [_, _], _ => rfl) (fun f fd F => ok__law_frac T F)
  have D__law_tally : Kept P w K mg base 1 "_law_tally" ["row"] (spLTally K) := kept_of (st := s__law_tally) X G (c.1.def_ 16 (d := dd__law_tally) rfl) (c.1.fact 16 (f := .glo "_law_tally") rfl) (fun _ _ _ _ _ _ us hl => match us, hl with | [_], _ => rfl) (fun f fd F => ok__law_tally T F)
  have D_difference_of : Kept P w K mg base 2 "difference_of" ["a", "b"] (spBin K sub2) := kept_of (st := s_difference_of) X G (c.1.def_ 1 (d := dd_difference_of) rfl) (c.1.fact 1 (f := .glo "difference_of") rfl) (fun _ _ _ _ _ _ us hl => match us, hl with | [_, _], _ => rfl) (fun f fd F => ok_difference_of T D_make_fraction F)
  have D_product_of : Kept P w K mg base 2 "product_of" ["a", "b"] (spBin K mul2) := kept_of (st := s_product_of) X G (c.1.def_ 2 (d := dd_product_of) rfl) (c.1.fact 2 (f := .glo "product_of") rfl) (fun _ _ _ _ _ _ us hl => match us, hl with | [_, _], _ => rfl) (fun f fd F => ok_product_of T D_make_fraction F)
  have D_mean_of : Kept P w K mg base 2 "mean_of" ["tally"] (spMean K) := kept_of (st := s_mean_of) X G (c.1.def_ 5 (d := dd_mean_of) rfl) (c.1.fact 5 (f := .glo "mean_of") rfl) (fun _ _ _ _ _ _ us hl => match us, hl with | [_], _ => rfl) (fun f fd F => ok_mean_of T D_make_fraction F)
  have D__law_rare : Kept P w K mg base 2 "_law_rare" ["d", "many"] spRare := kept_of (st := s__law_rare) X G (c.1.def_ 9 (d := dd__law_rare) rfl) (c.1.fact 9 (f := .glo "_law_rare") rfl) (fun _ _ _ _ _ _ us hl => match us, hl with | [_, _], _ => rfl) (fun f fd F => ok__law_rare T D__law_draw F)
  have D__law_is_ints : Kept P w K mg base 2 "_law_is_ints" ["row"] (spIsInts K) := kept_of (st := s__law_is_ints) X G (c.1.def_ 11 (d := dd__law_is_ints) rfl) (c.1.fact 11 (f := .glo "_law_is_ints") rfl) (fun _ _ _ _ _ _ us hl => match us, hl with | [_], _ => rfl) (fun f fd F => ok__law_is_ints T D__law_is_int F)
  have D__law_figure : Kept P w K mg base 2 "_law_figure" ["d", "kind"] spFigure := kept_of (st := s__law_figure) X G (c.1.def_ 14 (d := dd__law_figure) rfl) (c.1.fact 14 (f := .glo "_law_figure") rfl) (fun _ _ _ _ _ _ us hl => match us, hl with | [_, _], _ => rfl) (fun f fd F => ok__law_figure T D__law_draw F)
  have D__law_same : Kept P w K mg base 2 "_law_same" ["told", "due"] (spSame K) := kept_of (st := s__law_same) X G (c.1.def_ 17 (d := dd__law_same) rfl) (c.1.fact 17 (f := .glo "_law_same") rfl) (fun _ _ _ _ _ _ us hl => match us, hl with | [_, _], _ => rfl) (fun f fd F => ok__law_same T D__law_is_int F)
  have D_spread_of : Kept P w K mg base 3 "spread_of" ["tally"] (spSpread K) := kept_of (st := s_spread_of) X G (c.1.def_ 6 (d := dd_spread_of) rfl) (c.1.fact 6 (f := .glo "spread_of") rfl) (fun _ _ _ _ _ _ us hl => match us, hl with | [_], _ => rfl) (fun f fd F => ok_spread_of T D_make_fraction D_difference_of D_product_of D_mean_of F)
  have D__law_is_frac : Kept P w K mg base 3 "_law_is_frac" ["thing"] (spIsFrac K) := kept_of (st := s__law_is_frac) X G (c.1.def_ 13 (d := dd__law_is_frac) rfl) (c.1.fact 13 (f := .glo "_law_is_frac") rfl) (fun _ _ _ _ _ _ us hl => match us, hl with | [_], _ => rfl) (fun f fd F => ok__law_is_frac T D__law_is_ints D__law_frac F)
  have D__law_line : Kept P w K mg base 3 "_law_line" ["d"] spLine := kept_of (st := s__law_line) X G (c.1.def_ 15 (d := dd__law_line) rfl) (c.1.fact 15 (f := .glo "_law_line") rfl) (fun _ _ _ _ _ _ us hl => match us, hl with | [_], _ => rfl) (fun f fd F => ok__law_line T D__law_draw D__law_rare D__law_figure F)
  have D__law_means_hold : Kept P w K mg base 4 "_law_means_hold" ["row"] (spHolds K) := kept_of (st := s__law_means_hold) X G (c.1.def_ 18 (d := dd__law_means_hold) rfl) (c.1.fact 18 (f := .glo "_law_means_hold") rfl) (fun _ _ _ _ _ _ us hl => match us, hl with | [_], _ => rfl) (fun f fd F => ok__law_means_hold T D_mean_of D_spread_of D__law_frac D__law_is_frac D__law_tally F)
  have D__law_row_holds : Kept P w K mg base 5 "_law_row_holds" ["row"] (spHolds K) := kept_of (st := s__law_row_holds) X G (c.1.def_ 19 (d := dd__law_row_holds) rfl) (c.1.fact 19 (f := .glo "_law_row_holds") rfl) (fun _ _ _ _ _ _ us hl => match us, hl with | [_], _ => rfl) (fun f fd F => ok__law_row_holds T D_tally_of D_joined D__law_tally D__law_same D__law_means_hold F)
  exact ok_law T D_joined D__law_begin D__law_line D__law_tally D__law_same D__law_means_hold D__law_row_holds F
end Mt
open PySem PySem.W PySem.Calls PyProof.Rows
set_option maxHeartbeats 0 in
theorem PySem.Challenge.cw_meantrace_k32_tallies_joined_holds : PySem.Challenge.rw_meantrace_k32_tallies_joined.Holds := by
  w_on; o_law
  refine HandSHeadRun.head_imp (r := OpenLaw.row PySem.Challenge.rw_meantrace_k32_tallies_joined) (q := view (OpenLaw.row PySem.Challenge.rw_meantrace_k32_tallies_joined).prog [0, 24]) (H := Mt.hk) (ob := Mt.ob) (M := 3000) (loose := Mt.names) (d := HandSHeadRun.topDef (OpenLaw.row PySem.Challenge.rw_meantrace_k32_tallies_joined).prog 24) (kwd := []) Mt.ob_eq
     Mt.run (by kernel_rfl) (by kernel_rfl) (by kernel_rfl) (by rfl) (by first | assumption | decide +kernel) (by decide +kernel) ⟨rfl, rfl, rfl, rfl, rfl, by decide +kernel⟩ ?hw ?hc
  case hw => w_witness2
  case hc =>
    refine L2.walk_ofE (l := PySem.Challenge.rw_meantrace_k32_tallies_joined) (n := 63) (k := 6) (x := "script") (CX := L2.CX0) rfl (by decide) (by kernel_rfl) ⟨rfl, by decide, by decide⟩ ?F (fun _ _ _ _ z => z)
    intro w mg fa h Y G hmg0
    obtain ⟨K, KX, c⟩ := Y
    have hmg : mg ("law" : PySem.Str) = some (.ref fa) := by
      have e : (HandSHeadRun.topDef (OpenLaw.row PySem.Challenge.rw_meantrace_k32_tallies_joined).prog 24).name = ("law" : PySem.Str) := by kernel_rfl
      rw [← e]
      exact hmg0
    obtain ⟨fd, hb, hF⟩ := Mt.facts (P := (PySem.Challenge.rw_meantrace_k32_tallies_joined).prog) (w := w) KX G hmg c
    exact ⟨K, fd, Mt.spLaw K, KX, hb, fun H a ns hl hO hS => ⟨a, ns, rfl, hS, hl, fun _ => rfl⟩, hF⟩
