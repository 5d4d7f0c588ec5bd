import PyProof.Rows.All
import Wide.All
import OpenK.AllK
import Wide.FinOn
import KE.KStateDown
import HandS.ForMost
import HandS.Wide
import HandS.IsInst
import HandS.Walk
import HandS.Style
import HandS.Evl
import HandS.StrMore
import HandS.Exc
import HandS.WordsExc
import HandS.Defaults
import HandS.Head0
import HandS.Head1
import HandS.Head2
import HandS.HeadEnd
import HandS.HeadHook1
import HandS.HeadHook2
import HandS.Gcd
import HandS.Head3
import PySem.Challenge.RW_meantrace_k01_shares_reckoned
set_option Elab.async false
set_option linter.all false
set_option maxRecDepth 100000
/-! Our own words over the hand layer: defs of the top by name, the draws' state, heaps that go on. -/
namespace Mt
open PySem PySem.Spec PyProof.Rows L2
section
variable {P : Program} {w : World} {K : PySem.W.Frag} {mg : Str → Option Value} {base : Heap}
abbrev FnP (K : PySem.W.Frag) (x : Str) (st : Stmt) (f : Addr) (fd : FuncData) : Prop := FunD K x x (defArgs st) (defBody st) (defScope st) [] [] f fd
/-- a def that keeps its promise -/
def Kept (P : Program) (w : World) (K : PySem.W.Frag) (mg : Str → Option Value) (base : Heap) (k : Nat) (x : Str) (ps : List Str) (sp : Sp) : Prop :=
  ∃ f fd, FnOk P w K mg base CX0 k f fd ps sp ∧ mg x = some (.ref f) ∧ PySem.W.keepIn K (.ref f) = true ∧ Binds K fd ps []
/-- what the head tells: facts by names, defs, one more word of one's own -/
abbrev AlM : Type := He.AlD × Bool
def obsM (n : Nat) (fa : List He.Fa) (fn : List He.DefD) (ex : PySem.W.Frag → Bool) (g : Addr → Option Obj) : AlM := (He.obsDG n fa fn g, ex (He.frG g (He.asD g n)))
def SaysM (fa : List He.Fa) (fn : List He.DefD) (ex : PySem.W.Frag → Bool) (K : PySem.W.Frag) : Prop := He.SaysD fa fn K ∧ ex K = true
def hookM (n : Nat) (fa : List He.Fa) (fn : List He.DefD) (ex : PySem.W.Frag → Bool) : PySem.W.Hook where
  α := AlM
  obs := fun s => obsM n fa fn ex s.heap.get?
  val := fun _ => (He.valD fn, true)
  says := fun _ h => ∃ K : PySem.W.Frag, K.In h ∧ SaysM fa fn ex K
  of := fun _ _ e => ⟨_, He.frG_in, congrArg (fun z : AlM => z.1) e, congrArg (fun z : AlM => z.2) e⟩
  keeps := fun _ _ _ ⟨K, hK, c⟩ k => ⟨K, PySem.W.Frag.In.keeps hK k, c⟩
theorem obsM_eq {n : Nat} {fa : List He.Fa} {fn : List He.DefD} {ex : PySem.W.Frag → Bool} {g : Addr → Option Obj} {s : Shared} (h : ∀ a, g a = s.heap.get? a) : obsM n fa fn ex g = (hookM n fa fn ex).obs s := by
  have e : g = s.heap.get? := funext h
  rw [e] <;> rfl
theorem kept_of {h : Heap} (X : K.In h) (G : h.Ns mainGlobals mg) {x : Str} {ps : List Str} {st : Stmt} {k : Nat} {sp : Sp}
    (hd : ∃ fd, FnP K x st (He.ga K x) fd) (hg : (He.Fa.glo x).ok K = true)
    (hb : ∀ (kV doc pm : Value) (an : Option Addr) (cdv ct : Value) (us : List Value), us.length = ps.length → bindArgs (PySem.W.fnOf x x (defArgs st) (defBody st) (defScope st) .none kV doc pm an cdv ct) ⟨us, []⟩ = pure (ps.zip us))
    (ok : ∀ f fd, FnP K x st f fd → FnOk P w K mg base CX0 k f fd ps sp) : Kept P w K mg base k x ps sp := by
  obtain ⟨fd, F⟩ := hd
  exact ⟨_, fd, ok _ fd F, He.glo_ok X G hg, F.kp, F.bindsN hb⟩
end
section
variable {X : Cx}
theorem pe_d {k : Nat} {x : Str} {ps : List Str} {sp : Sp} {e : Expr} {es : List Expr} {t : TA} {p pos : Pos} (D : Kept X.prog X.w X.K X.mg X.base k x ps sp) (hr : Room k X.A) (hg : Gl X x) (ha : PA X (e :: es) t)
    (hdb : (x == ("__debug__" : Str)) = false := by decide) (he : starEach (e :: es) X.env = (false, eval e X.env) :: starEach es X.env := by rfl) (hpl : (backTo pos (starEach es X.env)).any (·.1) = false := by rfl) :
    PE X (.Call (.Name x p) (e :: es) [] pos) (tCall sp [] E0 t) := by
  obtain ⟨f, fd, F, g, kp, b⟩ := D
  exact pe_call F hr hg g kp b .nil pass0 ha hdb he hpl
theorem pe_d0 {k : Nat} {x : Str} {ps : List Str} {sp : Sp} {p pos : Pos} (D : Kept X.prog X.w X.K X.mg X.base k x ps sp) (hr : Room k X.A) (hg : Gl X x) (hdb : (x == ("__debug__" : Str)) = false := by decide) :
    PE X (.Call (.Name x p) [] [] pos) (tCall sp [] E0 tNil) := by
  obtain ⟨f, fd, F, g, kp, b⟩ := D
  exact pe_call0 F hr hg g kp b .nil pass0 hdb
/-- a text of the module; an object of the module -/
theorem pe_gs {x z : Str} {pos : Pos} (h : ∃ t, X.mg x = some (.str z t)) (hg : Gl X x) (hd : (x == ("__debug__" : Str)) = false := by decide) : PE X (.Name x pos) (tC (.str z)) := by
  obtain ⟨t, h⟩ := h
  exact pe_glob hg h ⟨_, rfl⟩ hd
/-- xs[i] op= e reads xs[i] -/
theorem get_list : PGet X (rIxL X.K) := by
  intro pins s σ H o i ov iv Q I ro ri h
  obtain ⟨p, xs, i, z, rfl, rfl, hq, he, q⟩ := h
  cases ro
  obtain ⟨t, rfl⟩ := ri
  obtain ⟨its, r, pl, hz⟩ := I.list hq
  obtain ⟨j, h1, h2, h3, h4, h5⟩ := atI_get he
  obtain ⟨w, ew, rw'⟩ := r.get h2
  have hl := r.length
  have hn := line63
  have fin : EP X pins σ Q w s := ⟨z, H, I, rw', q⟩
  by_cases h0 : 0 ≤ i
  · have hj : i.toNat = j := by
      rw [seqIndex_of h0 h5] at h1
      exact Option.some.inj h1
    exact wpAny_mono (wpAny_getItem_list (Q := fun r s' => r = w ∧ EP X pins σ Q r s') pl.isList h0 (by omega) (by rw [hj]; simpa using ew) ⟨rfl, fin⟩) (fun _ _ q => q.2) (fun _ _ q => q)
  · have hj : (i + (its.toArray.size : Int)).toNat = j := by
      rw [seqIndex_neg (by omega) h4] at h1
      rw [List.size_toArray, ← hl]
      exact Option.some.inj h1
    exact wpAny_mono (wpAny_getItem_list_neg (Q := fun r s' => r = w ∧ EP X pins σ Q r s') pl.isList (by omega) (by rw [List.size_toArray] <;> omega) (by omega) (by rw [hj]; simpa using ew) ⟨rfl, fin⟩) (fun _ _ q => q.2) (fun _ _ q => q)
end

/-! ### the draws: [cells, place, rest, seed] at D -/
structure DrawAt (S D : Addr) (H : Hp) : Prop where
  ne : S ≠ D
  cells : ∃ cs : List Int, H S = some (.lst (cs.map V.int))
  at_ : ∃ i r c : Int, 0 ≤ i ∧ H D = some (.lst [.ref S, .int i, .int r, .int c])
/-- all else that is tracked stays -/
def Keep (D : Addr) (H H' : Hp) : Prop := ∀ b o, H b = some o → b ≠ D → H' b = some o
def Go (S D : Addr) (H H' : Hp) : Prop := DrawAt S D H' ∧ Keep D H H'
theorem Keep.refl {D : Addr} {H : Hp} : Keep D H H := fun _ _ h _ => h
theorem Keep.trans {D : Addr} {H H1 H2 : Hp} (a : Keep D H H1) (b : Keep D H1 H2) : Keep D H H2 := fun x o h n => b x o (a x o h n) n
theorem Go.trans {S D : Addr} {H H1 H2 : Hp} (a : Go S D H H1) (b : Go S D H1 H2) : Go S D H H2 := ⟨b.1, a.2.trans b.2⟩
theorem Keep.set {D : Addr} {H H' : Hp} {o : HO} (k : Keep D H H') : Keep D H (upd H' D o) := fun b u h n => by
  rw [upd_ne n]
  exact k b u h n
theorem DrawAt.set {S D : Addr} {H : Hp} (d : DrawAt S D H) {i r c : Int} (h : 0 ≤ i) : DrawAt S D (upd H D (.lst [.ref S, .int i, .int r, .int c])) :=
  ⟨d.ne, d.cells.imp fun cs h => by rw [upd_ne d.ne]; exact h, ⟨i, r, c, h, upd_same⟩⟩
theorem DrawAt.new {S D p : Addr} {H : Hp} {o : HO} (d : DrawAt S D H) (h : H p = none) : DrawAt S D (upd H p o) := by
  obtain ⟨cs, h1⟩ := d.cells
  obtain ⟨i, r, c, h0, h2⟩ := d.at_
  exact ⟨d.ne, ⟨cs, by rw [upd_ne (ne_of_none h1 h)]; exact h1⟩, ⟨i, r, c, h0, by rw [upd_ne (ne_of_none h2 h)]; exact h2⟩⟩
theorem Keep.new {D p : Addr} {H : Hp} {o : HO} (h : H p = none) : Keep D H (upd H p o) := fun b u e _ => by
  rw [upd_ne (ne_of_none e h)]
  exact e
theorem Go.new {S D p : Addr} {H : Hp} {o : HO} (d : DrawAt S D H) (h : H p = none) : Go S D H (upd H p o) := ⟨d.new h, Keep.new h⟩
theorem Go.same {S D : Addr} {H H' : Hp} (d : DrawAt S D H) (h : Same H H') : Go S D H H' := by
  obtain ⟨cs, h1⟩ := d.cells
  obtain ⟨i, r, c, h0, h2⟩ := d.at_
  exact ⟨⟨d.ne, ⟨cs, h _ _ h1⟩, ⟨i, r, c, h0, h _ _ h2⟩⟩, fun b o e _ => h b o e⟩
theorem Go.refl {S D : Addr} {H : Hp} (d : DrawAt S D H) : Go S D H H := ⟨d, Keep.refl⟩
/-- a fresh place stays fresh when looked at from behind -/
theorem DrawAt.free {S D p : Addr} {H : Hp} (d : DrawAt S D H) (h : H p = none) : p ≠ D ∧ p ≠ S := by
  obtain ⟨cs, h1⟩ := d.cells
  obtain ⟨i, r, c, h0, h2⟩ := d.at_
  exact ⟨(ne_of_none h2 h).symm, (ne_of_none h1 h).symm⟩
theorem Go.free {S D p : Addr} {H H' : Hp} (g : Go S D H H') (d : DrawAt S D H) (h : H' p = none) : H p = none := by
  cases q : H p with
  | none => rfl
  | some o =>
    by_cases e : p = D
    · exact absurd e (g.1.free h).1
    · rw [g.2 p o q e] at h
      cases h
def spDraw : Sp := fun vs H Q _ => ∃ (S D : Addr) (many : Int), vs = [.ref D, .int many] ∧ CDivW 0 many ∧ DrawAt S D H ∧ ∀ H' v, 0 ≤ v → v < many → Go S D H H' → Q (.int v) H'
end Mt
namespace Mt
open PySem PySem.Spec PyProof.Rows L2
def topS (i : Nat) : Stmt := PySem.Challenge.pw_meantrace_k01_shares_reckoned.main.body.getD i (.Pass ⟨0, 0, 0, 0⟩)
abbrev s_make_fraction : Stmt := topS 2
abbrev N_make_fraction : List Str := ["n", "d", "common"]
theorem sc_make_fraction : FnScope N_make_fraction ["n", "d"] (defScope s_make_fraction) := ⟨rfl, rfl, rfl, by decide +kernel, rfl, by decide +kernel, by decide +kernel⟩
abbrev s_sum_of : Stmt := topS 3
abbrev N_sum_of : List Str := ["a", "b"]
theorem sc_sum_of : FnScope N_sum_of ["a", "b"] (defScope s_sum_of) := ⟨rfl, rfl, rfl, by decide +kernel, rfl, by decide +kernel, by decide +kernel⟩
abbrev s_difference_of : Stmt := topS 4
abbrev N_difference_of : List Str := ["a", "b"]
theorem sc_difference_of : FnScope N_difference_of ["a", "b"] (defScope s_difference_of) := ⟨rfl, rfl, rfl, by decide +kernel, rfl, by decide +kernel, by decide +kernel⟩
abbrev s_product_of : Stmt := topS 5
abbrev N_product_of : List Str := ["a", "b"]
theorem sc_product_of : FnScope N_product_of ["a", "b"] (defScope s_product_of) := ⟨rfl, rfl, rfl, by decide +kernel, rfl, by decide +kernel, by decide +kernel⟩
abbrev s_quotient_of : Stmt := topS 6
abbrev N_quotient_of : List Str := ["a", "b"]
theorem sc_quotient_of : FnScope N_quotient_of ["a", "b"] (defScope s_quotient_of) := ⟨rfl, rfl, rfl, by decide +kernel, rfl, by decide +kernel, by decide +kernel⟩
abbrev s_total_of : Stmt := topS 7
abbrev N_total_of : List Str := ["fractions", "total", "fraction"]
theorem sc_total_of : FnScope N_total_of ["fractions"] (defScope s_total_of) := ⟨rfl, rfl, rfl, by decide +kernel, rfl, by decide +kernel, by decide +kernel⟩
abbrev s_is_less : Stmt := topS 8
abbrev N_is_less : List Str := ["a", "b"]
theorem sc_is_less : FnScope N_is_less ["a", "b"] (defScope s_is_less) := ⟨rfl, rfl, rfl, by decide +kernel, rfl, by decide +kernel, by decide +kernel⟩
abbrev s__law_begin : Stmt := topS 10
abbrev N__law_begin : List Str := ["script", "cell"]
theorem sc__law_begin : FnScope N__law_begin ["script"] (defScope s__law_begin) := ⟨rfl, rfl, rfl, by decide +kernel, rfl, by decide +kernel, by decide +kernel⟩
abbrev s__law_draw : Stmt := topS 11
abbrev N__law_draw : List Str := ["d", "many", "found", "size", "cell"]
theorem sc__law_draw : FnScope N__law_draw ["d", "many"] (defScope s__law_draw) := ⟨rfl, rfl, rfl, by decide +kernel, rfl, by decide +kernel, by decide +kernel⟩
abbrev s__law_pick : Stmt := topS 12
abbrev N__law_pick : List Str := ["d", "row"]
theorem sc__law_pick : FnScope N__law_pick ["d", "row"] (defScope s__law_pick) := ⟨rfl, rfl, rfl, by decide +kernel, rfl, by decide +kernel, by decide +kernel⟩
abbrev s__law_is_int : Stmt := topS 13
abbrev N__law_is_int : List Str := ["thing"]
theorem sc__law_is_int : FnScope N__law_is_int ["thing"] (defScope s__law_is_int) := ⟨rfl, rfl, rfl, by decide +kernel, rfl, by decide +kernel, by decide +kernel⟩
abbrev s__law_is_ints : Stmt := topS 14
abbrev N__law_is_ints : List Str := ["row", "part"]
theorem sc__law_is_ints : FnScope N__law_is_ints ["row"] (defScope s__law_is_ints) := ⟨rfl, rfl, rfl, by decide +kernel, rfl, by decide +kernel, by decide +kernel⟩
abbrev s__law_frac : Stmt := topS 15
abbrev N__law_frac : List Str := ["n", "d", "a", "b", "rest"]
theorem sc__law_frac : FnScope N__law_frac ["n", "d"] (defScope s__law_frac) := ⟨rfl, rfl, rfl, by decide +kernel, rfl, by decide +kernel, by decide +kernel⟩
abbrev s__law_plus : Stmt := topS 16
abbrev N__law_plus : List Str := ["a", "b"]
theorem sc__law_plus : FnScope N__law_plus ["a", "b"] (defScope s__law_plus) := ⟨rfl, rfl, rfl, by decide +kernel, rfl, by decide +kernel, by decide +kernel⟩
abbrev s__law_minus : Stmt := topS 17
abbrev N__law_minus : List Str := ["a", "b"]
theorem sc__law_minus : FnScope N__law_minus ["a", "b"] (defScope s__law_minus) := ⟨rfl, rfl, rfl, by decide +kernel, rfl, by decide +kernel, by decide +kernel⟩
abbrev s__law_times : Stmt := topS 18
abbrev N__law_times : List Str := ["a", "b"]
theorem sc__law_times : FnScope N__law_times ["a", "b"] (defScope s__law_times) := ⟨rfl, rfl, rfl, by decide +kernel, rfl, by decide +kernel, by decide +kernel⟩
abbrev s__law_div : Stmt := topS 19
abbrev N__law_div : List Str := ["a", "b"]
theorem sc__law_div : FnScope N__law_div ["a", "b"] (defScope s__law_div) := ⟨rfl, rfl, rfl, by decide +kernel, rfl, by decide +kernel, by decide +kernel⟩
abbrev s__law_less : Stmt := topS 20
abbrev N__law_less : List Str := ["a", "b"]
theorem sc__law_less : FnScope N__law_less ["a", "b"] (defScope s__law_less) := ⟨rfl, rfl, rfl, by decide +kernel, rfl, by decide +kernel, by decide +kernel⟩
abbrev s__law_sum : Stmt := topS 21
abbrev N__law_sum : List Str := ["row", "found", "part"]
theorem sc__law_sum : FnScope N__law_sum ["row"] (defScope s__law_sum) := ⟨rfl, rfl, rfl, by decide +kernel, rfl, by decide +kernel, by decide +kernel⟩
abbrev s__law_is_frac : Stmt := topS 22
abbrev N__law_is_frac : List Str := ["thing"]
theorem sc__law_is_frac : FnScope N__law_is_frac ["thing"] (defScope s__law_is_frac) := ⟨rfl, rfl, rfl, by decide +kernel, rfl, by decide +kernel, by decide +kernel⟩
abbrev s__law_number_of : Stmt := topS 23
abbrev N__law_number_of : List Str := ["d", "size"]
theorem sc__law_number_of : FnScope N__law_number_of ["d"] (defScope s__law_number_of) := ⟨rfl, rfl, rfl, by decide +kernel, rfl, by decide +kernel, by decide +kernel⟩
abbrev s__law_pair : Stmt := topS 24
abbrev N__law_pair : List Str := ["d", "n", "bottom", "factor"]
theorem sc__law_pair : FnScope N__law_pair ["d"] (defScope s__law_pair) := ⟨rfl, rfl, rfl, by decide +kernel, rfl, by decide +kernel, by decide +kernel⟩
abbrev s_law : Stmt := topS 25
abbrev N_law : List Str := ["script", "d", "pairs", "k", "told", "n", "bottom", "due", "part", "a", "b", "answers", "wanted", "row", "total"]
theorem sc_law : FnScope N_law ["script"] (defScope s_law) := ⟨rfl, rfl, rfl, by decide +kernel, rfl, by decide +kernel, by decide +kernel⟩
structure Txt (K : PySem.W.Frag) (mg : Str → Option Value) : Prop where
  b_int : mg "int" = none
  b_len : mg "len" = none
  b_abs : mg "abs" = none
  b_all : mg "all" = none
  b_isinstance : mg "isinstance" = none
  b_bool : mg "bool" = none
  b_range : mg "range" = none
  b_tuple : mg "tuple" = none
  f_gcd : mg "gcd" = some (.builtin "math.gcd")
theorem upd_upd {H : Hp} {p : Addr} {a b : HO} : upd (upd H p a) p b = upd H p b := by
  funext x
  unfold upd
  split <;> rfl
theorem take_map_succ {α β : Type} {f : α → β} {l : List α} {i : Nat} {c : α} (h : l[i]? = some c) : (l.take i).map f ++ [f c] = (l.take (i + 1)).map f := by
  rw [List.take_add_one, h, List.map_append]
  rfl
theorem divW_of {n : Int} (h : 0 < n) (h2 : n < 2 ^ 64) : CDivW 0 n := wide_div h (b := 64) (by omega) (by decide) (by decide)
theorem getV {ns : List Int} {i : Nat} {x : V} (h : (ns.map V.int)[i]? = some x) : ∃ z, x = .int z ∧ ns[i]? = some z := by
  rw [List.getElem?_map] at h
  cases e : ns[i]? with
  | none =>
    rw [e] at h
    cases h
  | some z =>
    rw [e] at h
    exact ⟨z, (Option.some.inj h).symm, rfl⟩
def spBegin (K : PySem.W.Frag) : Sp := fun vs H Q _ => ∃ (a : Addr) (ns : List Int), vs = [.ref a] ∧ SqL K H a (ns.map V.int) ∧ ns.length ≤ 63 ∧ ∀ S D H', Same H H' → H D = none → DrawAt S D H' → Q (.ref D) H'
/-- a text or a list, what it holds -/
def Row (K : PySem.W.Frag) (H : Hp) (v : V) (xs : List V) : Prop := (∃ z : Str, v = .str z ∧ xs = z.cps.toList.map fun c => .str ⟨#[c]⟩) ∨ ∃ p, v = .ref p ∧ SqL K H p xs
def spPick (K : PySem.W.Frag) : Sp := fun vs H Q _ => ∃ (S D : Addr) (r : V) (xs : List V), vs = [.ref D, r] ∧ DrawAt S D H ∧ (∀ H', Go S D H H' → Row K H' r xs) ∧ 0 < xs.length ∧ xs.length ≤ 100000 ∧ ∀ H' x, x ∈ xs → Go S D H H' → Q x H'

/-! ### fractions -/
abbrev F2 : Type := Int × Int
def gg (n d : Int) : Nat := Nat.gcd n.natAbs d.natAbs
def fr (n d : Int) : F2 := ((if d < 0 then -n else n) / (gg n d : Int), (if d < 0 then -d else d) / (gg n d : Int))
def add2 (a b : F2) : Int × Int := (a.1 * b.2 + b.1 * a.2, a.2 * b.2)
def sub2 (a b : F2) : Int × Int := (a.1 * b.2 - b.1 * a.2, a.2 * b.2)
def mul2 (a b : F2) : Int × Int := (a.1 * b.1, a.2 * b.2)
def div2 (a b : F2) : Int × Int := (a.1 * b.2, a.2 * b.1)
def frp (x : Int × Int) : F2 := fr x.1 x.2
theorem gg_pos {n d : Int} (h : d ≠ 0) : 0 < gg n d := Nat.gcd_pos_of_pos_right _ (Int.natAbs_pos.mpr h)
theorem gg_le {n d : Int} (h : d ≠ 0) : gg n d ≤ d.natAbs := Nat.gcd_le_right _ (Int.natAbs_pos.mpr h)
/-- in lowest terms, the second at least 1 -/
structure Low (x : F2) : Prop where
  pos : 1 ≤ x.2
  co : Nat.gcd x.1.natAbs x.2.natAbs = 1
theorem fr_low {n d : Int} (h : d ≠ 0) : Low (fr n d) := by
  have g0 := gg_pos (n := n) h
  have gd1 : (gg n d : Int) ∣ d := Int.ofNat_dvd_left.mpr (Nat.gcd_dvd_right _ _)
  have gn1 : (gg n d : Int) ∣ n := Int.ofNat_dvd_left.mpr (Nat.gcd_dvd_left _ _)
  have key : ∀ a b : Int, a.natAbs = n.natAbs → b.natAbs = d.natAbs → 0 < b → Low (a / (gg n d : Int), b / (gg n d : Int)) := fun a b ha hb hp => by
    have g1 : (gg n d : Int) ∣ b := Int.ofNat_dvd_left.mpr (by rw [hb]; exact Nat.gcd_dvd_right _ _)
    have g2 : (gg n d : Int) ∣ a := Int.ofNat_dvd_left.mpr (by rw [ha]; exact Nat.gcd_dvd_left _ _)
    refine ⟨?_, ?_⟩
    · have := Int.ediv_pos_of_pos_of_dvd hp (by omega) g1
      show 1 ≤ b / (gg n d : Int)
      omega
    · show Nat.gcd (a / (gg n d : Int)).natAbs (b / (gg n d : Int)).natAbs = 1
      rw [Int.natAbs_ediv_of_dvd g2, Int.natAbs_ediv_of_dvd g1, ha, hb, Int.natAbs_natCast]
      exact Nat.gcd_div_gcd_div_gcd_of_pos_right (Int.natAbs_pos.mpr h)
  unfold fr
  by_cases hd : d < 0
  · rw [if_pos hd, if_pos hd]
    exact key _ _ (Int.natAbs_neg n) (Int.natAbs_neg d) (by omega)
  · rw [if_neg hd, if_neg hd]
    exact key _ _ rfl rfl (by omega)
theorem low_fr {x : F2} (h : Low x) : fr x.1 x.2 = x := by
  have h1 := h.pos
  unfold fr
  rw [if_neg (by omega), if_neg (by omega)]
  have : gg x.1 x.2 = 1 := h.co
  rw [this]
  show (x.1 / 1, x.2 / 1) = x
  rw [Int.ediv_one, Int.ediv_one]
/-- the size: below 2 ^ k both -/
def Sz (k : Nat) (x : Int × Int) : Prop := x.1.natAbs < 2 ^ k ∧ x.2.natAbs < 2 ^ k
theorem div_small (a : Int) (g : Nat) : (a / (g : Int)).natAbs ≤ a.natAbs := Int.natAbs_ediv_le_natAbs a g
theorem fr_sz {k : Nat} {x : Int × Int} (h : Sz k x) : Sz k (frp x) := by
  have key : ∀ (c : Prop) [Decidable c] (a : Int) (g : Nat), ((if c then -a else a) / (g : Int)).natAbs ≤ a.natAbs := fun c _ a g => by
    split
    · exact Nat.le_trans (div_small _ _) (Nat.le_of_eq (Int.natAbs_neg a))
    · exact div_small _ _
  exact ⟨Nat.lt_of_le_of_lt (key _ _ _) h.1, Nat.lt_of_le_of_lt (key _ _ _) h.2⟩
theorem sz_mul {a b : Int} {j k : Nat} (ha : a.natAbs < 2 ^ j) (hb : b.natAbs < 2 ^ k) : (a * b).natAbs < 2 ^ (j + k) := wide_lt ha hb
theorem sz_add {a b : Int} {k : Nat} (ha : a.natAbs < 2 ^ k) (hb : b.natAbs < 2 ^ k) : (a + b).natAbs < 2 ^ (k + 1) := by
  have := Int.natAbs_add_le a b
  rw [Nat.pow_succ]
  omega
theorem sz_sub {a b : Int} {k : Nat} (ha : a.natAbs < 2 ^ k) (hb : b.natAbs < 2 ^ k) : (a - b).natAbs < 2 ^ (k + 1) := by
  have := sz_add ha (b := -b) (by rw [Int.natAbs_neg]; exact hb)
  rw [Int.sub_eq_add_neg]
  exact this
theorem sz_up {x : Int × Int} {j k : Nat} (h : Sz j x) (hl : j ≤ k) : Sz k x :=
  ⟨Nat.lt_of_lt_of_le h.1 (Nat.pow_le_pow_right (by decide) hl), Nat.lt_of_lt_of_le h.2 (Nat.pow_le_pow_right (by decide) hl)⟩
theorem n_up {a : Int} {j k : Nat} (h : a.natAbs < 2 ^ j) (hl : j ≤ k) : a.natAbs < 2 ^ k := Nat.lt_of_lt_of_le h (Nat.pow_le_pow_right (by decide) hl)
theorem add2_sz {a b : F2} {j k : Nat} (ha : Sz j a) (hb : Sz k b) : Sz (j + k + 1) (add2 a b) :=
  ⟨sz_add (sz_mul ha.1 hb.2) (by rw [Nat.add_comm j k]; exact sz_mul hb.1 ha.2), n_up (sz_mul ha.2 hb.2) (Nat.le_succ _)⟩
theorem sub2_sz {a b : F2} {j k : Nat} (ha : Sz j a) (hb : Sz k b) : Sz (j + k + 1) (sub2 a b) :=
  ⟨sz_sub (sz_mul ha.1 hb.2) (by rw [Nat.add_comm j k]; exact sz_mul hb.1 ha.2), n_up (sz_mul ha.2 hb.2) (Nat.le_succ _)⟩
theorem mul2_sz {a b : F2} {j k : Nat} (ha : Sz j a) (hb : Sz k b) : Sz (j + k + 1) (mul2 a b) := ⟨n_up (sz_mul ha.1 hb.1) (Nat.le_succ _), n_up (sz_mul ha.2 hb.2) (Nat.le_succ _)⟩
theorem div2_sz {a b : F2} {j k : Nat} (ha : Sz j a) (hb : Sz k b) : Sz (j + k + 1) (div2 a b) := ⟨n_up (sz_mul ha.1 hb.2) (Nat.le_succ _), n_up (sz_mul ha.2 hb.1) (Nat.le_succ _)⟩
/-- the sum of a row, from the left -/
def tot : List F2 → F2 → F2
  | [], t => t
  | x :: r, t => tot r (frp (add2 t x))
theorem gg_if (n d : Int) : (if d < 0 then -n else n).natAbs.gcd (if d < 0 then -d else d).natAbs = gg n d := by
  unfold gg
  split <;> simp
theorem low0 : Low (0, 1) := ⟨by decide, by decide⟩
theorem sz0 : Sz 1 (0, 1) := ⟨by decide, by decide⟩
theorem low_frp {x : Int × Int} (h : x.2 ≠ 0) : Low (frp x) := fr_low h
theorem add2_ne {a b : F2} (ha : Low a) (hb : Low b) : (add2 a b).2 ≠ 0 := by
  have h1 := ha.pos
  have h2 := hb.pos
  exact Int.ne_of_gt (Int.mul_pos (by omega) (by omega))
theorem tot_ok : ∀ (fs : List F2) (t : F2) {k : Nat}, Low t → Sz k t → (∀ x ∈ fs, Sz 100 x ∧ Low x) → Sz (k + 101 * fs.length) (tot fs t) ∧ Low (tot fs t)
  | [], t, k, h1, h2, _ => ⟨h2, h1⟩
  | x :: r, t, k, h1, h2, h3 => by
    obtain ⟨a, b⟩ := h3 x (List.mem_cons_self)
    have := tot_ok r (frp (add2 t x)) (k := k + 100 + 1) (low_frp (add2_ne h1 b)) (fr_sz (add2_sz h2 a)) (fun y hy => h3 y (List.mem_cons_of_mem _ hy))
    refine ⟨sz_up this.1 ?_, this.2⟩
    rw [List.length_cons]
    omega
theorem tot_snoc (x : F2) : ∀ (l : List F2) (t : F2), tot (l ++ [x]) t = frp (add2 (tot l t) x)
  | [], _ => rfl
  | y :: r, t => tot_snoc x r (frp (add2 t y))
theorem same_l {K : PySem.W.Frag} {H H' : Hp} {a : Addr} {xs : List V} (e : Same H H') (h : SqL K H a xs) : SqL K H' a xs := e.seq h
theorem same_t {K : PySem.W.Frag} {H H' : Hp} {a : Addr} {xs : List V} (e : Same H H') (h : SqT K H a xs) : SqT K H' a xs := by
  rcases h with (h | ⟨o, h⟩) | h
  · exact .inl (.inl (e _ _ h))
  · exact .inl (.inr ⟨o, e _ _ h⟩)
  · exact .inr h
theorem Paired.at {α β : Type} {R : α → β → Prop} : ∀ {xs : List α} {ys : List β} {i : Nat} {x : α}, Paired R xs ys → xs[i]? = some x → ∃ y, ys[i]? = some y ∧ R x y
  | _, _, _, _, .nil, e => by simp at e
  | _, _, 0, _, .cons r _, e => by
    have e : _ = _ := Option.some.inj e
    subst e
    exact ⟨_, rfl, r⟩
  | _, _, i + 1, x, .cons _ t, e => by
    obtain ⟨y, h1, h2⟩ := Paired.at (i := i) (x := x) t (by simpa using e)
    exact ⟨y, by simpa using h1, h2⟩
def dF (x : Int × Int) : PyData := .tuple [.int x.1, .int x.2]
def dFs (l : List (Int × Int)) : PyData := .list (l.map dF)
theorem dF_sh (x : Int × Int) : SeqAt.shaped (dF x) = true := rfl
theorem dFs_lay : ∀ l : List (Int × Int), PyData.canLayAll0 (l.map dF) = true
  | [] => rfl
  | x :: r => by
    show (PyData.canLay0 (dF x) && PyData.canLayAll0 (r.map dF)) = true
    rw [dFs_lay r]
    rfl
theorem dFs_dep : ∀ l : List (Int × Int), PyData.depthAll (l.map dF) ≤ 1
  | [] => Nat.zero_le _
  | x :: r => by
    show max (PyData.depth (dF x)) (PyData.depthAll (r.map dF)) ≤ 1
    have := dFs_dep r
    have e : PyData.depth (dF x) = 1 := rfl
    omega
theorem dFs_sh (l : List (Int × Int)) : SeqAt.shaped (dFs l) = true := by
  unfold SeqAt.shaped
  rw [Bool.and_eq_true]
  refine ⟨dFs_lay l, decide_eq_true ?_⟩
  show PyData.depthAll (l.map dF) + 1 ≤ 64
  have := dFs_dep l
  omega
theorem dFs_eqv (l : List (Int × Int)) : PyData.eqv (dFs l) (dFs l) = true := SeqAt.eqv_refl _ (dFs_lay l)
theorem dF_eqv (x : Int × Int) : PyData.eqv (dF x) (dF x) = true := SeqAt.eqv_refl _ rfl
/-! ### promises -/
def tupF (x : Int × Int) : HO := .tup [.int x.1, .int x.2]
def spFrac : Sp := fun vs H Q _ => ∃ n d : Int, vs = [.int n, .int d] ∧ d ≠ 0 ∧ Sz 4000 (n, d) ∧ ∀ p, H p = none → Q (.ref p) (upd H p (tupF (fr n d)))
def spBin (K : PySem.W.Frag) (op : F2 → F2 → Int × Int) : Sp := fun vs H Q _ => ∃ (p q : Addr) (a b : F2), vs = [.ref p, .ref q] ∧ H p = some (tupF a) ∧ H q = some (tupF b) ∧ Sz 1900 a ∧ Sz 1900 b ∧ (op a b).2 ≠ 0 ∧ ∀ r, H r = none → Q (.ref r) (upd H r (tupF (frp (op a b))))
def spLess (K : PySem.W.Frag) : Sp := fun vs H Q _ => ∃ (p q : Addr) (a b : F2), vs = [.ref p, .ref q] ∧ H p = some (tupF a) ∧ H q = some (tupF b) ∧ Sz 1900 a ∧ Sz 1900 b ∧ Q (.bl (decide (a.1 * b.2 < b.1 * a.2))) H
/-- a row of tracked fractions -/
def Frs (H : Hp) : List V → List F2 → Prop := Paired fun v x => ∃ p, v = .ref p ∧ H p = some (tupF x)
def spTotL (K : PySem.W.Frag) : Sp := fun vs H Q _ => ∃ (p : Addr) (xs : List V) (fs : List F2), vs = [.ref p] ∧ SqL K H p xs ∧ Frs H xs fs ∧ fs.length ≤ 8 ∧ (∀ x ∈ fs, Sz 100 x ∧ Low x) ∧ ∀ H' r, Same H H' → H' r = some (tupF (tot fs (0, 1))) → Q (.ref r) H'
def spTotT (K : PySem.W.Frag) : Sp := fun vs H Q _ => ∃ (p : Addr) (xs : List V) (fs : List F2), vs = [.ref p] ∧ SqT K H p xs ∧ Frs H xs fs ∧ fs.length ≤ 8 ∧ (∀ x ∈ fs, Sz 100 x ∧ Low x) ∧ ∀ H' r, Same H H' → H' r = some (tupF (tot fs (0, 1))) → Q (.ref r) H'
def spIsInt : Sp := fun vs H Q _ => ∃ i : Int, vs = [.int i] ∧ Q (.bl true) H
def spIsInts (K : PySem.W.Frag) : Sp := fun vs H Q _ => ∃ (p : Addr) (ns : List Int), vs = [.ref p] ∧ H p = some (.tup (ns.map V.int)) ∧ ns.length ≤ 100 ∧ ∀ H', Same H H' → Q (.bl true) H'
def spIsFrac (K : PySem.W.Frag) : Sp := fun vs H Q _ => ∃ (p : Addr) (x : F2), vs = [.ref p] ∧ H p = some (tupF x) ∧ Low x ∧ Sz 4000 x ∧ ∀ H', Same H H' → Q (.bl true) H'
def spNumber : Sp := fun vs H Q _ => ∃ (S D : Addr), vs = [.ref D] ∧ DrawAt S D H ∧ ∀ H' (v : Int), v.natAbs < 2 ^ 85 → Go S D H H' → Q (.int v) H'
def spPair : Sp := fun vs H Q _ => ∃ (S D : Addr), vs = [.ref D] ∧ DrawAt S D H ∧ ∀ (H' : Hp) (r : Addr) (x : Int × Int), x.2 ≠ 0 → Sz 90 x → H r = none → H' r = some (tupF x) → Go S D H H' → Q (.ref r) H'
def spLaw (K : PySem.W.Frag) : Sp := fun vs H Q _ => ∃ (a : Addr) (ns : List Int), vs = [.ref a] ∧ SqL K H a (ns.map V.int) ∧ ns.length ≤ 63 ∧ ∀ H', Q (.bl true) H'
theorem same_new {H : Hp} {p : Addr} {o : HO} (h : H p = none) : Same H (upd H p o) := fun b x e => by
  rw [upd_ne (ne_of_none e h)]
  exact e
theorem dp_F {K : PySem.W.Frag} {H : Hp} {p : Addr} {x : Int × Int} (h : H p = some (tupF x)) : Dp K H (.ref p) (dF x) := .tup (SqT.of h) (.cons (.int _) (.cons (.int _) .nil))
theorem dp_All {K : PySem.W.Frag} {H : Hp} : ∀ {xs : List V} {fs : List F2}, Frs H xs fs → DpAll K H xs (fs.map dF)
  | _, _, .nil => .nil
  | _, _, .cons ⟨p, e, h⟩ t => by
    subst e
    exact .cons (dp_F h) (dp_All t)
theorem dp_L {K : PySem.W.Frag} {H : Hp} {p : Addr} {xs : List V} {fs : List F2} (h : SqL K H p xs) (hf : Frs H xs fs) : Dp K H (.ref p) (dFs fs) := .lst h (dp_All hf)
theorem frs_mono {H H' : Hp} {xs : List V} {fs : List F2} (h : ∀ p x, H p = some (tupF x) → H' p = some (tupF x)) (hf : Frs H xs fs) : Frs H' xs fs := Paired.mono (fun v x ⟨p, e, hp⟩ => ⟨p, e, h p x hp⟩) hf
theorem frs_same {H H' : Hp} {xs : List V} {fs : List F2} (s : Same H H') (hf : Frs H xs fs) : Frs H' xs fs := frs_mono (fun p x => s p _) hf
/-- a list that is changed is no tuple -/
theorem tup_upd {H : Hp} {L p : Addr} {xs : List V} {x : Int × Int} {o : HO} (hL : H L = some (.lst xs)) (hp : H p = some (tupF x)) : upd H L o p = some (tupF x) := by
  rw [upd_ne (ne_of hp hL (by intro z; cases z))]
  exact hp
theorem frs_take {H : Hp} : ∀ {xs : List V} {fs : List F2} (k : Nat), Frs H xs fs → Frs H (xs.take k) (fs.take k)
  | _, _, 0, _ => .nil
  | _, _, _ + 1, .nil => .nil
  | _, _, k + 1, .cons r t => .cons r (frs_take k t)
theorem cut_k (xs : List V) (k : Nat) : cutV xs none (some (k : Int)) = xs.take k := by
  unfold cutV
  rw [HT.sIx_nat, HT.sIx_none]
  show List.take (min k xs.length - 0) (xs.drop 0) = _
  rw [List.drop_zero, Nat.sub_zero, ← List.take_eq_take_min]
theorem cut_3 (xs : List V) : cutV xs none (some 3) = xs.take 3 := cut_k xs 3
theorem all_true {α : Type} (l : List α) : (l.map fun _ => true).all id = true := by
  rw [List.all_map]
  exact List.all_eq_true.mpr fun _ _ => rfl
section
variable {P : Program} {w : World} {K : PySem.W.Frag} {mg : Str → Option Value} {base : Heap}
theorem ok__law_draw (T : Txt K mg) {f : Addr} {fd : FuncData} (F : FnP K "_law_draw" s__law_draw f fd) : FnOk P w K mg base CX0 1 f fd ["d", "many"] spDraw := by
  refine F.ok sc__law_draw (fun vs H Q E h => ?_) (fun cdv A outer s H vs Q E hr h => ?_)
  · obtain ⟨S, D, m, rfl, _⟩ := h
    rfl
  · obtain ⟨S, D, m, rfl, hm, d, q⟩ := h
    obtain ⟨cs, hS⟩ := id d.cells
    obtain ⟨i, r, c, h0, hD⟩ := id d.at_
    have hm0 : 0 < m := hm.1
    refine ⟨_, PSs.nox (pss_cons (ps_if (pt_cmpR op_gt (pe_ix ix_list (pv 0) pe_int (fun _ _ => rfl)) pe_int (nomark _)) (pss_cons (ps_set (i := 2) sc__law_draw.nd rfl (Or.inl rfl) (pe_ix ix_list (pv 0) pe_int (fun _ _ => rfl)))
      (pss_cons (ps_asg (pe_op op_fdivW (pv 2) (pv 1)) (pg_sub (pv 0) pe_int set_list))
      (pss_one (ps_ret (pe_op op_mod (pe_callTy call_int1 (by rfl) T.b_int (by decide +kernel) (pa_cons (pv 2) pa_nil)) (pv 1)))))) pss_nil)
      (pss_cons (ps_set (i := 3) sc__law_draw.nd rfl (Or.inl rfl) pe_int)
      (Evl.pss_cut (ps_if (pt_cmpR op_lt (pe_ix ix_list (pv 0) pe_int (fun _ _ => rfl)) (pe_callB call_len (by rfl) T.b_len (by decide +kernel) (pa_cons (pe_ix ix_list (pv 0) pe_int (fun _ _ => rfl)) pa_nil)) (nomark _)) (pss_cons (ps_set (i := 4) sc__law_draw.nd rfl (Or.inl rfl) (pe_ix ix_list (pe_ix ix_list (pv 0) pe_int (fun _ _ => rfl)) (pe_ix ix_list (pv 0) pe_int (fun _ _ => rfl)) (fun _ _ => rfl)))
      (pss_one (ps_set (i := 3) sc__law_draw.nd rfl (Or.inl rfl) (pe_op op_add (pe_op op_mul pe_int (pe_callB call_abs (by rfl) T.b_abs (by decide +kernel) (pa_cons (pv 4) pa_nil))) (pe_callTy call_int1 (by rfl) T.b_int (by decide +kernel) (pa_cons (pe_cmpR op_lt (pv 4) pe_int (nomark _)) pa_nil)))))) pss_nil)
      (pss_cons (ps_augS (pv 0) pe_int get_list pe_int ip_add set_list)
      (pss_cons (ps_if (pt_cmpR op_ge (pv 3) (pe_op op_mul pe_int (pe_op op_pow pe_int pe_int)) (nomark _)) (pss_cons (ps_set (i := 2) sc__law_draw.nd rfl (Or.inl rfl) (pe_op op_mod (pe_callTy call_int1 (by rfl) T.b_int (by decide +kernel) (pa_cons (pe_op op_fdivW (pv 3) pe_int) pa_nil)) (pe_op op_shl pe_int pe_int)))
      (pss_cons (ps_asg (pe_op op_fdivW (pv 2) (pv 1)) (pg_sub (pv 0) pe_int set_list))
      (pss_one (ps_ret (pe_op op_mod (pe_callTy call_int1 (by rfl) T.b_int (by decide +kernel) (pa_cons (pv 2) pa_nil)) (pv 1)))))) pss_nil)
      (pss_cons (ps_asg (pe_op op_mod (pe_callTy call_int1 (by rfl) T.b_int (by decide +kernel) (pa_cons (pe_op op_add (pe_op op_add (pe_op op_add (pe_op op_mul (pe_ix ix_list (pv 0) pe_int (fun _ _ => rfl)) pe_int) (pe_op op_mul (pe_op op_mod (pe_callTy call_int1 (by rfl) T.b_int (by decide +kernel) (pa_cons (pv 3) pa_nil)) pe_int) pe_int)) (pe_op op_mul (pe_ix ix_list (pv 0) pe_int (fun _ _ => rfl)) pe_int)) pe_int) pa_nil)) pe_int) (pg_sub (pv 0) pe_int set_list))
      (pss_one (ps_ret (pe_op op_mod (pe_callTy call_int1 (by rfl) T.b_int (by decide +kernel) (pa_cons (pe_op op_fdivW (pe_ix ix_list (pv 0) pe_int (fun _ _ => rfl)) pe_int) pa_nil)) (pv 1)))))))))), ?_⟩
    refine ⟨_, rfl, D, _, _, _, rfl, rfl, SqL.of hD, atI_nat (j := 2) rfl, _, _, rfl, rfl, _, rfl, ?_⟩
    refine ite2 (fun e => ?_) (fun e => ?_)
    · refine ⟨_, rfl, D, _, _, _, rfl, rfl, SqL.of hD, atI_nat (j := 2) rfl, ?_⟩
      refine ⟨_, rfl, _, rfl, _, _, rfl, rfl, hm, _, rfl, D, _, _, 2, rfl, rfl, hD, rfl, ?_⟩
      refine ⟨_, rfl, .inl ⟨_, rfl, _, rfl, _, _, rfl, rfl, hm0, ?_⟩⟩
      refine q _ _ (Int.emod_nonneg _ (by omega)) (Int.emod_lt_of_pos _ hm0) ⟨d.set h0, Keep.refl.set⟩
    · refine ⟨fun σ' H' => ∃ (z : Int) (x : Option V), σ' = [some (.ref D), some (.int m), none, some (.int z), x] ∧ H' = H, ?_, ?_⟩
      · refine ⟨_, rfl, D, _, _, _, rfl, rfl, SqL.of hD, atI_nat (j := 1) rfl, ?_⟩
        refine ⟨_, rfl, D, _, _, _, rfl, rfl, SqL.of hD, atI_nat (j := 0) rfl, _, _, rfl, .inl ⟨_, SqL.of hS, rfl⟩, _, _, rfl, rfl, _, rfl, ?_⟩
        refine ite2 (fun e1 => ?_) (fun e1 => ?_)
        · have e2 : i < ((cs.map V.int).length : Int) := of_decide_eq_true e1
          have e3 : i.toNat < (cs.map V.int).length := by omega
          have e4 : i.toNat < cs.length := by rw [List.length_map] at e3; exact e3
          have e5 : (cs.map V.int)[i.toNat]? = some (.int cs[i.toNat]) := by
            rw [List.getElem?_map, List.getElem?_eq_getElem e4]
            rfl
          have e6 : atI (cs.map V.int) i = some (.int cs[i.toNat]) := by
            have := atI_nat (xs := cs.map V.int) e5
            rw [show ((i.toNat : Nat) : Int) = i by omega] at this
            exact this
          refine ⟨_, rfl, D, _, _, _, rfl, rfl, SqL.of hD, atI_nat (j := 0) rfl, ?_⟩
          refine ⟨_, rfl, D, _, _, _, rfl, rfl, SqL.of hD, atI_nat (j := 1) rfl, ?_⟩
          refine ⟨S, _, _, _, rfl, rfl, SqL.of hS, e6, ?_⟩
          refine ⟨_, rfl, _, rfl, _, _, rfl, rfl, .inl ⟨by decide, by decide⟩, ?_⟩
          refine ⟨_, rfl, _, _, rfl, rfl, .inr ⟨_, rfl, _, _, rfl, rfl, ?_⟩⟩
          exact ⟨_, _, rfl, rfl⟩
        · exact ⟨_, _, rfl, rfl⟩
      · rintro σ' H' ⟨z, x, rfl, rfl⟩
        refine ⟨_, rfl, D, _, _, _, rfl, rfl, SqL.of hD, atI_nat (j := 1) rfl, ?_⟩
        refine ⟨_, _, rfl, rfl, D, _, _, 1, rfl, rfl, hD, rfl, ?_⟩
        have hD1 : (upd H' D (.lst [.ref S, .int (i + 1), .int r, .int c])) D = some (.lst [.ref S, .int (i + 1), .int r, .int c]) := upd_same
        have d1 : DrawAt S D (upd H' D (.lst [.ref S, .int (i + 1), .int r, .int c])) := d.set (by omega)
        refine ⟨_, rfl, _, _, rfl, rfl, ⟨by decide, by decide, by decide⟩, _, _, rfl, rfl, .inl ⟨by decide, by decide⟩, _, _, rfl, rfl, _, rfl, ?_⟩
        refine ite2 (fun e1 => ?_) (fun e1 => ?_)
        · refine ⟨_, rfl, _, _, rfl, rfl, ⟨by decide, by decide⟩, .inl ⟨_, rfl, _, _, rfl, rfl, ⟨by decide, by decide, by decide⟩, ?_⟩⟩
          refine ⟨_, _, rfl, rfl, ?_, ?_⟩
          · show (0 : Int) < 1 * 2 ^ (6000 : Int).toNat
            exact Int.mul_pos (by decide) (Int.pow_pos (by decide))
          · refine ⟨_, rfl, _, rfl, _, _, rfl, rfl, hm, _, rfl, D, _, _, 2, rfl, rfl, hD1, rfl, ?_⟩
            refine ⟨_, rfl, .inl ⟨_, rfl, _, rfl, _, _, rfl, rfl, hm0, ?_⟩⟩
            exact q _ _ (Int.emod_nonneg _ (by omega)) (Int.emod_lt_of_pos _ hm0) ⟨d1.set (by omega), Keep.refl.set.set⟩
        · refine ⟨_, rfl, D, _, _, _, rfl, rfl, SqL.of hD1, atI_nat (j := 3) rfl, _, _, rfl, rfl, .inr ⟨by decide, by decide⟩, ?_⟩
          refine ⟨_, rfl, .inl ⟨_, rfl, _, _, rfl, rfl, (by show (0 : Int) < 2147483629; decide), _, _, rfl, rfl, .inr ⟨by decide, by decide⟩, _, _, rfl, rfl, ?_⟩⟩
          refine ⟨_, rfl, D, _, _, _, rfl, rfl, SqL.of hD1, atI_nat (j := 1) rfl, _, _, rfl, rfl, .inr ⟨by decide, by decide⟩, _, _, rfl, rfl, _, _, rfl, rfl, .inl ⟨_, rfl, ?_⟩⟩
          refine ⟨_, _, rfl, rfl, (by show (0 : Int) < 2147483647; decide), _, rfl, D, _, _, 3, rfl, rfl, hD1, rfl, ?_⟩
          refine ⟨_, rfl, D, _, _, _, rfl, rfl, SqL.of upd_same, atI_nat (j := 3) rfl, _, _, rfl, rfl, ⟨by decide, by decide⟩, ?_⟩
          refine .inl ⟨_, rfl, _, rfl, _, _, rfl, rfl, hm0, ?_⟩
          exact q _ _ (Int.emod_nonneg _ (by omega)) (Int.emod_lt_of_pos _ hm0) ⟨d1.set (by omega), Keep.refl.set.set⟩
theorem ok__law_begin (T : Txt K mg) {f : Addr} {fd : FuncData} (F : FnP K "_law_begin" s__law_begin f fd) : FnOk P w K mg base CX0 1 f fd ["script"] (spBegin K) := by
  refine F.ok sc__law_begin (fun vs H Q E h => ?_) (fun cdv A outer s H vs Q E hr h => ?_)
  · obtain ⟨a, ns, rfl, _⟩ := h
    rfl
  · obtain ⟨a, ns, rfl, hS, hlen, q⟩ := h
    refine ⟨_, PSs.nox (pss_one (ps_ret (pe_lst (pa_cons (pe_lc (own := [("cell", 1)]) (g := (gName 1)) (tt := tYes) rfl sc__law_begin.nd (pi_list (pv 0)) (blkOk_by (N := N__law_begin) (sc := defScope s__law_begin) (by decide +kernel)) (fun _ _ _ _ _ => (pg_name (i := 1) sc__law_begin.nd rfl (Or.inl rfl))) (fun _ _ _ _ _ => pts_nil) (fun _ _ _ _ _ => (pe_callTy call_int1 (by rfl) T.b_int (by decide +kernel) (pa_cons (pv 1) pa_nil)))) (pa_cons pe_int (pa_cons pe_int (pa_cons pe_int pa_nil))))))), ?_⟩
    refine ⟨_, rfl, a, rfl, ⟨_, hS⟩, fun L hL => lc_list (xs := ns.map V.int) (fun i H' => H' = upd H L (.lst ((ns.take i).map V.int))) rfl (fun i H' _ e => ?_) ?_ ?_⟩
    · subst e
      exact (show Same H _ from fun b o h => by rw [upd_ne (ne_of_none h hL)]; exact h).seq hS
    · rintro i x H1 hi rfl
      obtain ⟨z, rfl, hz⟩ := getV hi
      refine ⟨rfl, _, rfl, .inl ⟨_, rfl, _, upd_same, ?_, ?_⟩⟩
      · rw [List.length_map, List.length_take]
        exact Nat.lt_of_le_of_lt (Nat.min_le_right _ _) (small1000 (by omega))
      · rw [upd_upd, take_map_succ (f := V.int) hz]
    · rintro H' rfl
      refine ⟨by show 4 ≤ sizeLine; decide, fun D hD => ?_⟩
      have nLD : D ≠ L := fun e => by
        rw [e, upd_same] at hD
        cases hD
      have hD0 : H D = none := by
        rw [upd_ne nLD] at hD
        exact hD
      refine q L D _ (fun b o h => ?_) hD0 ⟨fun e => nLD e.symm, ⟨ns, ?_⟩, ⟨0, 0, 7, by decide, upd_same⟩⟩
      · rw [upd_ne (ne_of_none h hD0), upd_ne (ne_of_none h hL)]
        exact h
      · rw [upd_ne (fun e => nLD e.symm), upd_same]
        rw [List.take_of_length_le (by rw [List.length_map]; exact Nat.le_refl _)]
theorem ok__law_pick (T : Txt K mg) (D__law_draw : Kept P w K mg base 1 "_law_draw" ["d", "many"] spDraw) {f : Addr} {fd : FuncData} (F : FnP K "_law_pick" s__law_pick f fd) : FnOk P w K mg base CX0 2 f fd ["d", "row"] (spPick K) := by
  refine F.ok sc__law_pick (fun vs H Q E h => ?_) (fun cdv A outer s H vs Q E hr h => ?_)
  · obtain ⟨S, D, r, xs, rfl, _⟩ := h
    rfl
  · obtain ⟨S, D, r, xs, rfl, d, hR, h0, h1, q⟩ := h
    refine ⟨_, PSs.nox (pss_one (ps_ret (pe_ix ix_seq (pv 1) (pe_d D__law_draw (hr.mono (by decide)) (by rfl) (pa_cons (pv 0) (pa_cons (pe_callB call_len (by rfl) T.b_len (by decide +kernel) (pa_cons (pv 1) pa_nil)) pa_nil))) (fun _ _ => rfl)))), ?_⟩
    refine ⟨r, rfl, _, rfl, _, rfl, r, xs.length, rfl, ?_, ?_⟩
    · rcases hR H (Go.refl d) with ⟨z, rfl, rfl⟩ | ⟨p, rfl, hp⟩
      · refine ⟨?_, by simp [Str.length]⟩
        rw [List.length_map] at h1
        have : z.length = z.cps.toList.length := by simp [Str.length]
        rw [this]
        exact Nat.le_trans h1 (by decide)
      · exact .inl ⟨_, hp, rfl⟩
    · refine ⟨S, D, _, rfl, divW_of (by omega) (by omega), d, fun H' v hv0 hv1 g => ?_⟩
      have hv : v.toNat < xs.length := by omega
      have e : ((v.toNat : Nat) : Int) = v := by omega
      have ex : xs[v.toNat]? = some xs[v.toNat] := List.getElem?_eq_getElem hv
      have ea : atI xs v = some xs[v.toNat] := by
        have := atI_nat (xs := xs) ex
        rw [e] at this
        exact this
      rcases hR H' g with ⟨z, rfl, rfl⟩ | ⟨p, rfl, hp⟩
      · refine .inr (.inr ⟨z, v, z.cps.toList[v.toNat]'(by rw [List.length_map] at hv; exact hv), rfl, rfl, ?_, ?_, ?_⟩)
        · rw [List.length_map] at h1
          have : z.length = z.cps.toList.length := by simp [Str.length]
          rw [this]
          exact Nat.le_trans h1 (by decide)
        · have := atI_nat (xs := z.cps.toList) (List.getElem?_eq_getElem (show v.toNat < z.cps.toList.length by rw [List.length_map] at hv; exact hv))
          rw [e] at this
          exact this
        · refine q H' _ ?_ g
          exact List.mem_map_of_mem (List.getElem_mem _)
      · exact .inl ⟨p, xs, v, _, rfl, rfl, hp, ea, q H' _ (List.getElem_mem _) g⟩

theorem ok_make_fraction (T : Txt K mg) {f : Addr} {fd : FuncData} (F : FnP K "make_fraction" s_make_fraction f fd) : FnOk P w K mg base CX0 1 f fd ["n", "d"] spFrac := by
  refine F.ok sc_make_fraction (fun vs H Q E h => ?_) (fun cdv A outer s H vs Q E hr h => ?_)
  · obtain ⟨n, d, rfl, _⟩ := h
    rfl
  · obtain ⟨n, d, rfl, hd, hz, q⟩ := h
    refine ⟨_, PSs.nox (Evl.pss_cut (ps_if (pt_cmpR op_lt (pv 1) pe_int (nomark _)) (pss_one (ps_par (i := 0) (j := 1) (by rfl) sc_make_fraction.nd rfl rfl (by decide) rfl rfl (pa_cons (pe_un un_neg (pv 0)) (pa_cons (pe_un un_neg (pv 1)) pa_nil)) (by rfl))) pss_nil)
      (pss_cons (ps_set (i := 2) sc_make_fraction.nd rfl (Or.inl rfl) (pe_callBfun cr_gcd (by rfl) T.f_gcd (pa_cons (pv 0) (pa_cons (pv 1) pa_nil))))
      (pss_one (ps_ret (pe_tup (pa_cons (pe_op op_fdivW (pv 0) (pv 2)) (pa_cons (pe_op op_fdivW (pv 1) (pv 2)) pa_nil))))))), ?_⟩
    have g0 := gg_pos (n := n) hd
    have gl := gg_le (n := n) hd
    have cw : CDivW 0 (gg n d : Int) := wide_div (b := 4000) (by omega) (Nat.lt_of_le_of_lt (by rw [Int.natAbs_natCast]; exact gl) hz.2) (by decide) (by decide)
    refine ⟨fun σ H' => σ = [some (.int (if d < 0 then -n else n)), some (.int (if d < 0 then -d else d)), none] ∧ H' = H, ?_, ?_⟩
    · refine ⟨_, rfl, _, _, rfl, rfl, _, rfl, ?_⟩
      refine ite2 (fun e => ?_) (fun e => ?_)
      · have e1 : d < 0 := of_decide_eq_true e
        rw [if_pos e1, if_pos e1]
        exact ⟨_, rfl, _, rfl, _, rfl, _, rfl, _, _, rfl, rfl, rfl⟩
      · have e1 : ¬ d < 0 := fun z => e (decide_eq_true z)
        rw [if_neg e1, if_neg e1]
        exact ⟨rfl, rfl⟩
    · rintro σ H' ⟨rfl, rfl⟩
      refine ⟨_, rfl, _, rfl, _, _, rfl, ?_⟩
      rw [gg_if]
      refine ⟨_, rfl, _, rfl, _, _, rfl, rfl, cw, _, rfl, _, rfl, _, _, rfl, rfl, cw, by show 2 ≤ sizeLine; decide, fun p hp => ?_⟩
      exact q p hp
theorem ok__law_frac (T : Txt K mg) {f : Addr} {fd : FuncData} (F : FnP K "_law_frac" s__law_frac f fd) : FnOk P w K mg base CX0 1 f fd ["n", "d"] spFrac := by
  refine F.ok sc__law_frac (fun vs H Q E h => ?_) (fun cdv A outer s H vs Q E hr h => ?_)
  · obtain ⟨n, d, rfl, _⟩ := h
    rfl
  · obtain ⟨n, d, rfl, hd, hz, q⟩ := h
    refine ⟨_, PSs.nox (Evl.pss_cut (ps_if (pt_cmpR op_lt (pv 1) pe_int (nomark _)) (pss_cons (ps_set (i := 0) sc__law_frac.nd rfl (Or.inl rfl) (pe_un un_neg (pv 0)))
      (pss_one (ps_set (i := 1) sc__law_frac.nd rfl (Or.inl rfl) (pe_un un_neg (pv 1))))) pss_nil)
      (pss_cons (ps_set (i := 2) sc__law_frac.nd rfl (Or.inl rfl) (pe_callB call_abs (by rfl) T.b_abs (by decide +kernel) (pa_cons (pv 0) pa_nil)))
      (pss_cons (ps_set (i := 3) sc__law_frac.nd rfl (Or.inl rfl) (pv 1))
      (pss_cons (ps_while PassesOwn.never (pt_cmpR op_gt (pv 3) pe_int (nomark _)) (pss_cons (ps_set (i := 4) sc__law_frac.nd rfl (Or.inl rfl) (pe_op op_mod (pe_callTy call_int1 (by rfl) T.b_int (by decide +kernel) (pa_cons (pv 2) pa_nil)) (pv 3)))
      (pss_cons (ps_set (i := 2) sc__law_frac.nd rfl (Or.inl rfl) (pv 3))
      (pss_one (ps_set (i := 3) sc__law_frac.nd rfl (Or.inl rfl) (pv 4))))))
      (pss_one (ps_ret (pe_tup (pa_cons (pe_op op_fdivW (pv 0) (pv 2)) (pa_cons (pe_op op_fdivW (pv 1) (pv 2)) pa_nil))))))))), ?_⟩
    have g0 := gg_pos (n := n) hd
    have gl := gg_le (n := n) hd
    have cw : CDivW 0 (gg n d : Int) := wide_div (b := 4000) (by omega) (Nat.lt_of_le_of_lt (by rw [Int.natAbs_natCast]; exact gl) hz.2) (by decide) (by decide)
    refine ⟨fun σ H' => σ = [some (.int (if d < 0 then -n else n)), some (.int (if d < 0 then -d else d)), none, none, none] ∧ H' = H, ?_, ?_⟩
    · refine ⟨_, rfl, _, _, rfl, rfl, _, rfl, ?_⟩
      refine ite2 (fun e => ?_) (fun e => ?_)
      · have e1 : d < 0 := of_decide_eq_true e
        rw [if_pos e1, if_pos e1]
        exact ⟨_, rfl, _, rfl, _, rfl, _, rfl, rfl, rfl⟩
      · have e1 : ¬ d < 0 := fun z => e (decide_eq_true z)
        rw [if_neg e1, if_neg e1]
        exact ⟨rfl, rfl⟩
    · rintro σ H' ⟨rfl, rfl⟩
      refine ⟨_, rfl, _, rfl, _, rfl, ?_⟩
      have ea : (if (if d < 0 then -n else n) < 0 then -(if d < 0 then -n else n) else (if d < 0 then -n else n)) = ((n.natAbs : Nat) : Int) := by
        split <;> split <;> omega
      have eb : (if d < 0 then -d else d) = ((d.natAbs : Nat) : Int) := by
        split <;> omega
      refine ⟨fun m σ' H1 => ∃ (x y : Nat) (r : Option V), σ' = [some (.int (if d < 0 then -n else n)), some (.int (if d < 0 then -d else d)), some (.int (x : Nat)), some (.int (y : Nat)), r] ∧ y = m ∧ Nat.gcd x y = gg n d ∧ H1 = H', ⟨_, n.natAbs, d.natAbs, none, ?_, rfl, rfl, rfl⟩, ?_⟩
      · rw [← ea, ← eb]
        rfl
      · rintro m σ' H1 ⟨x, y, r, rfl, rfl, hg, rfl⟩
        refine ⟨_, rfl, _, _, rfl, rfl, _, rfl, ?_⟩
        refine ite2 (fun e => ?_) (fun e => ?_)
        · have e1 : (0 : Int) < (y : Int) := of_decide_eq_true e
          have e2 : 0 < y := by omega
          refine ⟨fun σ2 H2 => ∃ r : Option V, σ2 = [some (.int (if d < 0 then -n else n)), some (.int (if d < 0 then -d else d)), some (.int (y : Nat)), some (.int ((x % y : Nat) : Int)), r] ∧ H2 = H1, ?_, ?_⟩
          · rintro σ2 H2 ⟨r, rfl, rfl⟩
            refine ⟨x % y, Nat.mod_lt _ e2, y, x % y, r, rfl, rfl, ?_, rfl⟩
            rw [← hg, Nat.gcd_comm x y, Nat.gcd_rec y x, Nat.gcd_comm]
          · exact ⟨_, rfl, .inl ⟨_, rfl, _, rfl, _, _, rfl, rfl, e1, _, rfl, _, rfl, _, rfl, rfl⟩⟩
        · have e1 : ¬ (0 : Int) < (y : Int) := fun z => e (decide_eq_true z)
          have e2 : y = 0 := by omega
          subst e2
          have e3 : x = gg n d := by rw [← hg, Nat.gcd_zero_right]
          subst e3
          exact ⟨_, rfl, _, rfl, _, _, rfl, rfl, cw, _, rfl, _, rfl, _, _, rfl, rfl, cw, by show 2 ≤ sizeLine; decide, fun p hp => q p hp⟩
theorem ok_sum_of (T : Txt K mg) (D_make_fraction : Kept P w K mg base 1 "make_fraction" ["n", "d"] spFrac) {f : Addr} {fd : FuncData} (F : FnP K "sum_of" s_sum_of f fd) : FnOk P w K mg base CX0 2 f fd ["a", "b"] (spBin K add2) := by
  refine F.ok sc_sum_of (fun vs H Q E h => ?_) (fun cdv A outer s H vs Q E hr h => ?_)
  · obtain ⟨p, p2, a, b, rfl, _⟩ := h
    rfl
  · obtain ⟨p, p2, a, b, rfl, hp, hp2, za, zb, hne, q⟩ := h
    refine ⟨_, PSs.nox (pss_one (ps_ret (pe_d D_make_fraction (hr.mono (by decide)) (by rfl) (pa_cons (pe_op op_add (pe_op op_mulW (pe_ix ix_tup (pv 0) pe_int (fun _ _ => rfl)) (pe_ix ix_tup (pv 1) pe_int (fun _ _ => rfl))) (pe_op op_mulW (pe_ix ix_tup (pv 1) pe_int (fun _ _ => rfl)) (pe_ix ix_tup (pv 0) pe_int (fun _ _ => rfl)))) (pa_cons (pe_op op_mulW (pe_ix ix_tup (pv 0) pe_int (fun _ _ => rfl)) (pe_ix ix_tup (pv 1) pe_int (fun _ _ => rfl))) pa_nil))))), ?_⟩
    exact ⟨_, rfl, p, _, _, _, rfl, rfl, SqT.of hp, atI_nat (j := 0) rfl, _, rfl, p2, _, _, _, rfl, rfl, SqT.of hp2, atI_nat (j := 1) rfl, _, _, rfl, rfl, wide_mul za.1 zb.2 (by decide) (by decide) (by decide), _, rfl, p2, _, _, _, rfl, rfl, SqT.of hp2, atI_nat (j := 0) rfl, _, rfl, p, _, _, _, rfl, rfl, SqT.of hp, atI_nat (j := 1) rfl, _, _, rfl, rfl, wide_mul zb.1 za.2 (by decide) (by decide) (by decide), _, _, rfl, rfl, _, rfl, p, _, _, _, rfl, rfl, SqT.of hp, atI_nat (j := 1) rfl, _, rfl, p2, _, _, _, rfl, rfl, SqT.of hp2, atI_nat (j := 1) rfl, _, _, rfl, rfl, wide_mul za.2 zb.2 (by decide) (by decide) (by decide), _, _, rfl, hne, sz_up (add2_sz za zb) (by decide), q⟩
theorem ok_difference_of (T : Txt K mg) (D_make_fraction : Kept P w K mg base 1 "make_fraction" ["n", "d"] spFrac) {f : Addr} {fd : FuncData} (F : FnP K "difference_of" s_difference_of f fd) : FnOk P w K mg base CX0 2 f fd ["a", "b"] (spBin K sub2) := by
  refine F.ok sc_difference_of (fun vs H Q E h => ?_) (fun cdv A outer s H vs Q E hr h => ?_)
  · obtain ⟨p, p2, a, b, rfl, _⟩ := h
    rfl
  · obtain ⟨p, p2, a, b, rfl, hp, hp2, za, zb, hne, q⟩ := h
    refine ⟨_, PSs.nox (pss_one (ps_ret (pe_d D_make_fraction (hr.mono (by decide)) (by rfl) (pa_cons (pe_op op_sub (pe_op op_mulW (pe_ix ix_tup (pv 0) pe_int (fun _ _ => rfl)) (pe_ix ix_tup (pv 1) pe_int (fun _ _ => rfl))) (pe_op op_mulW (pe_ix ix_tup (pv 1) pe_int (fun _ _ => rfl)) (pe_ix ix_tup (pv 0) pe_int (fun _ _ => rfl)))) (pa_cons (pe_op op_mulW (pe_ix ix_tup (pv 0) pe_int (fun _ _ => rfl)) (pe_ix ix_tup (pv 1) pe_int (fun _ _ => rfl))) pa_nil))))), ?_⟩
    exact ⟨_, rfl, p, _, _, _, rfl, rfl, SqT.of hp, atI_nat (j := 0) rfl, _, rfl, p2, _, _, _, rfl, rfl, SqT.of hp2, atI_nat (j := 1) rfl, _, _, rfl, rfl, wide_mul za.1 zb.2 (by decide) (by decide) (by decide), _, rfl, p2, _, _, _, rfl, rfl, SqT.of hp2, atI_nat (j := 0) rfl, _, rfl, p, _, _, _, rfl, rfl, SqT.of hp, atI_nat (j := 1) rfl, _, _, rfl, rfl, wide_mul zb.1 za.2 (by decide) (by decide) (by decide), _, _, rfl, rfl, _, rfl, p, _, _, _, rfl, rfl, SqT.of hp, atI_nat (j := 1) rfl, _, rfl, p2, _, _, _, rfl, rfl, SqT.of hp2, atI_nat (j := 1) rfl, _, _, rfl, rfl, wide_mul za.2 zb.2 (by decide) (by decide) (by decide), _, _, rfl, hne, sz_up (sub2_sz za zb) (by decide), q⟩
theorem ok_product_of (T : Txt K mg) (D_make_fraction : Kept P w K mg base 1 "make_fraction" ["n", "d"] spFrac) {f : Addr} {fd : FuncData} (F : FnP K "product_of" s_product_of f fd) : FnOk P w K mg base CX0 2 f fd ["a", "b"] (spBin K mul2) := by
  refine F.ok sc_product_of (fun vs H Q E h => ?_) (fun cdv A outer s H vs Q E hr h => ?_)
  · obtain ⟨p, p2, a, b, rfl, _⟩ := h
    rfl
  · obtain ⟨p, p2, a, b, rfl, hp, hp2, za, zb, hne, q⟩ := h
    refine ⟨_, PSs.nox (pss_one (ps_ret (pe_d D_make_fraction (hr.mono (by decide)) (by rfl) (pa_cons (pe_op op_mulW (pe_ix ix_tup (pv 0) pe_int (fun _ _ => rfl)) (pe_ix ix_tup (pv 1) pe_int (fun _ _ => rfl))) (pa_cons (pe_op op_mulW (pe_ix ix_tup (pv 0) pe_int (fun _ _ => rfl)) (pe_ix ix_tup (pv 1) pe_int (fun _ _ => rfl))) pa_nil))))), ?_⟩
    exact ⟨_, rfl, p, _, _, _, rfl, rfl, SqT.of hp, atI_nat (j := 0) rfl, _, rfl, p2, _, _, _, rfl, rfl, SqT.of hp2, atI_nat (j := 0) rfl, _, _, rfl, rfl, wide_mul za.1 zb.1 (by decide) (by decide) (by decide), _, rfl, p, _, _, _, rfl, rfl, SqT.of hp, atI_nat (j := 1) rfl, _, rfl, p2, _, _, _, rfl, rfl, SqT.of hp2, atI_nat (j := 1) rfl, _, _, rfl, rfl, wide_mul za.2 zb.2 (by decide) (by decide) (by decide), _, _, rfl, hne, sz_up (mul2_sz za zb) (by decide), q⟩
theorem ok_quotient_of (T : Txt K mg) (D_make_fraction : Kept P w K mg base 1 "make_fraction" ["n", "d"] spFrac) {f : Addr} {fd : FuncData} (F : FnP K "quotient_of" s_quotient_of f fd) : FnOk P w K mg base CX0 2 f fd ["a", "b"] (spBin K div2) := by
  refine F.ok sc_quotient_of (fun vs H Q E h => ?_) (fun cdv A outer s H vs Q E hr h => ?_)
  · obtain ⟨p, p2, a, b, rfl, _⟩ := h
    rfl
  · obtain ⟨p, p2, a, b, rfl, hp, hp2, za, zb, hne, q⟩ := h
    refine ⟨_, PSs.nox (pss_one (ps_ret (pe_d D_make_fraction (hr.mono (by decide)) (by rfl) (pa_cons (pe_op op_mulW (pe_ix ix_tup (pv 0) pe_int (fun _ _ => rfl)) (pe_ix ix_tup (pv 1) pe_int (fun _ _ => rfl))) (pa_cons (pe_op op_mulW (pe_ix ix_tup (pv 0) pe_int (fun _ _ => rfl)) (pe_ix ix_tup (pv 1) pe_int (fun _ _ => rfl))) pa_nil))))), ?_⟩
    exact ⟨_, rfl, p, _, _, _, rfl, rfl, SqT.of hp, atI_nat (j := 0) rfl, _, rfl, p2, _, _, _, rfl, rfl, SqT.of hp2, atI_nat (j := 1) rfl, _, _, rfl, rfl, wide_mul za.1 zb.2 (by decide) (by decide) (by decide), _, rfl, p, _, _, _, rfl, rfl, SqT.of hp, atI_nat (j := 1) rfl, _, rfl, p2, _, _, _, rfl, rfl, SqT.of hp2, atI_nat (j := 0) rfl, _, _, rfl, rfl, wide_mul za.2 zb.1 (by decide) (by decide) (by decide), _, _, rfl, hne, sz_up (div2_sz za zb) (by decide), q⟩
theorem ok__law_plus (T : Txt K mg) (D__law_frac : Kept P w K mg base 1 "_law_frac" ["n", "d"] spFrac) {f : Addr} {fd : FuncData} (F : FnP K "_law_plus" s__law_plus f fd) : FnOk P w K mg base CX0 2 f fd ["a", "b"] (spBin K add2) := by
  refine F.ok sc__law_plus (fun vs H Q E h => ?_) (fun cdv A outer s H vs Q E hr h => ?_)
  · obtain ⟨p, p2, a, b, rfl, _⟩ := h
    rfl
  · obtain ⟨p, p2, a, b, rfl, hp, hp2, za, zb, hne, q⟩ := h
    refine ⟨_, PSs.nox (pss_one (ps_ret (pe_d D__law_frac (hr.mono (by decide)) (by rfl) (pa_cons (pe_op op_add (pe_op op_mulW (pe_ix ix_tup (pv 0) pe_int (fun _ _ => rfl)) (pe_ix ix_tup (pv 1) pe_int (fun _ _ => rfl))) (pe_op op_mulW (pe_ix ix_tup (pv 1) pe_int (fun _ _ => rfl)) (pe_ix ix_tup (pv 0) pe_int (fun _ _ => rfl)))) (pa_cons (pe_op op_mulW (pe_ix ix_tup (pv 0) pe_int (fun _ _ => rfl)) (pe_ix ix_tup (pv 1) pe_int (fun _ _ => rfl))) pa_nil))))), ?_⟩
    exact ⟨_, rfl, p, _, _, _, rfl, rfl, SqT.of hp, atI_nat (j := 0) rfl, _, rfl, p2, _, _, _, rfl, rfl, SqT.of hp2, atI_nat (j := 1) rfl, _, _, rfl, rfl, wide_mul za.1 zb.2 (by decide) (by decide) (by decide), _, rfl, p2, _, _, _, rfl, rfl, SqT.of hp2, atI_nat (j := 0) rfl, _, rfl, p, _, _, _, rfl, rfl, SqT.of hp, atI_nat (j := 1) rfl, _, _, rfl, rfl, wide_mul zb.1 za.2 (by decide) (by decide) (by decide), _, _, rfl, rfl, _, rfl, p, _, _, _, rfl, rfl, SqT.of hp, atI_nat (j := 1) rfl, _, rfl, p2, _, _, _, rfl, rfl, SqT.of hp2, atI_nat (j := 1) rfl, _, _, rfl, rfl, wide_mul za.2 zb.2 (by decide) (by decide) (by decide), _, _, rfl, hne, sz_up (add2_sz za zb) (by decide), q⟩
theorem ok__law_minus (T : Txt K mg) (D__law_frac : Kept P w K mg base 1 "_law_frac" ["n", "d"] spFrac) {f : Addr} {fd : FuncData} (F : FnP K "_law_minus" s__law_minus f fd) : FnOk P w K mg base CX0 2 f fd ["a", "b"] (spBin K sub2) := by
  refine F.ok sc__law_minus (fun vs H Q E h => ?_) (fun cdv A outer s H vs Q E hr h => ?_)
  · obtain ⟨p, p2, a, b, rfl, _⟩ := h
    rfl
  · obtain ⟨p, p2, a, b, rfl, hp, hp2, za, zb, hne, q⟩ := h
    refine ⟨_, PSs.nox (pss_one (ps_ret (pe_d D__law_frac (hr.mono (by decide)) (by rfl) (pa_cons (pe_op op_sub (pe_op op_mulW (pe_ix ix_tup (pv 0) pe_int (fun _ _ => rfl)) (pe_ix ix_tup (pv 1) pe_int (fun _ _ => rfl))) (pe_op op_mulW (pe_ix ix_tup (pv 1) pe_int (fun _ _ => rfl)) (pe_ix ix_tup (pv 0) pe_int (fun _ _ => rfl)))) (pa_cons (pe_op op_mulW (pe_ix ix_tup (pv 0) pe_int (fun _ _ => rfl)) (pe_ix ix_tup (pv 1) pe_int (fun _ _ => rfl))) pa_nil))))), ?_⟩
    exact ⟨_, rfl, p, _, _, _, rfl, rfl, SqT.of hp, atI_nat (j := 0) rfl, _, rfl, p2, _, _, _, rfl, rfl, SqT.of hp2, atI_nat (j := 1) rfl, _, _, rfl, rfl, wide_mul za.1 zb.2 (by decide) (by decide) (by decide), _, rfl, p2, _, _, _, rfl, rfl, SqT.of hp2, atI_nat (j := 0) rfl, _, rfl, p, _, _, _, rfl, rfl, SqT.of hp, atI_nat (j := 1) rfl, _, _, rfl, rfl, wide_mul zb.1 za.2 (by decide) (by decide) (by decide), _, _, rfl, rfl, _, rfl, p, _, _, _, rfl, rfl, SqT.of hp, atI_nat (j := 1) rfl, _, rfl, p2, _, _, _, rfl, rfl, SqT.of hp2, atI_nat (j := 1) rfl, _, _, rfl, rfl, wide_mul za.2 zb.2 (by decide) (by decide) (by decide), _, _, rfl, hne, sz_up (sub2_sz za zb) (by decide), q⟩
theorem ok__law_times (T : Txt K mg) (D__law_frac : Kept P w K mg base 1 "_law_frac" ["n", "d"] spFrac) {f : Addr} {fd : FuncData} (F : FnP K "_law_times" s__law_times f fd) : FnOk P w K mg base CX0 2 f fd ["a", "b"] (spBin K mul2) := by
  refine F.ok sc__law_times (fun vs H Q E h => ?_) (fun cdv A outer s H vs Q E hr h => ?_)
  · obtain ⟨p, p2, a, b, rfl, _⟩ := h
    rfl
  · obtain ⟨p, p2, a, b, rfl, hp, hp2, za, zb, hne, q⟩ := h
    refine ⟨_, PSs.nox (pss_one (ps_ret (pe_d D__law_frac (hr.mono (by decide)) (by rfl) (pa_cons (pe_op op_mulW (pe_ix ix_tup (pv 0) pe_int (fun _ _ => rfl)) (pe_ix ix_tup (pv 1) pe_int (fun _ _ => rfl))) (pa_cons (pe_op op_mulW (pe_ix ix_tup (pv 0) pe_int (fun _ _ => rfl)) (pe_ix ix_tup (pv 1) pe_int (fun _ _ => rfl))) pa_nil))))), ?_⟩
    exact ⟨_, rfl, p, _, _, _, rfl, rfl, SqT.of hp, atI_nat (j := 0) rfl, _, rfl, p2, _, _, _, rfl, rfl, SqT.of hp2, atI_nat (j := 0) rfl, _, _, rfl, rfl, wide_mul za.1 zb.1 (by decide) (by decide) (by decide), _, rfl, p, _, _, _, rfl, rfl, SqT.of hp, atI_nat (j := 1) rfl, _, rfl, p2, _, _, _, rfl, rfl, SqT.of hp2, atI_nat (j := 1) rfl, _, _, rfl, rfl, wide_mul za.2 zb.2 (by decide) (by decide) (by decide), _, _, rfl, hne, sz_up (mul2_sz za zb) (by decide), q⟩
theorem ok__law_div (T : Txt K mg) (D__law_frac : Kept P w K mg base 1 "_law_frac" ["n", "d"] spFrac) {f : Addr} {fd : FuncData} (F : FnP K "_law_div" s__law_div f fd) : FnOk P w K mg base CX0 2 f fd ["a", "b"] (spBin K div2) := by
  refine F.ok sc__law_div (fun vs H Q E h => ?_) (fun cdv A outer s H vs Q E hr h => ?_)
  · obtain ⟨p, p2, a, b, rfl, _⟩ := h
    rfl
  · obtain ⟨p, p2, a, b, rfl, hp, hp2, za, zb, hne, q⟩ := h
    refine ⟨_, PSs.nox (pss_one (ps_ret (pe_d D__law_frac (hr.mono (by decide)) (by rfl) (pa_cons (pe_op op_mulW (pe_ix ix_tup (pv 0) pe_int (fun _ _ => rfl)) (pe_ix ix_tup (pv 1) pe_int (fun _ _ => rfl))) (pa_cons (pe_op op_mulW (pe_ix ix_tup (pv 0) pe_int (fun _ _ => rfl)) (pe_ix ix_tup (pv 1) pe_int (fun _ _ => rfl))) pa_nil))))), ?_⟩
    exact ⟨_, rfl, p, _, _, _, rfl, rfl, SqT.of hp, atI_nat (j := 0) rfl, _, rfl, p2, _, _, _, rfl, rfl, SqT.of hp2, atI_nat (j := 1) rfl, _, _, rfl, rfl, wide_mul za.1 zb.2 (by decide) (by decide) (by decide), _, rfl, p, _, _, _, rfl, rfl, SqT.of hp, atI_nat (j := 1) rfl, _, rfl, p2, _, _, _, rfl, rfl, SqT.of hp2, atI_nat (j := 0) rfl, _, _, rfl, rfl, wide_mul za.2 zb.1 (by decide) (by decide) (by decide), _, _, rfl, hne, sz_up (div2_sz za zb) (by decide), q⟩
theorem ok_is_less (T : Txt K mg) {f : Addr} {fd : FuncData} (F : FnP K "is_less" s_is_less f fd) : FnOk P w K mg base CX0 1 f fd ["a", "b"] (spLess K) := by
  refine F.ok sc_is_less (fun vs H Q E h => ?_) (fun cdv A outer s H vs Q E hr h => ?_)
  · obtain ⟨p, p2, a, b, rfl, _⟩ := h
    rfl
  · obtain ⟨p, p2, a, b, rfl, hp, hp2, za, zb, q⟩ := h
    refine ⟨_, PSs.nox (pss_one (ps_ret (pe_cmpR op_lt (pe_op op_mulW (pe_ix ix_tup (pv 0) pe_int (fun _ _ => rfl)) (pe_ix ix_tup (pv 1) pe_int (fun _ _ => rfl))) (pe_op op_mulW (pe_ix ix_tup (pv 1) pe_int (fun _ _ => rfl)) (pe_ix ix_tup (pv 0) pe_int (fun _ _ => rfl))) (nomark _)))), ?_⟩
    exact ⟨_, rfl, p, _, _, _, rfl, rfl, SqT.of hp, atI_nat (j := 0) rfl, _, rfl, p2, _, _, _, rfl, rfl, SqT.of hp2, atI_nat (j := 1) rfl, _, _, rfl, rfl, wide_mul za.1 zb.2 (by decide) (by decide) (by decide), _, rfl, p2, _, _, _, rfl, rfl, SqT.of hp2, atI_nat (j := 0) rfl, _, rfl, p, _, _, _, rfl, rfl, SqT.of hp, atI_nat (j := 1) rfl, _, _, rfl, rfl, wide_mul zb.1 za.2 (by decide) (by decide) (by decide), _, _, rfl, rfl, q⟩
theorem ok__law_less (T : Txt K mg) {f : Addr} {fd : FuncData} (F : FnP K "_law_less" s__law_less f fd) : FnOk P w K mg base CX0 1 f fd ["a", "b"] (spLess K) := by
  refine F.ok sc__law_less (fun vs H Q E h => ?_) (fun cdv A outer s H vs Q E hr h => ?_)
  · obtain ⟨p, p2, a, b, rfl, _⟩ := h
    rfl
  · obtain ⟨p, p2, a, b, rfl, hp, hp2, za, zb, q⟩ := h
    refine ⟨_, PSs.nox (pss_one (ps_ret (pe_cmpR op_lt (pe_op op_mulW (pe_ix ix_tup (pv 0) pe_int (fun _ _ => rfl)) (pe_ix ix_tup (pv 1) pe_int (fun _ _ => rfl))) (pe_op op_mulW (pe_ix ix_tup (pv 1) pe_int (fun _ _ => rfl)) (pe_ix ix_tup (pv 0) pe_int (fun _ _ => rfl))) (nomark _)))), ?_⟩
    exact ⟨_, rfl, p, _, _, _, rfl, rfl, SqT.of hp, atI_nat (j := 0) rfl, _, rfl, p2, _, _, _, rfl, rfl, SqT.of hp2, atI_nat (j := 1) rfl, _, _, rfl, rfl, wide_mul za.1 zb.2 (by decide) (by decide) (by decide), _, rfl, p2, _, _, _, rfl, rfl, SqT.of hp2, atI_nat (j := 0) rfl, _, rfl, p, _, _, _, rfl, rfl, SqT.of hp, atI_nat (j := 1) rfl, _, _, rfl, rfl, wide_mul zb.1 za.2 (by decide) (by decide) (by decide), _, _, rfl, rfl, q⟩
theorem ok_total_of (T : Txt K mg) (D_sum_of : Kept P w K mg base 2 "sum_of" ["a", "b"] (spBin K add2)) {f : Addr} {fd : FuncData} (F : FnP K "total_of" s_total_of f fd) : FnOk P w K mg base CX0 3 f fd ["fractions"] (spTotT K) := by
  refine F.ok sc_total_of (fun vs H Q E h => ?_) (fun cdv A outer s H vs Q E hr h => ?_)
  · obtain ⟨p, xs, fs, rfl, _⟩ := h
    rfl
  · obtain ⟨p, xs, fs, rfl, hS, hF, hl, hz, q⟩ := h
    refine ⟨_, PSs.nox (pss_cons (ps_set (i := 1) sc_total_of.nd rfl (Or.inl rfl) (pe_tup (pa_cons pe_int (pa_cons pe_int pa_nil))))
      (pss_cons (ps_for PassesOwn.never rfl (pi_tup (pv 0)) (pg_name (i := 2) sc_total_of.nd rfl (Or.inl rfl)) (pss_one (ps_set (i := 1) sc_total_of.nd rfl (Or.inl rfl) (pe_d D_sum_of (hr.mono (by decide)) (by rfl) (pa_cons (pv 1) (pa_cons (pv 2) pa_nil))))))
      (pss_one (ps_ret (pv 1))))), ?_⟩
    refine ⟨by show 2 ≤ sizeLine; decide, fun p0 hp0 => ?_⟩
    have s0 : Same H (upd H p0 (tupF (0, 1))) := same_new hp0
    have hxl : xs.length = fs.length := Paired.length hF
    refine ⟨_, rfl, p, rfl, ⟨_, same_t s0 hS⟩, for_tup (K := K) (a := p) (xs := xs) (fun i σ H1 => ∃ (t : Addr) (y : Option V), σ = [some (.ref p), some (.ref t), y] ∧ Same H H1 ∧ H1 t = some (tupF (tot (fs.take i) (0, 1)))) ⟨p0, none, rfl, s0, upd_same⟩ (fun i σ H1 _ ⟨_, _, _, s1, _⟩ => same_t s1 hS) ?_ ?_⟩
    · rintro i x σ H1 hi ⟨t, y, rfl, s1, ht⟩
      obtain ⟨f0, hf, pf, rfl, hpf⟩ := Paired.at hF hi
      have hm := List.mem_of_getElem? hf
      have z1 := tot_ok (fs.take i) (0, 1) low0 sz0 (fun x hx => hz x (List.mem_of_mem_take hx))
      have e6 : fs.take (i + 1) = fs.take i ++ [f0] := by
        rw [List.take_add_one, hf]
        rfl
      have hil : (fs.take i).length ≤ 8 := Nat.le_trans (by rw [List.length_take]; exact Nat.min_le_right _ _) hl
      refine ⟨_, rfl, _, rfl, t, pf, _, f0, rfl, ht, s1 _ _ hpf, sz_up z1.1 (by omega), sz_up (hz f0 hm).1 (by decide), ?_, fun r hr => ?_⟩
      · have h1 := z1.2.pos
        have h2 := (hz f0 hm).2.pos
        exact Int.ne_of_gt (Int.mul_pos (by omega) (by omega))
      · refine ⟨r, _, rfl, s1.trans (same_new hr), ?_⟩
        rw [e6, tot_snoc]
        exact upd_same
    · rintro σ H1 ⟨t, y, rfl, s1, ht⟩
      rw [List.take_of_length_le (by omega)] at ht
      exact ⟨_, rfl, q H1 t s1 ht⟩
theorem ok__law_sum (T : Txt K mg) (D__law_plus : Kept P w K mg base 2 "_law_plus" ["a", "b"] (spBin K add2)) {f : Addr} {fd : FuncData} (F : FnP K "_law_sum" s__law_sum f fd) : FnOk P w K mg base CX0 3 f fd ["row"] (spTotL K) := by
  refine F.ok sc__law_sum (fun vs H Q E h => ?_) (fun cdv A outer s H vs Q E hr h => ?_)
  · obtain ⟨p, xs, fs, rfl, _⟩ := h
    rfl
  · obtain ⟨p, xs, fs, rfl, hS, hF, hl, hz, q⟩ := h
    refine ⟨_, PSs.nox (pss_cons (ps_set (i := 1) sc__law_sum.nd rfl (Or.inl rfl) (pe_tup (pa_cons pe_int (pa_cons pe_int pa_nil))))
      (pss_cons (ps_for PassesOwn.never rfl (pi_list (pv 0)) (pg_name (i := 2) sc__law_sum.nd rfl (Or.inl rfl)) (pss_one (ps_set (i := 1) sc__law_sum.nd rfl (Or.inl rfl) (pe_d D__law_plus (hr.mono (by decide)) (by rfl) (pa_cons (pv 1) (pa_cons (pv 2) pa_nil))))))
      (pss_one (ps_ret (pv 1))))), ?_⟩
    refine ⟨by show 2 ≤ sizeLine; decide, fun p0 hp0 => ?_⟩
    have s0 : Same H (upd H p0 (tupF (0, 1))) := same_new hp0
    have hxl : xs.length = fs.length := Paired.length hF
    refine ⟨_, rfl, p, rfl, ⟨_, same_l s0 hS⟩, for_list (K := K) (a := p) (xs := xs) (fun i σ H1 => ∃ (t : Addr) (y : Option V), σ = [some (.ref p), some (.ref t), y] ∧ Same H H1 ∧ H1 t = some (tupF (tot (fs.take i) (0, 1)))) ⟨p0, none, rfl, s0, upd_same⟩ (fun i σ H1 _ ⟨_, _, _, s1, _⟩ => same_l s1 hS) ?_ ?_⟩
    · rintro i x σ H1 hi ⟨t, y, rfl, s1, ht⟩
      obtain ⟨f0, hf, pf, rfl, hpf⟩ := Paired.at hF hi
      have hm := List.mem_of_getElem? hf
      have z1 := tot_ok (fs.take i) (0, 1) low0 sz0 (fun x hx => hz x (List.mem_of_mem_take hx))
      have e6 : fs.take (i + 1) = fs.take i ++ [f0] := by
        rw [List.take_add_one, hf]
        rfl
      have hil : (fs.take i).length ≤ 8 := Nat.le_trans (by rw [List.length_take]; exact Nat.min_le_right _ _) hl
      refine ⟨_, rfl, _, rfl, t, pf, _, f0, rfl, ht, s1 _ _ hpf, sz_up z1.1 (by omega), sz_up (hz f0 hm).1 (by decide), ?_, fun r hr => ?_⟩
      · have h1 := z1.2.pos
        have h2 := (hz f0 hm).2.pos
        exact Int.ne_of_gt (Int.mul_pos (by omega) (by omega))
      · refine ⟨r, _, rfl, s1.trans (same_new hr), ?_⟩
        rw [e6, tot_snoc]
        exact upd_same
    · rintro σ H1 ⟨t, y, rfl, s1, ht⟩
      rw [List.take_of_length_le (by omega)] at ht
      exact ⟨_, rfl, q H1 t s1 ht⟩
theorem ok__law_is_int (T : Txt K mg) {f : Addr} {fd : FuncData} (F : FnP K "_law_is_int" s__law_is_int f fd) : FnOk P w K mg base CX0 1 f fd ["thing"] spIsInt := by
  refine F.ok sc__law_is_int (fun vs H Q E h => ?_) (fun cdv A outer s H vs Q E hr h => ?_)
  · obtain ⟨p, rfl, _⟩ := h
    rfl
  · obtain ⟨i, rfl, q⟩ := h
    refine ⟨_, PSs.nox (pss_one (ps_ret (pe_and (pe_callB call_isi (by rfl) T.b_isinstance (by decide +kernel) (pa_cons (pv 0) (pa_cons (pe_bltn (v := .ty "int") (u := .type "int") (by rfl) T.b_int (by decide +kernel) rfl) pa_nil))) (pe_one (pe_not (pe_callB call_isi (by rfl) T.b_isinstance (by decide +kernel) (pa_cons (pv 0) (pa_cons (pe_bltn (v := .ty "bool") (u := .type "bool") (by rfl) T.b_bool (by decide +kernel) rfl) pa_nil)))))))), ?_⟩
    refine ⟨_, rfl, _, .ty "int", .type "int", .type "int", true, rfl, .ty _, .base (.int _), kit_ty (by decide +kernel), true, rfl, ?_⟩
    exact ⟨_, rfl, _, .ty "bool", .type "int", .type "bool", false, rfl, .ty _, .base (.int _), kit_ty (by decide +kernel), false, rfl, q⟩
theorem ok__law_is_ints (T : Txt K mg) (D__law_is_int : Kept P w K mg base 1 "_law_is_int" ["thing"] spIsInt) {f : Addr} {fd : FuncData} (F : FnP K "_law_is_ints" s__law_is_ints f fd) : FnOk P w K mg base CX0 2 f fd ["row"] (spIsInts K) := by
  refine F.ok sc__law_is_ints (fun vs H Q E h => ?_) (fun cdv A outer s H vs Q E hr h => ?_)
  · obtain ⟨p, ns, rfl, _⟩ := h
    rfl
  · obtain ⟨p, ns, rfl, hp, hl, q⟩ := h
    refine ⟨_, PSs.nox (pss_one (ps_ret (pe_and (pe_callB call_isi (by rfl) T.b_isinstance (by decide +kernel) (pa_cons (pv 0) (pa_cons (pe_bltn (v := .ty "tuple") (u := .type "tuple") (by rfl) T.b_tuple (by decide +kernel) rfl) pa_nil))) (pe_one (pe_callB (cr_all rfl) (by rfl) T.b_all (by decide +kernel) (pa_cons (pe_lc (own := [("part", 1)]) (g := (gName 1)) (tt := tYes) rfl sc__law_is_ints.nd (pi_tup (pv 0)) (blkOk_by (N := N__law_is_ints) (sc := defScope s__law_is_ints) (by decide +kernel)) (fun _ _ _ _ _ => (pg_name (i := 1) sc__law_is_ints.nd rfl (Or.inl rfl))) (fun _ _ _ _ _ => pts_nil) (fun _ _ _ _ _ => (pe_d D__law_is_int (hr.mono (by decide)) (by rfl) (pa_cons (pv 1) pa_nil)))) pa_nil)))))), ?_⟩
    refine ⟨_, rfl, _, .ty "tuple", .type "tuple", .type "tuple", true, rfl, .ty _, .base (.tup hp), kit_ty (by decide +kernel), true, rfl, ?_⟩
    refine ⟨_, rfl, p, rfl, ⟨_, SqT.of hp⟩, fun L hL => lc_tup (K := K) (a := p) (xs := ns.map V.int) (fun i H' => H' = upd H L (.lst ((ns.take i).map fun _ => .bl true))) rfl (fun i H' _ e => ?_) ?_ ?_⟩
    · subst e
      exact same_t (same_new hL) (SqT.of hp)
    · rintro i x H1 hi rfl
      obtain ⟨z, rfl, hz⟩ := getV hi
      refine ⟨rfl, _, rfl, z, rfl, _, upd_same, ?_, ?_⟩
      · rw [List.length_map, List.length_take]
        exact Nat.lt_of_le_of_lt (Nat.min_le_right _ _) (small1000 (by omega))
      · rw [upd_upd, take_map_succ (f := fun _ => V.bl true) hz]
    · rintro H' rfl
      rw [List.take_of_length_le (by rw [List.length_map]; exact Nat.le_refl _)]
      refine ⟨L, ns.map fun _ => true, rfl, SqL.of (by rw [upd_same, List.map_map]; rfl), ?_⟩
      rw [all_true]
      exact q _ (same_new hL)
theorem ok__law_is_frac (T : Txt K mg) (D__law_is_ints : Kept P w K mg base 2 "_law_is_ints" ["row"] (spIsInts K)) (D__law_frac : Kept P w K mg base 1 "_law_frac" ["n", "d"] spFrac) {f : Addr} {fd : FuncData} (F : FnP K "_law_is_frac" s__law_is_frac f fd) : FnOk P w K mg base CX0 3 f fd ["thing"] (spIsFrac K) := by
  refine F.ok sc__law_is_frac (fun vs H Q E h => ?_) (fun cdv A outer s H vs Q E hr h => ?_)
  · obtain ⟨p, x, rfl, _⟩ := h
    rfl
  · obtain ⟨p, x, rfl, hp, hx, hz, q⟩ := h
    refine ⟨_, PSs.nox (pss_cons (ps_if (PW.pt (pw_or (pt_not (pt_val (pe_callB call_isi (by rfl) T.b_isinstance (by decide +kernel) (pa_cons (pv 0) (pa_cons (pe_bltn (v := .ty "tuple") (u := .type "tuple") (by rfl) T.b_tuple (by decide +kernel) rfl) pa_nil))))) (pw_or (pt_cmpR op_ne (pe_callB call_len (by rfl) T.b_len (by decide +kernel) (pa_cons (pv 0) pa_nil)) pe_int (nomark _)) (pw_or1 (pt_not (pt_val (pe_d D__law_is_ints (hr.mono (by decide)) (by rfl) (pa_cons (pv 0) pa_nil)))))))) (pss_one (ps_ret pe_bl)) pss_nil)
      (pss_one (ps_ret (pe_and (pe_cmpR op_ge (pe_ix ix_tup (pv 0) pe_int (fun _ _ => rfl)) pe_int (nomark _)) (pe_one (pe_cmpR (op_eqD (hr.units)) (pe_d D__law_frac (hr.mono (by decide)) (by rfl) (pa_cons (pe_ix ix_tup (pv 0) pe_int (fun _ _ => rfl)) (pa_cons (pe_ix ix_tup (pv 0) pe_int (fun _ _ => rfl)) pa_nil))) (pv 0) (nomark _))))))), ?_⟩
    refine ⟨_, rfl, _, .ty "tuple", .type "tuple", .type "tuple", true, rfl, .ty _, .base (.tup hp), kit_ty (by decide +kernel), true, rfl, ?_⟩
    refine ⟨_, rfl, _, _, rfl, .inr ⟨_, SqT.of hp, rfl⟩, rfl, _, rfl, ?_⟩
    refine iteNS rfl ?_
    refine ⟨_, rfl, p, [x.1, x.2], rfl, hp, (by show 2 ≤ 100; decide), fun H1 s1 => ⟨true, rfl, ?_⟩⟩
    have hp1 := s1 _ _ hp
    refine ⟨_, rfl, p, _, _, _, rfl, rfl, SqT.of hp1, atI_nat (j := 1) rfl, _, _, rfl, rfl, _, rfl, ?_⟩
    refine ite2 (fun _ => ?_) (fun n => absurd (decide_eq_true hx.pos) n)
    refine ⟨_, rfl, p, _, _, _, rfl, rfl, SqT.of hp1, atI_nat (j := 0) rfl, _, rfl, p, _, _, _, rfl, rfl, SqT.of hp1, atI_nat (j := 1) rfl, x.1, x.2, rfl, ?_, hz, fun r hr => ?_⟩
    · have := hx.pos
      omega
    · rw [low_fr hx]
      refine ⟨_, rfl, dF x, dF x, dp_F upd_same, dp_F (same_new hr _ _ hp1), dF_sh x, dF_sh x, ?_⟩
      rw [dF_eqv]
      exact q _ (s1.trans (same_new hr))
theorem ok__law_number_of (T : Txt K mg) (D__law_draw : Kept P w K mg base 1 "_law_draw" ["d", "many"] spDraw) (D__law_pick : Kept P w K mg base 2 "_law_pick" ["d", "row"] (spPick K)) {f : Addr} {fd : FuncData} (F : FnP K "_law_number_of" s__law_number_of f fd) : FnOk P w K mg base CX0 3 f fd ["d"] spNumber := by
  refine F.ok sc__law_number_of (fun vs H Q E h => ?_) (fun cdv A outer s H vs Q E hr h => ?_)
  · obtain ⟨S, D, rfl, _⟩ := h
    rfl
  · obtain ⟨S, D, rfl, d, q⟩ := h
    refine ⟨_, PSs.nox (pss_cons (ps_set (i := 1) sc__law_number_of.nd rfl (Or.inl rfl) (pe_d D__law_pick (hr.mono (by decide)) (by rfl) (pa_cons (pv 0) (pa_cons (pe_lst (pa_cons pe_int (pa_cons pe_int (pa_cons pe_int (pa_cons pe_int (pa_cons (pe_op op_pow pe_int pe_int) (pa_cons (pe_op op_pow pe_int pe_int) (pa_cons (pe_op op_pow pe_int pe_int) pa_nil)))))))) pa_nil))))
      (pss_one (ps_ret (pe_op op_sub (pe_d D__law_draw (hr.mono (by decide)) (by rfl) (pa_cons (pv 0) (pa_cons (pv 1) pa_nil))) (pe_op op_mul (pe_d D__law_draw (hr.mono (by decide)) (by rfl) (pa_cons (pv 0) (pa_cons (pv 1) pa_nil))) (pe_d D__law_draw (hr.mono (by decide)) (by rfl) (pa_cons (pv 0) (pa_cons pe_int pa_nil)))))))), ?_⟩
    refine ⟨_, rfl, _, _, rfl, rfl, ⟨by decide, by decide, by decide⟩, _, _, rfl, rfl, ⟨by decide, by decide, by decide⟩, _, _, rfl, rfl, ⟨by decide, by decide, by decide⟩, by show 7 ≤ sizeLine; decide, fun p hp => ?_⟩
    have g0 := Go.new (o := .lst [.int 1, .int 3, .int 7, .int 100, .int (10 ^ (6 : Int).toNat), .int (10 ^ (12 : Int).toNat), .int (10 ^ (25 : Int).toNat)]) d hp
    refine ⟨S, D, _, _, rfl, g0.1, fun H' gg => .inr ⟨p, rfl, SqL.of (gg.2 _ _ upd_same (d.free hp).1)⟩, by decide, by decide, fun H1 x hx g1 => ?_⟩
    obtain ⟨v, rfl, v0, v1⟩ : ∃ v : Int, x = .int v ∧ 0 < v ∧ v ≤ 10000000000000000000000000 := by
      simp only [List.mem_cons, List.not_mem_nil, or_false] at hx
      rcases hx with h | h | h | h | h | h | h <;> exact ⟨_, h, by decide, by decide⟩
    have cv : CDivW 0 v := wide_div v0 (b := 84) (by have : (2 : Nat) ^ 84 = 19342813113834066795298816 := by decide
                                                     omega) (by decide) (by decide)
    refine ⟨_, rfl, _, rfl, S, D, v, rfl, cv, g1.1, fun H2 r1 a0 a1 g2 => ?_⟩
    refine ⟨_, rfl, _, rfl, S, D, v, rfl, cv, g2.1, fun H3 r2 b0 b1 g3 => ?_⟩
    refine ⟨_, rfl, S, D, 2, rfl, divW_of (by decide) (by decide), g3.1, fun H4 r3 c0 c1 g4 => ?_⟩
    refine ⟨_, _, rfl, rfl, .inr ⟨by omega, by omega⟩, _, _, rfl, rfl, ?_⟩
    refine q H4 _ ?_ ((((g0.trans g1).trans g2).trans g3).trans g4)
    have e85 : (2 : Nat) ^ 85 = 38685626227668133590597632 := by decide
    have : r3 = 0 ∨ r3 = 1 := by omega
    rcases this with rfl | rfl
    · omega
    · omega
theorem ok__law_pair (T : Txt K mg) (D__law_draw : Kept P w K mg base 1 "_law_draw" ["d", "many"] spDraw) (D__law_pick : Kept P w K mg base 2 "_law_pick" ["d", "row"] (spPick K)) (D__law_number_of : Kept P w K mg base 3 "_law_number_of" ["d"] spNumber) {f : Addr} {fd : FuncData} (F : FnP K "_law_pair" s__law_pair f fd) : FnOk P w K mg base CX0 4 f fd ["d"] spPair := by
  refine F.ok sc__law_pair (fun vs H Q E h => ?_) (fun cdv A outer s H vs Q E hr h => ?_)
  · obtain ⟨S, D, rfl, _⟩ := h
    rfl
  · obtain ⟨S, D, rfl, d, q⟩ := h
    refine ⟨_, PSs.nox (pss_cons (ps_set (i := 1) sc__law_pair.nd rfl (Or.inl rfl) (pe_op op_mul (pe_d D__law_number_of (hr.mono (by decide)) (by rfl) (pa_cons (pv 0) pa_nil)) (pe_callTy call_int1 (by rfl) T.b_int (by decide +kernel) (pa_cons (pe_cmpR op_gt (pe_d D__law_draw (hr.mono (by decide)) (by rfl) (pa_cons (pv 0) (pa_cons pe_int pa_nil))) pe_int (nomark _)) pa_nil))))
      (pss_cons (ps_set (i := 2) sc__law_pair.nd rfl (Or.inl rfl) (pe_d D__law_number_of (hr.mono (by decide)) (by rfl) (pa_cons (pv 0) pa_nil)))
      (Evl.pss_cut (ps_if (pt_cmpR op_eq (pv 2) pe_int (nomark _)) (pss_one (ps_set (i := 2) sc__law_pair.nd rfl (Or.inl rfl) (pe_d D__law_pick (hr.mono (by decide)) (by rfl) (pa_cons (pv 0) (pa_cons (pe_lst (pa_cons pe_int (pa_cons (pe_un un_neg pe_int) (pa_cons pe_int pa_nil)))) pa_nil))))) pss_nil)
      (pss_cons (ps_set (i := 3) sc__law_pair.nd rfl (Or.inl rfl) (pe_d D__law_pick (hr.mono (by decide)) (by rfl) (pa_cons (pv 0) (pa_cons (pe_lst (pa_cons pe_int (pa_cons pe_int (pa_cons pe_int (pa_cons (pe_un un_neg pe_int) (pa_cons pe_int pa_nil)))))) pa_nil))))
      (pss_one (ps_ret (pe_tup (pa_cons (pe_op op_mul (pv 1) (pv 3)) (pa_cons (pe_op op_mul (pv 2) (pv 3)) pa_nil))))))))), ?_⟩
    refine ⟨_, rfl, S, D, rfl, d, fun H1 v hv g1 => ?_⟩
    refine ⟨_, rfl, S, D, 5, rfl, divW_of (by decide) (by decide), g1.1, fun H2 r r0 r5 g2 => ⟨_, _, rfl, rfl, .inr ⟨_, rfl, _, _, rfl, rfl, .inr ?_, ?_⟩⟩⟩
    · split <;> exact ⟨by decide, by decide⟩
    have hn : ∃ n : Int, n = v * (if decide (0 < r) = true then (1 : Int) else 0) ∧ n.natAbs < 2 ^ 85 := by
      refine ⟨_, rfl, ?_⟩
      split
      · rw [Int.mul_one]; exact hv
      · rw [Int.mul_zero]; decide
    obtain ⟨n, en, hn⟩ := hn
    refine ⟨_, rfl, S, D, rfl, g2.1, fun H3 b hb g3 => ?_⟩
    have g03 := (g1.trans g2).trans g3
    refine ⟨fun σ H' => ∃ b' : Int, σ = [some (.ref D), some (.int (v * (if decide (0 < r) = true then (1 : Int) else 0))), some (.int b'), none] ∧ b' ≠ 0 ∧ b'.natAbs < 2 ^ 85 ∧ Go S D H H', ?_, ?_⟩
    · refine ⟨_, rfl, rfl, _, rfl, ?_⟩
      refine ite2 (fun e => ?_) (fun e => ?_)
      · refine ⟨_, rfl, _, rfl, by show 3 ≤ sizeLine; decide, fun p hp => ?_⟩
        have g4 := Go.new (o := .lst [.int 1, .int (-1), .int 6]) g3.1 hp
        refine ⟨S, D, _, _, rfl, g4.1, fun H' gg => .inr ⟨p, rfl, SqL.of (gg.2 _ _ upd_same (g3.1.free hp).1)⟩, by decide, by decide, fun H5 x hx g5 => ?_⟩
        simp only [List.mem_cons, List.not_mem_nil, or_false] at hx
        rcases hx with h | h | h <;> (subst h; exact ⟨_, rfl, by decide, by decide, (g03.trans g4).trans g5⟩)
      · refine ⟨b, rfl, fun z => e (by rw [z]; exact decide_eq_true rfl), hb, g03⟩
    · rintro σ H' ⟨b', rfl, hb0, hb1, g4⟩
      refine ⟨_, rfl, _, rfl, by show 5 ≤ sizeLine; decide, fun p hp => ?_⟩
      have g5 := Go.new (o := .lst [.int 1, .int 1, .int 2, .int (-3), .int 12]) g4.1 hp
      refine ⟨S, D, _, _, rfl, g5.1, fun H' gg => .inr ⟨p, rfl, SqL.of (gg.2 _ _ upd_same (g4.1.free hp).1)⟩, by decide, by decide, fun H6 x hx g6 => ?_⟩
      obtain ⟨f0, rfl, hf0, hf1, hf2, hf3⟩ : ∃ f0 : Int, x = .int f0 ∧ f0 ≠ 0 ∧ f0.natAbs < 2 ^ 4 ∧ -(2 ^ 64) < f0 ∧ f0 < 2 ^ 64 := by
        simp only [List.mem_cons, List.not_mem_nil, or_false] at hx
        rcases hx with h | h | h | h | h <;> exact ⟨_, h, by decide, by decide, by decide, by decide⟩
      refine ⟨_, rfl, _, rfl, _, _, rfl, rfl, .inr ⟨hf2, hf3⟩, _, rfl, _, rfl, _, _, rfl, rfl, .inr ⟨hf2, hf3⟩, by show 2 ≤ sizeLine; decide, fun r2 hr2 => ?_⟩
      rw [← en]
      have g06 := (g4.trans g5).trans g6
      refine q _ r2 (n * f0, b' * f0) (Int.mul_ne_zero hb0 hf0) ⟨n_up (sz_mul hn hf1) (by decide), n_up (sz_mul hb1 hf1) (by decide)⟩ (g06.free d hr2) upd_same (g06.trans (Go.new g06.1 hr2))
theorem tup_go {S D : Addr} {H H' : Hp} {p : Addr} {x : Int × Int} (d : DrawAt S D H) (g : Go S D H H') (h : H p = some (tupF x)) : H' p = some (tupF x) := by
  obtain ⟨i, r, c, _, hD⟩ := d.at_
  exact g.2 p _ h (ne_of h hD (by intro z; cases z))
theorem lst_go {S D : Addr} {H H' : Hp} {p : Addr} {o : HO} (g : Go S D H H') (n : p ≠ D) (h : H p = some o) : H' p = some o := g.2 p _ h n
theorem DrawAt.upd {S D L : Addr} {H : Hp} {o : HO} (d : DrawAt S D H) (n1 : L ≠ D) (n2 : L ≠ S) : DrawAt S D (upd H L o) := by
  obtain ⟨cs, h1⟩ := d.cells
  obtain ⟨i, r, c, h0, h2⟩ := d.at_
  exact ⟨d.ne, ⟨cs, by rw [upd_ne n2.symm]; exact h1⟩, ⟨i, r, c, h0, by rw [upd_ne n1.symm]; exact h2⟩⟩
/-- what the law's fractions are -/
def Good (x : F2) : Prop := Sz 100 x ∧ Low x
theorem frs_snoc {H : Hp} {L r : Addr} {xs : List V} {fs : List F2} {x : F2} (hL : H L = some (.lst xs)) (hf : Frs H xs fs) (hr : H r = some (tupF x)) (o : HO) : Frs (upd H L o) (xs ++ [.ref r]) (fs ++ [x]) :=
  Paired.snoc (frs_mono (fun p y hp => tup_upd hL hp) hf) ⟨r, rfl, tup_upd hL hr⟩
theorem frs_new {H : Hp} {L r : Addr} {xs : List V} {fs : List F2} {x : F2} (hL : H L = some (.lst xs)) (hf : Frs H xs fs) (hr : H r = none) (o : HO) : Frs (upd (upd H r (tupF x)) L o) (xs ++ [.ref r]) (fs ++ [x]) :=
  frs_snoc (xs := xs) (by rw [upd_ne (ne_of_none hL hr)]; exact hL) (frs_same (same_new hr) hf) upd_same o
theorem frs_mem {H : Hp} : ∀ {xs : List V} {fs : List F2} {x : V}, Frs H xs fs → x ∈ xs → ∃ p f, x = .ref p ∧ H p = some (tupF f) ∧ f ∈ fs
  | _, _, _, .nil, h => absurd h List.not_mem_nil
  | _, _, _, .cons ⟨p, e, hp⟩ t, h => by
    rcases List.mem_cons.mp h with h | h
    · exact ⟨p, _, h.trans e, hp, List.mem_cons_self⟩
    · obtain ⟨p, f, e, hp, hf⟩ := frs_mem t h
      exact ⟨p, f, e, hp, List.mem_cons_of_mem _ hf⟩
theorem mem_cut {xs : List V} {x : V} {lo hi : Option Int} (h : x ∈ cutV xs lo hi) : x ∈ xs := List.mem_of_mem_drop (List.mem_of_mem_take h)
/-- a change at a place that H does not know -/
theorem same_mut {H H' : Hp} {p : Addr} {o : HO} (s : Same H H') (h : H p = none) : Same H (upd H' p o) := fun b u e => by
  rw [upd_ne (ne_of_none e h)]
  exact s b u e
/-- [is_frac(part) for part in xs], all of them right -/
theorem lc_fracs {σ : L2.St} {H : Hp} {T : Addr} {ys : List V} {gs : List F2} {i : Nat} {Q : VK} (hi : σ[i]? = some (some (.ref T))) (hT : H T = some (.lst ys)) (hf : Frs H ys gs) (hg : ∀ x ∈ gs, Low x ∧ Sz 4000 x) (hl : gs.length ≤ 900) (h8 : 8 < σ.length)
    (q : ∀ L H', Same H H' → H' L = some (.lst (gs.map fun _ => .bl true)) → Q (.ref L) H') : tLc (iList K (tVar i)) (gName 8) tYes (tCall (spIsFrac K) [] E0 (tCons (tVar 8) tNil)) [8] σ H Q := by
  have hyl : ys.length = gs.length := Paired.length hf
  refine ⟨_, hi, T, rfl, ⟨_, SqL.of hT⟩, fun L hL => lc_list (K := K) (a := T) (xs := ys) (fun i H' => Same H H' ∧ H' L = some (.lst ((gs.take i).map fun _ => .bl true))) ⟨same_new hL, upd_same⟩ (fun i H' _ e => e.1.seq (SqL.of hT)) ?_ ?_⟩
  · rintro i x H1 hi ⟨s1, h1⟩
    obtain ⟨f0, hf0, pf, rfl, hpf⟩ := Paired.at hf hi
    obtain ⟨g1, g2⟩ := hg f0 (List.mem_of_getElem? hf0)
    refine ⟨?_, _, ?_, pf, f0, rfl, s1 _ _ hpf, g1, g2, fun H2 s2 => ⟨_, s2 _ _ h1, ?_, ?_⟩⟩
    · show (((σ.set 8 none).set 8 (some (V.ref pf))).set 8 none) = σ.set 8 none
      rw [List.set_set, List.set_set]
    · show ((σ.set 8 none).set 8 (some (V.ref pf)))[8]? = _
      rw [List.getElem?_set_self (by rw [List.length_set]; exact h8)]
    · rw [List.length_map, List.length_take]
      exact Nat.lt_of_le_of_lt (Nat.min_le_right _ _) (small1000 (by omega))
    · exact ⟨same_mut (s1.trans s2) hL, by rw [take_map_succ (f := fun _ => V.bl true) hf0]; exact upd_same⟩
  · rintro H' ⟨s1, h1⟩
    rw [List.take_of_length_le (by omega)] at h1
    exact q L H' s1 h1
theorem iteNT {A B : Prop} (h : B) : if (!true) = true then A else B := iteF h
theorem all_fracs {σ : L2.St} {H : Hp} {T : Addr} {ys : List V} {gs : List F2} {i : Nat} {k : Bool → Hp → Prop} (hi : σ[i]? = some (some (.ref T))) (hT : H T = some (.lst ys)) (hf : Frs H ys gs) (hg : ∀ x ∈ gs, Low x ∧ Sz 4000 x) (hl : gs.length ≤ 900) (h8 : 8 < σ.length)
    (q : ∀ H', Same H H' → k false H') : tNot (tB (tCB (rAll K) (tCons (tLc (iList K (tVar i)) (gName 8) tYes (tCall (spIsFrac K) [] E0 (tCons (tVar 8) tNil)) [8]) tNil))) σ H k := by
  unfold tNot tB tCB tCons tNil
  refine lc_fracs (K := K) hi hT hf hg hl h8 fun L H' s h => ?_
  refine ⟨L, gs.map fun _ => true, rfl, SqL.of (by rw [h, List.map_map]; rfl), _, rfl, ?_⟩
  rw [all_true]
  exact q H' s
theorem ok_law (T : Txt K mg) (D_make_fraction : Kept P w K mg base 1 "make_fraction" ["n", "d"] spFrac) (D_sum_of : Kept P w K mg base 2 "sum_of" ["a", "b"] (spBin K add2)) (D_difference_of : Kept P w K mg base 2 "difference_of" ["a", "b"] (spBin K sub2)) (D_product_of : Kept P w K mg base 2 "product_of" ["a", "b"] (spBin K mul2)) (D_quotient_of : Kept P w K mg base 2 "quotient_of" ["a", "b"] (spBin K div2)) (D_total_of : Kept P w K mg base 3 "total_of" ["fractions"] (spTotT K)) (D_is_less : Kept P w K mg base 1 "is_less" ["a", "b"] (spLess K)) (D__law_begin : Kept P w K mg base 1 "_law_begin" ["script"] (spBegin K)) (D__law_draw : Kept P w K mg base 1 "_law_draw" ["d", "many"] spDraw) (D__law_frac : Kept P w K mg base 1 "_law_frac" ["n", "d"] spFrac) (D__law_plus : Kept P w K mg base 2 "_law_plus" ["a", "b"] (spBin K add2)) (D__law_minus : Kept P w K mg base 2 "_law_minus" ["a", "b"] (spBin K sub2)) (D__law_times : Kept P w K mg base 2 "_law_times" ["a", "b"] (spBin K mul2)) (D__law_div : Kept P w K mg base 2 "_law_div" ["a", "b"] (spBin K div2)) (D__law_less : Kept P w K mg base 1 "_law_less" ["a", "b"] (spLess K)) (D__law_sum : Kept P w K mg base 3 "_law_sum" ["row"] (spTotL K)) (D__law_is_frac : Kept P w K mg base 3 "_law_is_frac" ["thing"] (spIsFrac K)) (D__law_pair : Kept P w K mg base 4 "_law_pair" ["d"] spPair) {f : Addr} {fd : FuncData} (F : FnP K "law" s_law f fd) : FnOk P w K mg base CX0 5 f fd ["script"] (spLaw K) := by
  refine F.ok sc_law (fun vs H Q E h => ?_) (fun cdv A outer s H vs Q E hr h => ?_)
  · obtain ⟨a, ns, rfl, _⟩ := h
    rfl
  · obtain ⟨a, ns, rfl, hS, hlen, q⟩ := h
    refine ⟨_, PSs.nox (pss_cons (ps_set (i := 1) sc_law.nd rfl (Or.inr rfl) (pe_d D__law_begin (hr.mono (by decide)) (by rfl) (pa_cons (pv 0) pa_nil)))
      (pss_cons (ps_setLc (i := 2) (own := [("k", 3)]) (g := (gName 3)) (tt := tYes) rfl sc_law.nd rfl rfl (sw_true rfl rfl rfl (by decide +kernel)) (pi_range1 (by rfl) T.b_range (pa_cons (pe_op op_add pe_int (pe_d D__law_draw (hr.mono (by decide)) (by rfl) (pa_cons (pv 1) (pa_cons pe_int pa_nil)))) pa_nil)) (blkOk_by (N := N_law) (sc := defScope s_law) (by decide +kernel)) (fun _ _ _ _ _ => (pg_name (i := 3) sc_law.nd rfl (Or.inl rfl))) (fun _ _ _ _ _ => pts_nil) (fun _ _ _ _ _ => (pe_d D__law_pair (hr.mono (by decide)) (by rfl) (pa_cons (pv 1) pa_nil))))
      (pss_cons (ps_setLc (i := 4) (own := [("n", 5), ("bottom", 6)]) (g := (gTup K 2 (gCons (gName 5) (gCons (gName 6) gNil)))) (tt := tYes) rfl sc_law.nd rfl rfl (sw_true rfl rfl rfl (by decide +kernel)) (pi_list (pv 2)) (blkOk_by (N := N_law) (sc := defScope s_law) (by decide +kernel)) (fun _ _ _ _ _ => (pg_tup rfl (pgs_cons (pg_name (i := 5) sc_law.nd rfl (Or.inl rfl)) (pgs_cons (pg_name (i := 6) sc_law.nd rfl (Or.inl rfl)) pgs_nil)))) (fun _ _ _ _ _ => pts_nil) (fun _ _ _ _ _ => (pe_d D_make_fraction (hr.mono (by decide)) (by rfl) (pa_cons (pv 5) (pa_cons (pv 6) pa_nil)))))
      (pss_cons (ps_setLc (i := 7) (own := [("n", 5), ("bottom", 6)]) (g := (gTup K 2 (gCons (gName 5) (gCons (gName 6) gNil)))) (tt := tYes) rfl sc_law.nd rfl rfl (sw_true rfl rfl rfl (by decide +kernel)) (pi_list (pv 2)) (blkOk_by (N := N_law) (sc := defScope s_law) (by decide +kernel)) (fun _ _ _ _ _ => (pg_tup rfl (pgs_cons (pg_name (i := 5) sc_law.nd rfl (Or.inl rfl)) (pgs_cons (pg_name (i := 6) sc_law.nd rfl (Or.inl rfl)) pgs_nil)))) (fun _ _ _ _ _ => pts_nil) (fun _ _ _ _ _ => (pe_d D__law_frac (hr.mono (by decide)) (by rfl) (pa_cons (pv 5) (pa_cons (pv 6) pa_nil)))))
      (pss_cons (ps_if (PW.pt (pw_or (pt_cmpR (op_neD (hr.units)) (pv 4) (pv 7) (nomark _)) (pw_or1 (pt_not (pt_val (pe_callB (cr_all rfl) (by rfl) T.b_all (by decide +kernel) (pa_cons (pe_lc (own := [("part", 8)]) (g := (gName 8)) (tt := tYes) rfl sc_law.nd (pi_list (pv 4)) (blkOk_by (N := N_law) (sc := defScope s_law) (by decide +kernel)) (fun _ _ _ _ _ => (pg_name (i := 8) sc_law.nd rfl (Or.inl rfl))) (fun _ _ _ _ _ => pts_nil) (fun _ _ _ _ _ => (pe_d D__law_is_frac (hr.mono (by decide)) (by rfl) (pa_cons (pv 8) pa_nil)))) pa_nil))))))) (pss_one (ps_ret pe_bl)) pss_nil)
      (pss_cons (ps_for PassesOwn.never rfl (pi_list (pe_slice sl_list (pv 7) po_none (po_some pe_int))) (pg_name (i := 9) sc_law.nd rfl (Or.inl rfl)) (pss_one (ps_for PassesOwn.never rfl (pi_list (pe_slice sl_list (pv 7) po_none (po_some pe_int))) (pg_name (i := 10) sc_law.nd rfl (Or.inl rfl)) (pss_cons (ps_set (i := 11) sc_law.nd rfl (Or.inl rfl) (pe_lst (pa_cons (pe_d D_sum_of (hr.mono (by decide)) (by rfl) (pa_cons (pv 9) (pa_cons (pv 10) pa_nil))) (pa_cons (pe_d D_difference_of (hr.mono (by decide)) (by rfl) (pa_cons (pv 9) (pa_cons (pv 10) pa_nil))) (pa_cons (pe_d D_product_of (hr.mono (by decide)) (by rfl) (pa_cons (pv 9) (pa_cons (pv 10) pa_nil))) pa_nil)))))
      (pss_cons (ps_set (i := 12) sc_law.nd rfl (Or.inl rfl) (pe_lst (pa_cons (pe_d D__law_plus (hr.mono (by decide)) (by rfl) (pa_cons (pv 9) (pa_cons (pv 10) pa_nil))) (pa_cons (pe_d D__law_minus (hr.mono (by decide)) (by rfl) (pa_cons (pv 9) (pa_cons (pv 10) pa_nil))) (pa_cons (pe_d D__law_times (hr.mono (by decide)) (by rfl) (pa_cons (pv 9) (pa_cons (pv 10) pa_nil))) pa_nil)))))
      (Evl.pss_cut (ps_if (pt_cmpR (op_neD (hr.units)) (pv 10) (pe_tup (pa_cons pe_int (pa_cons pe_int pa_nil))) (nomark _)) (pss_cons (ps_expr (pe_bm PySem.F.plainAttrs_list PySem.F.slot_list_append PySem.F.type_list_append mt_append (pv 11) (pa_cons (pe_d D_quotient_of (hr.mono (by decide)) (by rfl) (pa_cons (pv 9) (pa_cons (pv 10) pa_nil))) pa_nil)))
      (pss_one (ps_expr (pe_bm PySem.F.plainAttrs_list PySem.F.slot_list_append PySem.F.type_list_append mt_append (pv 12) (pa_cons (pe_d D__law_div (hr.mono (by decide)) (by rfl) (pa_cons (pv 9) (pa_cons (pv 10) pa_nil))) pa_nil))))) pss_nil)
      (pss_cons (ps_if (PW.pt (pw_or (pt_cmpR (op_neD (hr.units)) (pv 11) (pv 12) (nomark _)) (pw_or1 (pt_not (pt_val (pe_callB (cr_all rfl) (by rfl) T.b_all (by decide +kernel) (pa_cons (pe_lc (own := [("part", 8)]) (g := (gName 8)) (tt := tYes) rfl sc_law.nd (pi_list (pv 11)) (blkOk_by (N := N_law) (sc := defScope s_law) (by decide +kernel)) (fun _ _ _ _ _ => (pg_name (i := 8) sc_law.nd rfl (Or.inl rfl))) (fun _ _ _ _ _ => pts_nil) (fun _ _ _ _ _ => (pe_d D__law_is_frac (hr.mono (by decide)) (by rfl) (pa_cons (pv 8) pa_nil)))) pa_nil))))))) (pss_one (ps_ret pe_bl)) pss_nil)
      (pss_one (ps_if (PW.pt (pw_or (pt_not (pt_val (pe_callB call_isi (by rfl) T.b_isinstance (by decide +kernel) (pa_cons (pe_d D_is_less (hr.mono (by decide)) (by rfl) (pa_cons (pv 9) (pa_cons (pv 10) pa_nil))) (pa_cons (pe_bltn (v := .ty "bool") (u := .type "bool") (by rfl) T.b_bool (by decide +kernel) rfl) pa_nil))))) (pw_or1 (pt_cmpR op_ne (pe_d D_is_less (hr.mono (by decide)) (by rfl) (pa_cons (pv 9) (pa_cons (pv 10) pa_nil))) (pe_d D__law_less (hr.mono (by decide)) (by rfl) (pa_cons (pv 9) (pa_cons (pv 10) pa_nil))) (nomark _))))) (pss_one (ps_ret pe_bl)) pss_nil)))))))))
      (pss_cons (ps_for PassesOwn.never rfl (pi_range1 (by rfl) T.b_range (pa_cons (pe_op op_add (pe_callB call_len (by rfl) T.b_len (by decide +kernel) (pa_cons (pv 7) pa_nil)) pe_int) pa_nil)) (pg_name (i := 3) sc_law.nd rfl (Or.inl rfl)) (pss_cons (ps_set (i := 13) sc_law.nd rfl (Or.inl rfl) (pe_callTy call_tuple_of (by rfl) T.b_tuple (by decide +kernel) (pa_cons (pe_slice sl_list (pv 7) po_none (po_some (pv 3))) pa_nil)))
      (pss_cons (ps_set (i := 14) sc_law.nd rfl (Or.inl rfl) (pe_d D_total_of (hr.mono (by decide)) (by rfl) (pa_cons (pv 13) pa_nil)))
      (pss_one (ps_if (PW.pt (pw_or (pt_cmpR (op_neD (hr.units)) (pv 14) (pe_d D__law_sum (hr.mono (by decide)) (by rfl) (pa_cons (pe_slice sl_list (pv 7) po_none (po_some (pv 3))) pa_nil)) (nomark _)) (pw_or1 (pt_not (pt_val (pe_d D__law_is_frac (hr.mono (by decide)) (by rfl) (pa_cons (pv 14) pa_nil))))))) (pss_one (ps_ret pe_bl)) pss_nil)))))
      (pss_one (ps_ret pe_bl))))))))), ?_⟩
    refine ⟨_, rfl, a, ns, rfl, hS, hlen, fun S D H1 s1 fD d => ?_⟩
    -- pairs
    refine ⟨_, rfl, S, D, 4, rfl, divW_of (by decide) (by decide), d, fun H2 v v0 v4 g2 => ⟨_, _, rfl, rfl, _, rfl, by omega, by omega, fun L hL => ?_⟩⟩
    obtain ⟨nLD, nLS⟩ := g2.1.free hL
    refine lc_range (lo := 0) (n := (2 + v).toNat) (fun i H3 => ∃ (xs : List V) (fs : List F2), H3 L = some (.lst xs) ∧ Frs H3 xs fs ∧ xs.length = i ∧ (∀ x ∈ fs, x.2 ≠ 0 ∧ Sz 90 x) ∧ DrawAt S D H3) ⟨[], [], upd_same, .nil, rfl, fun _ h => absurd h List.not_mem_nil, g2.1.new hL⟩ ?_ ?_
    · rintro i H3 hi ⟨xs, fs, hx, hf, hl, hz, d3⟩
      refine ⟨rfl, _, rfl, S, D, rfl, d3, fun H4 r x x0 xz fr hr4 g4 => ⟨xs, lst_go g4 nLD hx, ?_, ?_⟩⟩
      · rw [hl]
        exact small1000 (by omega)
      · have hx4 := lst_go g4 nLD hx
        refine ⟨xs ++ [.ref r], fs ++ [x], upd_same, frs_snoc hx4 (frs_mono (fun p y => tup_go d3 g4) hf) hr4 _, by rw [List.length_append, hl]; rfl, fun y hy => ?_, g4.1.upd nLD nLS⟩
        rcases List.mem_append.mp hy with h | h
        · exact hz y h
        · rw [List.mem_singleton] at h
          subst h
          exact ⟨x0, xz⟩
    · rintro H3 ⟨xs, fs, hx, hf, hl, hz, d3⟩
      have hfl : xs.length = fs.length := Paired.length hf
      have hf5 : fs.length ≤ 5 := by omega
      -- told
      refine ⟨_, rfl, L, rfl, ⟨_, SqL.of hx⟩, fun T0 hT0 => lc_list (K := K) (a := L) (xs := xs) (fun i H4 => ∃ ys, H4 T0 = some (.lst ys) ∧ Frs H4 ys ((fs.take i).map frp) ∧ Same H3 H4) ⟨[], upd_same, .nil, same_new hT0⟩ (fun i H4 _ ⟨_, _, _, s4⟩ => s4.seq (SqL.of hx)) ?_ ?_⟩
      · rintro i x H4 hi ⟨ys, hy, hfy, s4⟩
        obtain ⟨f0, hf0, pf, rfl, hpf⟩ := Paired.at hf hi
        obtain ⟨z1, z2⟩ := hz f0 (List.mem_of_getElem? hf0)
        have hyl : ys.length = ((fs.take i).map frp).length := Paired.length hfy
        rw [List.length_map, List.length_take] at hyl
        refine ⟨pf, [.int f0.1, .int f0.2], rfl, SqT.of (s4 _ _ hpf), rfl, _, _, rfl, _, _, rfl, rfl, rfl, _, rfl, _, rfl, f0.1, f0.2, rfl, z1, sz_up z2 (by decide), fun r hr => ⟨ys, ?_, small1000 (by omega), ys ++ [.ref r], upd_same, ?_, same_mut (s4.trans (same_new hr)) hT0⟩⟩
        · rw [upd_ne (ne_of_none hy hr)]
          exact hy
        · rw [← take_map_succ (f := frp) hf0]
          exact frs_new hy hfy hr _
      · rintro H4 ⟨ys, hy, hfy, s4⟩
        rw [List.take_of_length_le (by omega)] at hfy
        -- due
        have hx4 := s4 _ _ hx
        have hf4 := frs_same s4 hf
        refine ⟨_, rfl, L, rfl, ⟨_, SqL.of hx4⟩, fun U hU => lc_list (K := K) (a := L) (xs := xs) (fun i H5 => ∃ us, H5 U = some (.lst us) ∧ Frs H5 us ((fs.take i).map frp) ∧ Same H4 H5) ⟨[], upd_same, .nil, same_new hU⟩ (fun i H5 _ ⟨_, _, _, s5⟩ => s5.seq (SqL.of hx4)) ?_ ?_⟩
        · rintro i x H5 hi ⟨us, hu, hfu, s5⟩
          obtain ⟨f0, hf0, pf, rfl, hpf⟩ := Paired.at hf4 hi
          obtain ⟨z1, z2⟩ := hz f0 (List.mem_of_getElem? hf0)
          have hyl : us.length = ((fs.take i).map frp).length := Paired.length hfu
          rw [List.length_map, List.length_take] at hyl
          refine ⟨pf, [.int f0.1, .int f0.2], rfl, SqT.of (s5 _ _ hpf), rfl, _, _, rfl, _, _, rfl, rfl, rfl, _, rfl, _, rfl, f0.1, f0.2, rfl, z1, sz_up z2 (by decide), fun r hr => ⟨us, ?_, small1000 (by omega), us ++ [.ref r], upd_same, ?_, same_mut (s5.trans (same_new hr)) hU⟩⟩
          · rw [upd_ne (ne_of_none hu hr)]
            exact hu
          · rw [← take_map_succ (f := frp) hf0]
            exact frs_new hu hfu hr _
        · rintro H5 ⟨us, hu, hfu, s5⟩
          rw [List.take_of_length_le (by omega)] at hfu
          have hy5 := s5 _ _ hy
          have hfy5 := frs_same s5 hfy
          have hgood : ∀ x ∈ fs.map frp, Good x := fun x hx => by
            obtain ⟨y, hy, rfl⟩ := List.mem_map.mp hx
            obtain ⟨z1, z2⟩ := hz y hy
            exact ⟨sz_up (fr_sz z2) (by decide), low_frp z1⟩
          generalize hgs : fs.map frp = gs at hfu hfy5 hgood
          have hgl : gs.length ≤ 5 := by
            rw [← hgs, List.length_map]
            exact hf5
          have hul : us.length = gs.length := Paired.length hfu
          -- told != due or not all(..)
          refine ⟨_, rfl, _, rfl, dFs gs, dFs gs, dp_L (SqL.of hy5) hfy5, dp_L (SqL.of hu) hfu, dFs_sh _, dFs_sh _, _, rfl, ?_⟩
          rw [dFs_eqv]
          refine iteNT ?_
          refine all_fracs (K := K) (i := 4) (by rfl) hy5 hfy5 (fun x hx => ⟨(hgood x hx).2, sz_up (hgood x hx).1 (by decide)⟩) (by omega) (by show 8 < 15; decide) (fun H6 s6 => ?_)
          refine iteF ?_
          have hu6 := s6 _ _ hu
          have hfu6 := frs_same s6 hfu
          have z19 : ∀ x : F2, x ∈ gs → Sz 1900 x := fun x hx => sz_up (hgood x hx).1 (by decide)
          -- for a in due[:3]
          refine ⟨_, rfl, 3, rfl, U, us, rfl, SqL.of hu6, fun p hp => ?_⟩
          have sp := same_new (o := .lst (cutV us none (some 3))) hp
          refine ⟨p, rfl, ⟨_, SqL.of upd_same⟩, for_list (K := K) (a := p) (xs := cutV us none (some 3)) (fun i σ H' => ∃ y9 y10 y11 y12, σ = [some (.ref a), some (.ref D), some (.ref L), none, some (.ref T0), none, none, some (.ref U), none, y9, y10, y11, y12, none, none] ∧ Same (upd H6 p (.lst (cutV us none (some 3)))) H') ⟨_, _, _, _, rfl, Same.refl _⟩ (fun i σ H' _ ⟨_, _, _, _, _, s⟩ => SqL.of (s _ _ upd_same)) ?_ ?_⟩
          · rintro i x H' H7 hi ⟨y9, y10, y11, y12, rfl, s7⟩
            obtain ⟨pa, fa, rfl, hpa, hfa⟩ := frs_mem hfu6 (mem_cut (List.mem_of_getElem? hi))
            have s67 := sp.trans s7
            -- for b in due[:3]
            refine ⟨_, rfl, 3, rfl, U, us, rfl, SqL.of (s67 _ _ hu6), fun p2 hp2 => ?_⟩
            have sp2 := same_new (o := .lst (cutV us none (some 3))) hp2
            refine ⟨p2, rfl, ⟨_, SqL.of upd_same⟩, for_list (K := K) (a := p2) (xs := cutV us none (some 3)) (fun i σ H' => ∃ y10 y11 y12, σ = [some (.ref a), some (.ref D), some (.ref L), none, some (.ref T0), none, none, some (.ref U), none, some (.ref pa), y10, y11, y12, none, none] ∧ Same (upd H7 p2 (.lst (cutV us none (some 3)))) H') ⟨_, _, _, rfl, Same.refl _⟩ (fun i σ H' _ ⟨_, _, _, _, s⟩ => SqL.of (s _ _ upd_same)) ?_ ?_⟩
            · rintro j x H' H8 hj ⟨y10, y11, y12, rfl, s8⟩
              obtain ⟨pb, fb, rfl, hpb, hfb⟩ := frs_mem hfu6 (mem_cut (List.mem_of_getElem? hj))
              have s68 := (s67.trans sp2).trans s8
              have ha8 := s68 _ _ hpa
              have hb8 := s68 _ _ hpb
              have ga := hgood fa hfa
              have gb := hgood fb hfb
              have na := add2_ne ga.2 gb.2
              -- answers
              refine ⟨_, rfl, _, rfl, pa, pb, fa, fb, rfl, ha8, hb8, z19 _ hfa, z19 _ hfb, na, fun r1 hr1 => ?_⟩
              have t1 := same_new (o := tupF (frp (add2 fa fb))) hr1
              refine ⟨_, rfl, _, rfl, pa, pb, fa, fb, rfl, t1 _ _ ha8, t1 _ _ hb8, z19 _ hfa, z19 _ hfb, na, fun r2 hr2 => ?_⟩
              have t2 := same_new (o := tupF (frp (sub2 fa fb))) hr2
              refine ⟨_, rfl, _, rfl, pa, pb, fa, fb, rfl, t2 _ _ (t1 _ _ ha8), t2 _ _ (t1 _ _ hb8), z19 _ hfa, z19 _ hfb, na, fun r3 hr3 => ?_⟩
              have t3 := same_new (o := tupF (frp (mul2 fa fb))) hr3
              refine ⟨by show 3 ≤ sizeLine; decide, fun l1 hl1 => ?_⟩
              have t4 := same_new (o := .lst [V.ref r1, .ref r2, .ref r3]) hl1
              have F1 : Frs _ [V.ref r1, .ref r2, .ref r3] [frp (add2 fa fb), frp (sub2 fa fb), frp (mul2 fa fb)] := frs_same t4 (.cons ⟨r1, rfl, t3 _ _ (t2 _ _ upd_same)⟩ (.cons ⟨r2, rfl, t3 _ _ upd_same⟩ (.cons ⟨r3, rfl, upd_same⟩ .nil)))
              have t84 := ((t1.trans t2).trans t3).trans t4
              -- wanted
              refine ⟨_, rfl, _, rfl, pa, pb, fa, fb, rfl, t84 _ _ ha8, t84 _ _ hb8, z19 _ hfa, z19 _ hfb, na, fun r4 hr4 => ?_⟩
              have t5 := same_new (o := tupF (frp (add2 fa fb))) hr4
              refine ⟨_, rfl, _, rfl, pa, pb, fa, fb, rfl, t5 _ _ (t84 _ _ ha8), t5 _ _ (t84 _ _ hb8), z19 _ hfa, z19 _ hfb, na, fun r5 hr5 => ?_⟩
              have t6 := same_new (o := tupF (frp (sub2 fa fb))) hr5
              refine ⟨_, rfl, _, rfl, pa, pb, fa, fb, rfl, t6 _ _ (t5 _ _ (t84 _ _ ha8)), t6 _ _ (t5 _ _ (t84 _ _ hb8)), z19 _ hfa, z19 _ hfb, na, fun r6 hr6 => ?_⟩
              have t7 := same_new (o := tupF (frp (mul2 fa fb))) hr6
              refine ⟨by show 3 ≤ sizeLine; decide, fun l2 hl2 => ?_⟩
              have t8 := same_new (o := .lst [V.ref r4, .ref r5, .ref r6]) hl2
              have F2' : Frs _ [V.ref r4, .ref r5, .ref r6] [frp (add2 fa fb), frp (sub2 fa fb), frp (mul2 fa fb)] := frs_same t8 (.cons ⟨r4, rfl, t7 _ _ (t6 _ _ upd_same)⟩ (.cons ⟨r5, rfl, t7 _ _ upd_same⟩ (.cons ⟨r6, rfl, upd_same⟩ .nil)))
              have t48 := ((t5.trans t6).trans t7).trans t8
              have F1' := frs_same t48 F1
              have hl1' := t48 _ _ (upd_same (a := l1))
              have G3 : ∀ x ∈ [frp (add2 fa fb), frp (sub2 fa fb), frp (mul2 fa fb)], Low x ∧ Sz 4000 x := fun x hx => by
                simp only [List.mem_cons, List.not_mem_nil, or_false] at hx
                rcases hx with h | h | h <;> subst h
                · exact ⟨low_frp na, sz_up (fr_sz (add2_sz (z19 _ hfa) (z19 _ hfb))) (by decide)⟩
                · exact ⟨low_frp na, sz_up (fr_sz (sub2_sz (z19 _ hfa) (z19 _ hfb))) (by decide)⟩
                · exact ⟨low_frp na, sz_up (fr_sz (mul2_sz (z19 _ hfa) (z19 _ hfb))) (by decide)⟩
              have t88 := t84.trans t48
              have n12 : l1 ≠ l2 := fun e => by
                subst e
                have := hl2
                rw [t7 _ _ (t6 _ _ (t5 _ _ upd_same))] at this
                cases this
              generalize hH9 : upd _ l2 _ = H9 at t8 t48 F2' F1' hl1' t88
              have hl2' : H9 l2 = some (.lst [V.ref r4, .ref r5, .ref r6]) := by
                rw [← hH9]
                exact upd_same
              have fr1 : H8 l1 = none := ((t1.trans t2).trans t3).free hl1
              have fr2 : H8 l2 = none := (t84.trans ((t5.trans t6).trans t7)).free hl2
              refine ⟨fun σ H' => ∃ xs1 xs2 rs, σ = [some (.ref a), some (.ref D), some (.ref L), none, some (.ref T0), none, none, some (.ref U), none, some (.ref pa), some (.ref pb), some (.ref l1), some (.ref l2), none, none] ∧ H' l1 = some (.lst xs1) ∧ H' l2 = some (.lst xs2) ∧ Frs H' xs1 rs ∧ Frs H' xs2 rs ∧ (∀ x ∈ rs, Low x ∧ Sz 4000 x) ∧ rs.length ≤ 4 ∧ Same H8 H', ?_, ?_⟩
              · -- if b != (0, 1)
                refine ⟨_, rfl, by show 2 ≤ sizeLine; decide, fun p3 hp3 => ?_⟩
                have t9 := same_new (o := tupF (0, 1)) hp3
                refine ⟨dF fb, dF (0, 1), dp_F (t9 _ _ (t88 _ _ hb8)), dp_F upd_same, dF_sh _, dF_sh _, _, rfl, ?_⟩
                refine ite2 (fun e => ?_) (fun e => ?_)
                · have nb : fb.1 ≠ 0 := fun z => by
                    have h1 := gb.2.co
                    rw [z] at h1
                    have h2 : fb.2.natAbs = 1 := by
                      rw [show (0 : Int).natAbs = 0 from rfl, Nat.gcd_zero_left] at h1
                      exact h1
                    have h3 := gb.2.pos
                    have h4 : fb.2 = 1 := by omega
                    have h5 : fb = (0, 1) := Prod.ext z h4
                    rw [h5, dF_eqv] at e
                    cases e
                  have nd : (div2 fa fb).2 ≠ 0 := Int.mul_ne_zero (by have := ga.2.pos; omega) nb
                  have hl19 := t9 _ _ hl1'
                  have hl29 := t9 _ _ hl2'
                  refine ⟨_, rfl, .inl ⟨rfl, _, SqL.of hl19⟩, _, rfl, _, rfl, pa, pb, fa, fb, rfl, t9 _ _ (t88 _ _ ha8), t9 _ _ (t88 _ _ hb8), z19 _ hfa, z19 _ hfb, nd, fun r7 hr7 => ?_⟩
                  have t10 := same_new (o := tupF (frp (div2 fa fb))) hr7
                  refine ⟨l1, _, _, rfl, rfl, t10 _ _ hl19, by show 3 < sizeLine; decide, ?_⟩
                  have F3 := frs_new hl19 (frs_same t9 F1') hr7 (x := frp (div2 fa fb)) (.lst ([V.ref r1, .ref r2, .ref r3] ++ [V.ref r7]))
                  have F4 := frs_mono (fun q y hq => tup_upd (o := .lst ([V.ref r1, .ref r2, .ref r3] ++ [V.ref r7])) (t10 _ _ hl19) hq) (frs_same t10 (frs_same t9 F2'))
                  have k1 : Same H8 (upd (upd (upd H9 p3 (tupF (0, 1))) r7 (tupF (frp (div2 fa fb)))) l1 (.lst ([V.ref r1, .ref r2, .ref r3] ++ [V.ref r7]))) := same_mut ((t88.trans t9).trans t10) fr1
                  have hl2a : (upd (upd (upd H9 p3 (tupF (0, 1))) r7 (tupF (frp (div2 fa fb)))) l1 (.lst ([V.ref r1, .ref r2, .ref r3] ++ [V.ref r7]))) l2 = some (.lst [V.ref r4, .ref r5, .ref r6]) := by
                    rw [upd_ne n12.symm]
                    exact t10 _ _ hl29
                  refine ⟨_, rfl, .inl ⟨rfl, _, SqL.of hl2a⟩, _, rfl, _, rfl, pa, pb, fa, fb, rfl, k1 _ _ ha8, k1 _ _ hb8, z19 _ hfa, z19 _ hfb, nd, fun r8 hr8 => ?_⟩
                  have t11 := same_new (o := tupF (frp (div2 fa fb))) hr8
                  refine ⟨l2, _, _, rfl, rfl, t11 _ _ hl2a, by show 3 < sizeLine; decide, ?_⟩
                  refine ⟨[V.ref r1, .ref r2, .ref r3] ++ [V.ref r7], [V.ref r4, .ref r5, .ref r6] ++ [V.ref r8], [frp (add2 fa fb), frp (sub2 fa fb), frp (mul2 fa fb)] ++ [frp (div2 fa fb)], rfl, ?_, upd_same, ?_, frs_new (x := frp (div2 fa fb)) hl2a F4 hr8 (.lst ([V.ref r4, .ref r5, .ref r6] ++ [V.ref r8])), ?_, (by show 4 ≤ 4; decide), same_mut (k1.trans t11) fr2⟩
                  · rw [upd_ne n12]
                    exact t11 _ _ upd_same
                  · exact frs_mono (fun q y hq => tup_upd (t11 _ _ hl2a) hq) (frs_same t11 F3)
                  · intro x hx
                    rcases List.mem_append.mp hx with h | h
                    · exact G3 x h
                    · rw [List.mem_singleton] at h
                      subst h
                      exact ⟨low_frp nd, sz_up (fr_sz (div2_sz (z19 _ hfa) (z19 _ hfb))) (by decide)⟩
                · exact ⟨_, _, _, rfl, t9 _ _ hl1', t9 _ _ hl2', frs_same t9 F1', frs_same t9 F2', G3, (by show 3 ≤ 4; decide), t88.trans t9⟩
              · rintro σ H10 ⟨xs1, xs2, rs, rfl, h1, h2, f1, f2, gr, lr, s10⟩
                refine ⟨_, rfl, _, rfl, dFs rs, dFs rs, dp_L (SqL.of h1) f1, dp_L (SqL.of h2) f2, dFs_sh _, dFs_sh _, _, rfl, ?_⟩
                rw [dFs_eqv]
                refine iteNT ?_
                refine all_fracs (K := K) (i := 11) (by rfl) h1 f1 gr (by omega) (by show 8 < 15; decide) (fun H11 s11 => ?_)
                refine iteF ?_
                have s811 := s10.trans s11
                have ha11 := s811 _ _ ha8
                have hb11 := s811 _ _ hb8
                refine ⟨_, rfl, _, rfl, pa, pb, fa, fb, rfl, ha11, hb11, z19 _ hfa, z19 _ hfb, _, .ty "bool", .type "bool", .type "bool", true, rfl, .ty _, .base (.bl _), kit_ty (by decide +kernel), true, rfl, ?_⟩
                refine iteNT ?_
                refine ⟨_, rfl, _, rfl, pa, pb, fa, fb, rfl, ha11, hb11, z19 _ hfa, z19 _ hfb, _, rfl, _, rfl, pa, pb, fa, fb, rfl, ha11, hb11, z19 _ hfa, z19 _ hfb, rfl, _, rfl, ?_⟩
                refine iteNS rfl ?_
                exact ⟨_, _, _, rfl, s8.trans s811⟩
            · rintro σ H9 ⟨y10', y11', y12', rfl, s9⟩
              exact ⟨_, _, _, _, rfl, s7.trans (sp2.trans s9)⟩
          · rintro σ H7 ⟨y9, y10, y11, y12, rfl, s7⟩
            have s67 := sp.trans s7
            have hu7 := s67 _ _ hu6
            have hfu7 := frs_same s67 hfu6
            -- for k in range(len(due) + 1)
            refine ⟨_, rfl, _, _, rfl, .inl ⟨_, SqL.of hu7, rfl⟩, _, _, rfl, rfl, _, rfl, by omega, by omega, for_range (lo := 0) (n := ((us.length : Int) + 1).toNat) (fun i σ H' => ∃ y3 y13 y14, σ = [some (.ref a), some (.ref D), some (.ref L), y3, some (.ref T0), none, none, some (.ref U), none, y9, y10, y11, y12, y13, y14] ∧ Same H7 H') ⟨_, _, _, rfl, Same.refl _⟩ ?_ ?_⟩
            · rintro i σ H8 hi ⟨y3, y13, y14, rfl, s8⟩
              have hu8 := s8 _ _ hu7
              have hk : cutV us none (some ((0 : Int) + (i : Int))) = us.take i := by rw [Int.zero_add]; exact cut_k us i
              have hgt : ∀ x ∈ gs.take i, Sz 100 x ∧ Low x := fun x hx => hgood x (List.mem_of_mem_take hx)
              have hlt : (gs.take i).length ≤ 8 := by
                rw [List.length_take]
                omega
              have tk := tot_ok (gs.take i) (0, 1) low0 sz0 hgt
              refine ⟨_, rfl, _, rfl, _, rfl, U, us, rfl, SqL.of hu8, fun p3 hp3 => ?_⟩
              have t1 := same_new (o := .lst (cutV us none (some ((0 : Int) + (i : Int))))) hp3
              refine ⟨p3, _, rfl, .inl ⟨SqL.of upd_same, fun l hl => ?_⟩⟩
              have t2 := same_new (o := .tup (cutV us none (some ((0 : Int) + (i : Int))))) hl
              have s82 := s8.trans (t1.trans t2)
              refine ⟨_, rfl, l, _, gs.take i, rfl, SqT.of upd_same, (by have z := frs_take i (frs_same s82 hfu7); rw [← hk] at z; exact z), hlt, hgt, fun H9 r s9 hr9 => ?_⟩
              have hu9 := s9 _ _ (s82 _ _ hu7)
              refine ⟨_, rfl, _, rfl, _, rfl, _, rfl, U, us, rfl, SqL.of hu9, fun p4 hp4 => ?_⟩
              have t3 := same_new (o := .lst (cutV us none (some ((0 : Int) + (i : Int))))) hp4
              have s93 := (s82.trans s9).trans t3
              refine ⟨p4, _, gs.take i, rfl, SqL.of upd_same, (by have z := frs_take i (frs_same s93 hfu7); rw [← hk] at z; exact z), hlt, hgt, fun H10 r2 s10 hr10 => ?_⟩
              have hr9' := s10 _ _ (t3 _ _ hr9)
              refine ⟨dF (tot (gs.take i) (0, 1)), dF (tot (gs.take i) (0, 1)), dp_F hr9', dp_F hr10, dF_sh _, dF_sh _, _, rfl, ?_⟩
              rw [dF_eqv]
              refine iteNT ?_
              refine ⟨_, rfl, r, _, rfl, hr9', tk.2, sz_up tk.1 (by omega), fun H11 s11 => ⟨true, rfl, ?_⟩⟩
              refine iteNT ?_
              exact ⟨_, _, _, rfl, (s93.trans s10).trans s11⟩
            · rintro σ H8 ⟨y3, y13, y14, rfl, s8⟩
              exact q H8
end
end Mt
namespace Mt
open PySem PySem.Spec PyProof.Rows L2
def dd_make_fraction : He.DefD := ⟨("make_fraction", none), "make_fraction", "make_fraction", defArgs s_make_fraction, defBody s_make_fraction, defScope s_make_fraction, [], []⟩
def dd_sum_of : He.DefD := ⟨("sum_of", none), "sum_of", "sum_of", defArgs s_sum_of, defBody s_sum_of, defScope s_sum_of, [], []⟩
def dd_difference_of : He.DefD := ⟨("difference_of", none), "difference_of", "difference_of", defArgs s_difference_of, defBody s_difference_of, defScope s_difference_of, [], []⟩
def dd_product_of : He.DefD := ⟨("product_of", none), "product_of", "product_of", defArgs s_product_of, defBody s_product_of, defScope s_product_of, [], []⟩
def dd_quotient_of : He.DefD := ⟨("quotient_of", none), "quotient_of", "quotient_of", defArgs s_quotient_of, defBody s_quotient_of, defScope s_quotient_of, [], []⟩
def dd_total_of : He.DefD := ⟨("total_of", none), "total_of", "total_of", defArgs s_total_of, defBody s_total_of, defScope s_total_of, [], []⟩
def dd_is_less : He.DefD := ⟨("is_less", none), "is_less", "is_less", defArgs s_is_less, defBody s_is_less, defScope s_is_less, [], []⟩
def dd__law_begin : He.DefD := ⟨("_law_begin", none), "_law_begin", "_law_begin", defArgs s__law_begin, defBody s__law_begin, defScope s__law_begin, [], []⟩
def dd__law_draw : He.DefD := ⟨("_law_draw", none), "_law_draw", "_law_draw", defArgs s__law_draw, defBody s__law_draw, defScope s__law_draw, [], []⟩
def dd__law_pick : He.DefD := ⟨("_law_pick", none), "_law_pick", "_law_pick", defArgs s__law_pick, defBody s__law_pick, defScope s__law_pick, [], []⟩
def dd__law_is_int : He.DefD := ⟨("_law_is_int", none), "_law_is_int", "_law_is_int", defArgs s__law_is_int, defBody s__law_is_int, defScope s__law_is_int, [], []⟩
def dd__law_is_ints : He.DefD := ⟨("_law_is_ints", none), "_law_is_ints", "_law_is_ints", defArgs s__law_is_ints, defBody s__law_is_ints, defScope s__law_is_ints, [], []⟩
def dd__law_frac : He.DefD := ⟨("_law_frac", none), "_law_frac", "_law_frac", defArgs s__law_frac, defBody s__law_frac, defScope s__law_frac, [], []⟩
def dd__law_plus : He.DefD := ⟨("_law_plus", none), "_law_plus", "_law_plus", defArgs s__law_plus, defBody s__law_plus, defScope s__law_plus, [], []⟩
def dd__law_minus : He.DefD := ⟨("_law_minus", none), "_law_minus", "_law_minus", defArgs s__law_minus, defBody s__law_minus, defScope s__law_minus, [], []⟩
def dd__law_times : He.DefD := ⟨("_law_times", none), "_law_times", "_law_times", defArgs s__law_times, defBody s__law_times, defScope s__law_times, [], []⟩
def dd__law_div : He.DefD := ⟨("_law_div", none), "_law_div", "_law_div", defArgs s__law_div, defBody s__law_div, defScope s__law_div, [], []⟩
def dd__law_less : He.DefD := ⟨("_law_less", none), "_law_less", "_law_less", defArgs s__law_less, defBody s__law_less, defScope s__law_less, [], []⟩
def dd__law_sum : He.DefD := ⟨("_law_sum", none), "_law_sum", "_law_sum", defArgs s__law_sum, defBody s__law_sum, defScope s__law_sum, [], []⟩
def dd__law_is_frac : He.DefD := ⟨("_law_is_frac", none), "_law_is_frac", "_law_is_frac", defArgs s__law_is_frac, defBody s__law_is_frac, defScope s__law_is_frac, [], []⟩
def dd__law_number_of : He.DefD := ⟨("_law_number_of", none), "_law_number_of", "_law_number_of", defArgs s__law_number_of, defBody s__law_number_of, defScope s__law_number_of, [], []⟩
def dd__law_pair : He.DefD := ⟨("_law_pair", none), "_law_pair", "_law_pair", defArgs s__law_pair, defBody s__law_pair, defScope s__law_pair, [], []⟩
def dd_law : He.DefD := ⟨("law", none), "law", "law", defArgs s_law, defBody s_law, defScope s_law, [], []⟩
def dds : List He.DefD := [dd_make_fraction, dd_sum_of, dd_difference_of, dd_product_of, dd_quotient_of, dd_total_of, dd_is_less, dd__law_begin, dd__law_draw, dd__law_pick, dd__law_is_int, dd__law_is_ints, dd__law_frac, dd__law_plus, dd__law_minus, dd__law_times, dd__law_div, dd__law_less, dd__law_sum, dd__law_is_frac, dd__law_number_of, dd__law_pair, dd_law]
def fas : List He.Fa := [.glo "make_fraction", .glo "sum_of", .glo "difference_of", .glo "product_of", .glo "quotient_of", .glo "total_of", .glo "is_less", .glo "_law_begin", .glo "_law_draw", .glo "_law_pick", .glo "_law_is_int", .glo "_law_is_ints", .glo "_law_frac", .glo "_law_plus", .glo "_law_minus", .glo "_law_times", .glo "_law_div", .glo "_law_less", .glo "_law_sum", .glo "_law_is_frac", .glo "_law_number_of", .glo "_law_pair", .glo "law", .free "int", .free "len", .free "abs", .free "all", .free "isinstance", .free "bool", .free "range", .free "tuple"]
def exM (K : PySem.W.Frag) : Bool := He.eqO (PySem.W.nsIn K mainGlobals "gcd") (some (some (.builtin "math.gcd")))
abbrev R : PySem.W.OpenRow := PySem.W.OpenLaw.row PySem.Challenge.rw_meantrace_k01_shares_reckoned
abbrev hk : PySem.W.Hook := hookM 4 fas dds exM
def ob (s : PySem.W.SharedT) : AlM := obsM 4 fas dds exM (HandSHeadRun.getT s)
theorem ob_eq (s : PySem.W.SharedT) : ob s = hk.obs s.abs := obsM_eq (HandSHeadRun.getT_eq s)
def names : List PySem.Str := ["make_fraction", "sum_of", "difference_of", "product_of", "quotient_of", "total_of", "is_less", "_law_begin", "_law_draw", "_law_pick", "_law_is_int", "_law_is_ints", "_law_frac", "_law_plus", "_law_minus", "_law_times", "_law_div", "_law_less", "_law_sum", "_law_is_frac", "_law_number_of", "_law_pair"]
theorem run (w : World) : HandSHeadRun.RunEqI R (PySem.W.view R.prog [0, 25]) hk ob 3000 names w := by
  unfold HandSHeadRun.RunEqI; kernel_rfl
theorem facts {P : Program} {w : World} {K : PySem.W.Frag} {h : Heap} {mg : Str → Option Value} {f : Addr} (X : K.In h) (G : h.Ns mainGlobals mg) (hfa : mg ("law" : Str) = some (.ref f)) (c : SaysM fas dds exM K) :
    ∃ fd : FuncData, (∀ (s : Shared) (v : Value), BindsTo s fd ⟨[v], []⟩ [("script", v)]) ∧ ∀ base : Heap, K.In base → base.Ns mainGlobals mg → FnOk P w K mg base CX0 5 f fd ["script"] (spLaw K) := by
  obtain ⟨fd, F⟩ := c.1.def_ 22 (d := dd_law) rfl
  have e := hfa.symm.trans (He.glo_ok X G (c.1.fact 22 (f := .glo "law") rfl))
  cases e
  have T : Txt K mg := ⟨He.free_ok X G (c.1.fact 23 (f := .free "int") rfl), He.free_ok X G (c.1.fact 24 (f := .free "len") rfl), He.free_ok X G (c.1.fact 25 (f := .free "abs") rfl), He.free_ok X G (c.1.fact 26 (f := .free "all") rfl), He.free_ok X G (c.1.fact 27 (f := .free "isinstance") rfl), He.free_ok X G (c.1.fact 28 (f := .free "bool") rfl), He.free_ok X G (c.1.fact 29 (f := .free "range") rfl), He.free_ok X G (c.1.fact 30 (f := .free "tuple") rfl), PySem.W.mg_of X G (He.eqO_ok c.2)⟩
  have b := FunD.bindsA (ps := ["script"]) F fun _ _ _ _ _ _ us hl => match us, hl with | [_], _ => rfl
  refine ⟨fd, fun s v => b s [v] rfl, fun base _ _ => ?_⟩
  have D_make_fraction : Kept P w K mg base 1 "make_fraction" ["n", "d"] spFrac := kept_of (st := s_make_fraction) X G (c.1.def_ 0 (d := dd_make_fraction) rfl) (c.1.fact 0 (f := .glo "make_fraction") rfl) (fun _ _ _ _ _ _ us hl => match us, hl with | [_, _], _ => rfl) (fun f fd F => ok_make_fraction T F)
  have D_sum_of : Kept P w K mg base 2 "sum_of" ["a", "b"] (spBin K add2) := kept_of (st := s_sum_of) X G (c.1.def_ 1 (d := dd_sum_of) rfl) (c.1.fact 1 (f := .glo "sum_of") rfl) (fun _ _ _ _ _ _ us hl => match us, hl with | [_, _], _ => rfl) (fun f fd F => ok_sum_of T D_make_fraction F)
  have D_difference_of : Kept P w K mg base 2 "difference_of" ["a", "b"] (spBin K sub2) := kept_of (st := s_difference_of) X G (c.1.def_ 2 (d := dd_difference_of) rfl) (c.1.fact 2 (f := .glo "difference_of") rfl) (fun _ _ _ _ _ _ us hl => match us, hl with | [_, _], _ => rfl) (fun f fd F => ok_difference_of T D_make_fraction F)
  have D_product_of : Kept P w K mg base 2 "product_of" ["a", "b"] (spBin K mul2) := kept_of (st := s_product_of) X G (c.1.def_ 3 (d := dd_product_of) rfl) (c.1.fact 3 (f := .glo "product_of") rfl) (fun _ _ _ _ _ _ us hl => match us, hl with | [_, _], _ => rfl) (fun f fd F => ok_product_of T D_make_fraction F)
  have D_quotient_of : Kept P w K mg base 2 "quotient_of" ["a", "b"] (spBin K div2) := kept_of (st := s_quotient_of) X G (c.1.def_ 4 (d := dd_quotient_of) rfl) (c.1.fact 4 (f := .glo "quotient_of") rfl) (fun _ _ _ _ _ _ us hl => match us, hl with | [_, _], _ => rfl) (fun f fd F => ok_quotient_of T D_make_fraction F)
  have D_total_of : Kept P w K mg base 3 "total_of" ["fractions"] (spTotT K) := kept_of (st := s_total_of) X G (c.1.def_ 5 (d := dd_total_of) rfl) (c.1.fact 5 (f := .glo "total_of") rfl) (fun _ _ _ _ _ _ us hl => match us, hl with | [_], _ => rfl) (fun f fd F => ok_total_of T D_sum_of F)
  have D_is_less : Kept P w K mg base 1 "is_less" ["a", "b"] (spLess K) := kept_of (st := s_is_less) X G (c.1.def_ 6 (d := dd_is_less) rfl) (c.1.fact 6 (f := .glo "is_less") rfl) (fun _ _ _ _ _ _ us hl => match us, hl with | [_, _], _ => rfl) (fun f fd F => ok_is_less T F)
  have D__law_begin : Kept P w K mg base 1 "_law_begin" ["script"] (spBegin K) := kept_of (st := s__law_begin) X G (c.1.def_ 7 (d := dd__law_begin) rfl) (c.1.fact 7 (f := .glo "_law_begin") rfl) (fun _ _ _ _ _ _ us hl => match us, hl with | [_], _ => rfl) (fun f fd F => ok__law_begin T F)
  have D__law_draw : Kept P w K mg base 1 "_law_draw" ["d", "many"] spDraw := kept_of (st := s__law_draw) X G (c.1.def_ 8 (d := dd__law_draw) rfl) (c.1.fact 8 (f := .glo "_law_draw") rfl) (fun _ _ _ _ _ _ us hl => match us, hl with | [_, _], _ => rfl) (fun f fd F => ok__law_draw T F)
  have D__law_pick : Kept P w K mg base 2 "_law_pick" ["d", "row"] (spPick K) := kept_of (st := s__law_pick) X G (c.1.def_ 9 (d := dd__law_pick) rfl) (c.1.fact 9 (f := .glo "_law_pick") rfl) (fun _ _ _ _ _ _ us hl => match us, hl with | [_, _], _ => rfl) (fun f fd F => ok__law_pick T D__law_draw F)
  have D__law_is_int : Kept P w K mg base 1 "_law_is_int" ["thing"] spIsInt := kept_of (st := s__law_is_int) X G (c.1.def_ 10 (d := dd__law_is_int) rfl) (c.1.fact 10 (f := .glo "_law_is_int") rfl) (fun _ _ _ _ _ _ us hl => match us, hl with | [_], _ => rfl) (fun f fd F => ok__law_is_int T F)
  have D__law_is_ints : Kept P w K mg base 2 "_law_is_ints" ["row"] (spIsInts K) := kept_of (st := s__law_is_ints) X G (c.1.def_ 11 (d := dd__law_is_ints) rfl) (c.1.fact 11 (f := .glo "_law_is_ints") rfl) (fun _ _ _ _ _ _ us hl => match us, hl with | [_], _ => rfl) (fun f fd F => ok__law_is_ints T D__law_is_int F)
  have D__law_frac : Kept P w K mg base 1 "_law_frac" ["n", "d"] spFrac := kept_of (st := s__law_frac) X G (c.1.def_ 12 (d := dd__law_frac) rfl) (c.1.fact 12 (f := .glo "_law_frac") rfl) (fun _ _ _ _ _ _ us hl => match us, hl with | [_, _], _ => rfl) (fun f fd F => ok__law_frac T F)
  have D__law_plus : Kept P w K mg base 2 "_law_plus" ["a", "b"] (spBin K add2) := kept_of (st := s__law_plus) X G (c.1.def_ 13 (d := dd__law_plus) rfl) (c.1.fact 13 (f := .glo "_law_plus") rfl) (fun _ _ _ _ _ _ us hl => match us, hl with | [_, _], _ => rfl) (fun f fd F => ok__law_plus T D__law_frac F)
  have D__law_minus : Kept P w K mg base 2 "_law_minus" ["a", "b"] (spBin K sub2) := kept_of (st := s__law_minus) X G (c.1.def_ 14 (d := dd__law_minus) rfl) (c.1.fact 14 (f := .glo "_law_minus") rfl) (fun _ _ _ _ _ _ us hl => match us, hl with | [_, _], _ => rfl) (fun f fd F => ok__law_minus T D__law_frac F)
  have D__law_times : Kept P w K mg base 2 "_law_times" ["a", "b"] (spBin K mul2) := kept_of (st := s__law_times) X G (c.1.def_ 15 (d := dd__law_times) rfl) (c.1.fact 15 (f := .glo "_law_times") rfl) (fun _ _ _ _ _ _ us hl => match us, hl with | [_, _], _ => rfl) (fun f fd F => ok__law_times T D__law_frac F)
  have D__law_div : Kept P w K mg base 2 "_law_div" ["a", "b"] (spBin K div2) := kept_of (st := s__law_div) X G (c.1.def_ 16 (d := dd__law_div) rfl) (c.1.fact 16 (f := .glo "_law_div") rfl) (fun _ _ _ _ _ _ us hl => match us, hl with | [_, _], _ => rfl) (fun f fd F => ok__law_div T D__law_frac F)
  have D__law_less : Kept P w K mg base 1 "_law_less" ["a", "b"] (spLess K) := kept_of (st := s__law_less) X G (c.1.def_ 17 (d := dd__law_less) rfl) (c.1.fact 17 (f := .glo "_law_less") rfl) (fun _ _ _ _ _ _ us hl => match us, hl with | [_, _], _ => rfl) (fun f fd F => ok__law_less T F)
  have D__law_sum : Kept P w K mg base 3 "_law_sum" ["row"] (spTotL K) := kept_of (st := s__law_sum) X G (c.1.def_ 18 (d := dd__law_sum) rfl) (c.1.fact 18 (f := .glo "_law_sum") rfl) (fun _ _ _ _ _ _ us hl => match us, hl with | [_], _ => rfl) (fun f fd F => ok__law_sum T D__law_plus F)
  have D__law_is_frac : Kept P w K mg base 3 "_law_is_frac" ["thing"] (spIsFrac K) := kept_of (st := s__law_is_frac) X G (c.1.def_ 19 (d := dd__law_is_frac) rfl) (c.1.fact 19 (f := .glo "_law_is_frac") rfl) (fun _ _ _ _ _ _ us hl => match us, hl with | [_], _ => rfl) (fun f fd F => ok__law_is_frac T D__law_is_ints D__law_frac F)
  have D__law_number_of : Kept P w K mg base 3 "_law_number_of" ["d"] spNumber := kept_of (st := s__law_number_of) X G (c.1.def_ 20 (d := dd__law_number_of) rfl) (c.1.fact 20 (f := .glo "_law_number_of") rfl) (fun _ _ _ _ _ _ us hl => match us, hl with | [_], _ => rfl) (fun f fd F => ok__law_number_of T D__law_draw D__law_pick F)
  have D__law_pair : Kept P w K mg base 4 "_law_pair" ["d"] spPair := kept_of (st := s__law_pair) X G (c.1.def_ 21 (d := dd__law_pair) rfl) (c.1.fact 21 (f := .glo "_law_pair") rfl) (fun _ _ _ _ _ _ us hl => match us, hl with | [_], _ => rfl) (fun f fd F => ok__law_pair T D__law_draw D__law_pick D__law_number_of F)
  exact ok_law T D_make_fraction D_sum_of D_difference_of D_product_of D_quotient_of D_total_of D_is_less D__law_begin D__law_draw D__law_frac D__law_plus D__law_minus D__law_times D__law_div D__law_less D__law_sum D__law_is_frac D__law_pair F
end Mt
open PySem PySem.W PySem.Calls PyProof.Rows
set_option maxHeartbeats 0 in
theorem PySem.Challenge.cw_meantrace_k01_shares_reckoned_holds : PySem.Challenge.rw_meantrace_k01_shares_reckoned.Holds := by
  w_on; o_law
  refine HandSHeadRun.head_imp (r := OpenLaw.row PySem.Challenge.rw_meantrace_k01_shares_reckoned) (q := view (OpenLaw.row PySem.Challenge.rw_meantrace_k01_shares_reckoned).prog [0, 25]) (H := Mt.hk) (ob := Mt.ob) (M := 3000) (loose := Mt.names) (d := HandSHeadRun.topDef (OpenLaw.row PySem.Challenge.rw_meantrace_k01_shares_reckoned).prog 25) (kwd := []) Mt.ob_eq
     Mt.run (by kernel_rfl) (by kernel_rfl) (by kernel_rfl) (by rfl) (by first | assumption | decide +kernel) (by decide +kernel) ⟨rfl, rfl, rfl, rfl, rfl, by decide +kernel⟩ ?hw ?hc
  case hw => w_witness2
  case hc =>
    refine L2.walk_ofE (l := PySem.Challenge.rw_meantrace_k01_shares_reckoned) (n := 63) (k := 5) (x := "script") (CX := L2.CX0) rfl (by decide) (by kernel_rfl) ⟨rfl, by decide, by decide⟩ ?F (fun _ _ _ _ z => z)
    intro w mg fa h Y G hmg0
    obtain ⟨K, KX, c⟩ := Y
    have hmg : mg ("law" : PySem.Str) = some (.ref fa) := by
      have e : (HandSHeadRun.topDef (OpenLaw.row PySem.Challenge.rw_meantrace_k01_shares_reckoned).prog 25).name = ("law" : PySem.Str) := by kernel_rfl
      rw [← e]
      exact hmg0
    obtain ⟨fd, hb, hF⟩ := Mt.facts (P := (PySem.Challenge.rw_meantrace_k01_shares_reckoned).prog) (w := w) KX G hmg c
    exact ⟨K, fd, Mt.spLaw K, KX, hb, fun H a ns hl hO hS => ⟨a, ns, rfl, hS, hl, fun _ => rfl⟩, hF⟩
