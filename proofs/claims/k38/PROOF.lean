import PyProof.Rows.All
import Wide.All
import OpenK.AllK
import Wide.FinOn
import KE.KStateDown
import HandS.ForMost
import HandS.Wide
import HandS.IsInst
import HandS.Walk
import HandS.Style
import HandS.Evl
import HandS.StrMore
import HandS.Exc
import HandS.WordsExc
import HandS.Defaults
import HandS.Head0
import HandS.Head1
import HandS.Head2
import HandS.HeadEnd
import HandS.HeadHook1
import HandS.HeadHook2
import HandS.Gcd
import HandS.Head3
import HandS.Star
import HandS.RaiseMore
import HandS.AnyAll
import HandS.Conv
import HandS.More
import HandS.Small
import HandS.HeadHook3
import HandS.HeadHook4
import HandS.HeadWalk
import HandS.EndTab
import PyProof.GenCompT
import PyProof.TupleOfGen
import PyProof.WalksPairs
import KE.KTupSum
import KE.DataMinMax
import HandS.SortKw
import PySem.Challenge.RW_meantrace_k38_warm_ups
set_option Elab.async false
set_option linter.all false
set_option maxRecDepth 100000
/-! Our own words over the hand layer: defs of the top by name, the draws' state, heaps that go on. -/
namespace Mt
open PySem PySem.Spec PyProof.Rows L2
section
variable {P : Program} {w : World} {K : PySem.W.Frag} {mg : Str → Option Value} {base : Heap}
abbrev FnP (K : PySem.W.Frag) (x : Str) (st : Stmt) (f : Addr) (fd : FuncData) : Prop := FunD K x x (defArgs st) (defBody st) (defScope st) [] [] f fd
/-- a def that keeps its promise -/
def Kept (P : Program) (w : World) (K : PySem.W.Frag) (mg : Str → Option Value) (base : Heap) (k : Nat) (x : Str) (ps : List Str) (sp : Sp) : Prop :=
  ∃ f fd, FnOk P w K mg base CX0 k f fd ps sp ∧ mg x = some (.ref f) ∧ PySem.W.keepIn K (.ref f) = true ∧ Binds K fd ps []
/-- what the head tells: facts by names, defs, one more word of one's own -/
abbrev AlM : Type := He.AlD × Bool
def obsM (n : Nat) (fa : List He.Fa) (fn : List He.DefD) (ex : PySem.W.Frag → Bool) (g : Addr → Option Obj) : AlM := (He.obsDG n fa fn g, ex (He.frG g (He.asD g n)))
def SaysM (fa : List He.Fa) (fn : List He.DefD) (ex : PySem.W.Frag → Bool) (K : PySem.W.Frag) : Prop := He.SaysD fa fn K ∧ ex K = true
def hookM (n : Nat) (fa : List He.Fa) (fn : List He.DefD) (ex : PySem.W.Frag → Bool) : PySem.W.Hook where
  α := AlM
  obs := fun s => obsM n fa fn ex s.heap.get?
  val := fun _ => (He.valD fn, true)
  says := fun _ h => ∃ K : PySem.W.Frag, K.In h ∧ SaysM fa fn ex K
  of := fun _ _ e => ⟨_, He.frG_in, congrArg (fun z : AlM => z.1) e, congrArg (fun z : AlM => z.2) e⟩
  keeps := fun _ _ _ ⟨K, hK, c⟩ k => ⟨K, PySem.W.Frag.In.keeps hK k, c⟩
theorem obsM_eq {n : Nat} {fa : List He.Fa} {fn : List He.DefD} {ex : PySem.W.Frag → Bool} {g : Addr → Option Obj} {s : Shared} (h : ∀ a, g a = s.heap.get? a) : obsM n fa fn ex g = (hookM n fa fn ex).obs s := by
  have e : g = s.heap.get? := funext h
  rw [e] <;> rfl
theorem kept_of {h : Heap} (X : K.In h) (G : h.Ns mainGlobals mg) {x : Str} {ps : List Str} {st : Stmt} {k : Nat} {sp : Sp}
    (hd : ∃ fd, FnP K x st (He.ga K x) fd) (hg : (He.Fa.glo x).ok K = true)
    (hb : ∀ (kV doc pm : Value) (an : Option Addr) (cdv ct : Value) (us : List Value), us.length = ps.length → bindArgs (PySem.W.fnOf x x (defArgs st) (defBody st) (defScope st) .none kV doc pm an cdv ct) ⟨us, []⟩ = pure (ps.zip us))
    (ok : ∀ f fd, FnP K x st f fd → FnOk P w K mg base CX0 k f fd ps sp) : Kept P w K mg base k x ps sp := by
  obtain ⟨fd, F⟩ := hd
  exact ⟨_, fd, ok _ fd F, He.glo_ok X G hg, F.kp, F.bindsN hb⟩
end
section
variable {X : Cx}
theorem pe_d {k : Nat} {x : Str} {ps : List Str} {sp : Sp} {e : Expr} {es : List Expr} {t : TA} {p pos : Pos} (D : Kept X.prog X.w X.K X.mg X.base k x ps sp) (hr : Room k X.A) (hg : Gl X x) (ha : PA X (e :: es) t)
    (hdb : (x == ("__debug__" : Str)) = false := by decide) (he : starEach (e :: es) X.env = (false, eval e X.env) :: starEach es X.env := by rfl) (hpl : (backTo pos (starEach es X.env)).any (·.1) = false := by rfl) :
    PE X (.Call (.Name x p) (e :: es) [] pos) (tCall sp [] E0 t) := by
  obtain ⟨f, fd, F, g, kp, b⟩ := D
  exact pe_call F hr hg g kp b .nil pass0 ha hdb he hpl
theorem pe_d0 {k : Nat} {x : Str} {ps : List Str} {sp : Sp} {p pos : Pos} (D : Kept X.prog X.w X.K X.mg X.base k x ps sp) (hr : Room k X.A) (hg : Gl X x) (hdb : (x == ("__debug__" : Str)) = false := by decide) :
    PE X (.Call (.Name x p) [] [] pos) (tCall sp [] E0 tNil) := by
  obtain ⟨f, fd, F, g, kp, b⟩ := D
  exact pe_call0 F hr hg g kp b .nil pass0 hdb
/-- a text of the module; an object of the module -/
theorem pe_gs {x z : Str} {pos : Pos} (h : ∃ t, X.mg x = some (.str z t)) (hg : Gl X x) (hd : (x == ("__debug__" : Str)) = false := by decide) : PE X (.Name x pos) (tC (.str z)) := by
  obtain ⟨t, h⟩ := h
  exact pe_glob hg h ⟨_, rfl⟩ hd
/-- xs[i] op= e reads xs[i] -/
theorem get_list : PGet X (rIxL X.K) := by
  intro pins s σ H o i ov iv Q I ro ri h
  obtain ⟨p, xs, i, z, rfl, rfl, hq, he, q⟩ := h
  cases ro
  obtain ⟨t, rfl⟩ := ri
  obtain ⟨its, r, pl, hz⟩ := I.list hq
  obtain ⟨j, h1, h2, h3, h4, h5⟩ := atI_get he
  obtain ⟨w, ew, rw'⟩ := r.get h2
  have hl := r.length
  have hn := line63
  have fin : EP X pins σ Q w s := ⟨z, H, I, rw', q⟩
  by_cases h0 : 0 ≤ i
  · have hj : i.toNat = j := by
      rw [seqIndex_of h0 h5] at h1
      exact Option.some.inj h1
    exact wpAny_mono (wpAny_getItem_list (Q := fun r s' => r = w ∧ EP X pins σ Q r s') pl.isList h0 (by omega) (by rw [hj]; simpa using ew) ⟨rfl, fin⟩) (fun _ _ q => q.2) (fun _ _ q => q)
  · have hj : (i + (its.toArray.size : Int)).toNat = j := by
      rw [seqIndex_neg (by omega) h4] at h1
      rw [List.size_toArray, ← hl]
      exact Option.some.inj h1
    exact wpAny_mono (wpAny_getItem_list_neg (Q := fun r s' => r = w ∧ EP X pins σ Q r s') pl.isList (by omega) (by rw [List.size_toArray] <;> omega) (by omega) (by rw [hj]; simpa using ew) ⟨rfl, fin⟩) (fun _ _ q => q.2) (fun _ _ q => q)
end

/-! ### the draws: [cells, place, rest, seed] at D -/
structure DrawAt (S D : Addr) (H : Hp) : Prop where
  ne : S ≠ D
  cells : ∃ cs : List Int, H S = some (.lst (cs.map V.int))
  at_ : ∃ i r c : Int, 0 ≤ i ∧ H D = some (.lst [.ref S, .int i, .int r, .int c])
/-- all else that is tracked stays -/
def Keep (D : Addr) (H H' : Hp) : Prop := ∀ b o, H b = some o → b ≠ D → H' b = some o
def Go (S D : Addr) (H H' : Hp) : Prop := DrawAt S D H' ∧ Keep D H H'
theorem Keep.refl {D : Addr} {H : Hp} : Keep D H H := fun _ _ h _ => h
theorem Keep.trans {D : Addr} {H H1 H2 : Hp} (a : Keep D H H1) (b : Keep D H1 H2) : Keep D H H2 := fun x o h n => b x o (a x o h n) n
theorem Go.trans {S D : Addr} {H H1 H2 : Hp} (a : Go S D H H1) (b : Go S D H1 H2) : Go S D H H2 := ⟨b.1, a.2.trans b.2⟩
theorem Keep.set {D : Addr} {H H' : Hp} {o : HO} (k : Keep D H H') : Keep D H (upd H' D o) := fun b u h n => by
  rw [upd_ne n]
  exact k b u h n
theorem DrawAt.set {S D : Addr} {H : Hp} (d : DrawAt S D H) {i r c : Int} (h : 0 ≤ i) : DrawAt S D (upd H D (.lst [.ref S, .int i, .int r, .int c])) :=
  ⟨d.ne, d.cells.imp fun cs h => by rw [upd_ne d.ne]; exact h, ⟨i, r, c, h, upd_same⟩⟩
theorem DrawAt.new {S D p : Addr} {H : Hp} {o : HO} (d : DrawAt S D H) (h : H p = none) : DrawAt S D (upd H p o) := by
  obtain ⟨cs, h1⟩ := d.cells
  obtain ⟨i, r, c, h0, h2⟩ := d.at_
  exact ⟨d.ne, ⟨cs, by rw [upd_ne (ne_of_none h1 h)]; exact h1⟩, ⟨i, r, c, h0, by rw [upd_ne (ne_of_none h2 h)]; exact h2⟩⟩
theorem Keep.new {D p : Addr} {H : Hp} {o : HO} (h : H p = none) : Keep D H (upd H p o) := fun b u e _ => by
  rw [upd_ne (ne_of_none e h)]
  exact e
theorem Go.new {S D p : Addr} {H : Hp} {o : HO} (d : DrawAt S D H) (h : H p = none) : Go S D H (upd H p o) := ⟨d.new h, Keep.new h⟩
theorem Go.same {S D : Addr} {H H' : Hp} (d : DrawAt S D H) (h : Same H H') : Go S D H H' := by
  obtain ⟨cs, h1⟩ := d.cells
  obtain ⟨i, r, c, h0, h2⟩ := d.at_
  exact ⟨⟨d.ne, ⟨cs, h _ _ h1⟩, ⟨i, r, c, h0, h _ _ h2⟩⟩, fun b o e _ => h b o e⟩
theorem Go.refl {S D : Addr} {H : Hp} (d : DrawAt S D H) : Go S D H H := ⟨d, Keep.refl⟩
/-- a fresh place stays fresh when looked at from behind -/
theorem DrawAt.free {S D p : Addr} {H : Hp} (d : DrawAt S D H) (h : H p = none) : p ≠ D ∧ p ≠ S := by
  obtain ⟨cs, h1⟩ := d.cells
  obtain ⟨i, r, c, h0, h2⟩ := d.at_
  exact ⟨(ne_of_none h2 h).symm, (ne_of_none h1 h).symm⟩
theorem Go.free {S D p : Addr} {H H' : Hp} (g : Go S D H H') (d : DrawAt S D H) (h : H' p = none) : H p = none := by
  cases q : H p with
  | none => rfl
  | some o =>
    by_cases e : p = D
    · exact absurd e (g.1.free h).1
    · rw [g.2 p o q e] at h
      cases h
def spDraw : Sp := fun vs H Q _ => ∃ (S D : Addr) (many : Int), vs = [.ref D, .int many] ∧ CDivW 0 many ∧ DrawAt S D H ∧ ∀ H' v, 0 ≤ v → v < many → Go S D H H' → Q (.int v) H'
end Mt
namespace Mt
open PySem PySem.Spec PyProof.Rows L2
def topS (i : Nat) : Stmt := PySem.Challenge.pw_meantrace_k38_warm_ups.main.body.getD i (.Pass ⟨0, 0, 0, 0⟩)
abbrev s_tally_of : Stmt := topS 1
abbrev N_tally_of : List Str := ["values", "squares", "worth", "least", "greatest"]
theorem sc_tally_of : FnScope N_tally_of ["values"] (defScope s_tally_of) := ⟨rfl, rfl, rfl, by decide +kernel, rfl, by decide +kernel, by decide +kernel⟩
abbrev s_warm_up : Stmt := topS 3
abbrev N_warm_up : List Str := ["values", "many", "total", "squares", "found", "best", "a", "error"]
theorem sc_warm_up : FnScope N_warm_up ["values"] (defScope s_warm_up) := ⟨rfl, rfl, rfl, by decide +kernel, rfl, by decide +kernel, by decide +kernel⟩
abbrev s__law_begin : Stmt := topS 5
abbrev N__law_begin : List Str := ["script", "cell"]
theorem sc__law_begin : FnScope N__law_begin ["script"] (defScope s__law_begin) := ⟨rfl, rfl, rfl, by decide +kernel, rfl, by decide +kernel, by decide +kernel⟩
abbrev s__law_draw : Stmt := topS 6
abbrev N__law_draw : List Str := ["d", "many", "found", "size", "cell"]
theorem sc__law_draw : FnScope N__law_draw ["d", "many"] (defScope s__law_draw) := ⟨rfl, rfl, rfl, by decide +kernel, rfl, by decide +kernel, by decide +kernel⟩
abbrev s__law_pick : Stmt := topS 7
abbrev N__law_pick : List Str := ["d", "row"]
theorem sc__law_pick : FnScope N__law_pick ["d", "row"] (defScope s__law_pick) := ⟨rfl, rfl, rfl, by decide +kernel, rfl, by decide +kernel, by decide +kernel⟩
abbrev s__law_rare : Stmt := topS 8
abbrev N__law_rare : List Str := ["d", "many"]
theorem sc__law_rare : FnScope N__law_rare ["d", "many"] (defScope s__law_rare) := ⟨rfl, rfl, rfl, by decide +kernel, rfl, by decide +kernel, by decide +kernel⟩
abbrev s__law_is_int : Stmt := topS 9
abbrev N__law_is_int : List Str := ["thing"]
theorem sc__law_is_int : FnScope N__law_is_int ["thing"] (defScope s__law_is_int) := ⟨rfl, rfl, rfl, by decide +kernel, rfl, by decide +kernel, by decide +kernel⟩
abbrev s__law_levels : Stmt := topS 10
abbrev N__law_levels : List Str := ["d", "many", "place", "low", "high", "noise", "row", "k"]
theorem sc__law_levels : FnScope N__law_levels ["d", "many"] (defScope s__law_levels) := ⟨rfl, rfl, rfl, by decide +kernel, rfl, by decide +kernel, by decide +kernel⟩
abbrev s__law_line : Stmt := topS 11
abbrev N__law_line : List Str := ["d", "many", "kind", "k", "part", "signs", "far", "value"]
theorem sc__law_line : FnScope N__law_line ["d"] (defScope s__law_line) := ⟨rfl, rfl, rfl, by decide +kernel, rfl, by decide +kernel, by decide +kernel⟩
abbrev s__law_rest : Stmt := topS 12
abbrev N__law_rest : List Str := ["row", "a", "left", "many", "total", "apart", "value"]
theorem sc__law_rest : FnScope N__law_rest ["row", "a"] (defScope s__law_rest) := ⟨rfl, rfl, rfl, by decide +kernel, rfl, by decide +kernel, by decide +kernel⟩
abbrev s_law : Stmt := topS 13
abbrev N_law : List Str := ["script", "d", "row", "best", "least", "a", "found", "told"]
theorem sc_law : FnScope N_law ["script"] (defScope s_law) := ⟨rfl, rfl, rfl, by decide +kernel, rfl, by decide +kernel, by decide +kernel⟩
structure Txt (K : PySem.W.Frag) (mg : Str → Option Value) : Prop where
  b_int : mg "int" = none
  b_abs : mg "abs" = none
  b_len : mg "len" = none
  b_isinstance : mg "isinstance" = none
  b_bool : mg "bool" = none
  b_tuple : mg "tuple" = none
  b_range : mg "range" = none
  b_sum : mg "sum" = none
  b_min : mg "min" = none
  b_max : mg "max" = none
theorem upd_upd {H : Hp} {p : Addr} {a b : HO} : upd (upd H p a) p b = upd H p b := by
  funext x
  unfold upd
  split <;> rfl
theorem take_map_succ {α β : Type} {f : α → β} {l : List α} {i : Nat} {c : α} (h : l[i]? = some c) : (l.take i).map f ++ [f c] = (l.take (i + 1)).map f := by
  rw [List.take_add_one, h, List.map_append]
  rfl
theorem divW_of {n : Int} (h : 0 < n) (h2 : n < 2 ^ 64) : CDivW 0 n := wide_div h (b := 64) (by omega) (by decide) (by decide)
theorem getV {ns : List Int} {i : Nat} {x : V} (h : (ns.map V.int)[i]? = some x) : ∃ z, x = .int z ∧ ns[i]? = some z := by
  rw [List.getElem?_map] at h
  cases e : ns[i]? with
  | none =>
    rw [e] at h
    cases h
  | some z =>
    rw [e] at h
    exact ⟨z, (Option.some.inj h).symm, rfl⟩
def spBegin (K : PySem.W.Frag) : Sp := fun vs H Q _ => ∃ (a : Addr) (ns : List Int), vs = [.ref a] ∧ SqL K H a (ns.map V.int) ∧ ns.length ≤ 63 ∧ ∀ S D H', Same H H' → H D = none → DrawAt S D H' → Q (.ref D) H'
/-- a text or a list, what it holds -/
def Row (K : PySem.W.Frag) (H : Hp) (v : V) (xs : List V) : Prop := (∃ z : Str, v = .str z ∧ xs = z.cps.toList.map fun c => .str ⟨#[c]⟩) ∨ ∃ p, v = .ref p ∧ SqL K H p xs
def spPick (K : PySem.W.Frag) : Sp := fun vs H Q _ => ∃ (S D : Addr) (r : V) (xs : List V), vs = [.ref D, r] ∧ DrawAt S D H ∧ (∀ H', Go S D H H' → Row K H' r xs) ∧ 0 < xs.length ∧ xs.length ≤ 100000 ∧ ∀ H' x, x ∈ xs → Go S D H H' → Q x H'

theorem same_new {H : Hp} {p : Addr} {o : HO} (h : H p = none) : Same H (upd H p o) := fun b x e => by
  rw [upd_ne (ne_of_none e h)]
  exact e
/-- a change at a place that H does not know -/
theorem same_mut {H H' : Hp} {p : Addr} {o : HO} (s : Same H H') (h : H p = none) : Same H (upd H' p o) := fun b u e => by
  rw [upd_ne (ne_of_none e h)]
  exact s b u e
theorem iteNT {A B : Prop} (h : B) : if (!true) = true then A else B := iteF h
theorem line5 {n : Nat} (h : n ≤ 100000) : n ≤ sizeLine := Nat.le_trans h (by decide)
theorem line6 {n : Nat} (h : n < 100000) : n < sizeLine := Nat.lt_of_lt_of_le h (by decide)
theorem same_l {K : PySem.W.Frag} {H H' : Hp} {a : Addr} {xs : List V} (e : Same H H') (h : SqL K H a xs) : SqL K H' a xs := e.seq h
theorem same_t {K : PySem.W.Frag} {H H' : Hp} {a : Addr} {xs : List V} (e : Same H H') (h : SqT K H a xs) : SqT K H' a xs := by
  rcases h with (h | ⟨o, h⟩) | h
  · exact .inl (.inl (e _ _ h))
  · exact .inl (.inr ⟨o, e _ _ h⟩)
  · exact .inr h
/-! ### sum, min, max of a tuple of whole numbers, with default= -/
section
variable {X : Cx}
theorem cr_sumT (hc : X.calm = true) : CallR X (.builtin "sum") (fun vs H Q => ∃ (a : Addr) (ns : List Int), vs = [V.ref a] ∧ SqT X.K H a (ns.map V.int) ∧ Q (.int ns.sum) H) := by
  intro pins s σ H vs us Q I r h
  obtain ⟨a, ns, rfl, hs, q⟩ := h
  obtain ⟨its, rv, hl, _⟩ := I.tuple hs
  rw [Vals.ref1 r]
  obtain ⟨xs, e⟩ := rv.ints.allInts.items
  have hn : numsOf (intItems xs).toList = ns := e ▸ rv.ints.numsOf
  rw [nums_intItems] at hn
  rw [e] at hl
  refine PySem.W.ktm_sumG (I.ok.hd hc) hl fun h' tk t' hk => ⟨.int _, H, I.kept hk, ⟨t', rfl⟩, ?_⟩
  rw [preSum_eq, List.take_of_length_le (by simp), hn]
  exact q
theorem al_ints (ns : List Int) : PySem.W.AlikeAll (ns.map PyData.int) := by
  refine ⟨fun x hx y hy => ?_, fun x hx e => ?_⟩
  · obtain ⟨i, _, rfl⟩ := List.mem_map.mp hx
    obtain ⟨j, _, rfl⟩ := List.mem_map.mp hy
    rfl
  · obtain ⟨i, _, rfl⟩ := List.mem_map.mp hx
    cases e
theorem dep_ints : ∀ ns : List Int, PyData.depthAll (ns.map PyData.int) = 0
  | [] => rfl
  | n :: r => by
    show max (PyData.depth (.int n)) (PyData.depthAll (r.map PyData.int)) = 0
    rw [dep_ints r]
    rfl
/-- xs of whole numbers: f of the first and the others, or the default -/
def rExtT (K : PySem.W.Frag) (f : Int → Int → Int) : List V → List V → Hp → VK → Prop := fun vs zs H Q => ∃ (a : Addr) (ns : List Int) (d : V), vs = [.ref a] ∧ zs = [d] ∧ SqT K H a (ns.map V.int) ∧ (ns = [] → Q d H) ∧ ∀ n r, ns = n :: r → Q (.int (r.foldl f n)) H
theorem cr_minT (hc : X.calm = true) (hu : X.A.units + 64 < cLine) : CallRK X (.builtin "min") [Str.ofString "default"] (rExtT X.K min) := by
  intro pins s σ H vs zs us ws Q I r rz h
  obtain ⟨a, ns, d, rfl, rfl, hs, q0, q⟩ := h
  obtain ⟨its, rv, hl, _⟩ := I.tuple hs
  obtain ⟨w, rfl, rw'⟩ := vals1 rz
  rw [Vals.ref1 r]
  refine PySem.W.min_tuple_default (xs := ns.map PyData.int) (as := []) (I.ok.hd hc) hl (ints_readAll _ rv.ints) (al_ints ns) (by rw [dep_ints]; omega) (fun e h' tk hk => ⟨d, H, I.kept hk, rw', q0 ?_⟩) fun y ys i v h' tk bs e hv rd hk => ?_
  · cases ns with
    | nil => rfl
    | cons n r => cases e
  · cases ns with
    | nil => cases e
    | cons n r =>
      obtain ⟨rfl, rfl⟩ := List.cons.inj (show PyData.int n :: r.map PyData.int = y :: ys from e)
      rw [PySem.W.minD_ints] at rd
      cases rd with
      | int i t => exact ⟨.int _, H, I.kept hk, ⟨t, rfl⟩, q n r rfl⟩
theorem cr_maxT (hc : X.calm = true) (hu : X.A.units + 64 < cLine) : CallRK X (.builtin "max") [Str.ofString "default"] (rExtT X.K max) := by
  intro pins s σ H vs zs us ws Q I r rz h
  obtain ⟨a, ns, d, rfl, rfl, hs, q0, q⟩ := h
  obtain ⟨its, rv, hl, _⟩ := I.tuple hs
  obtain ⟨w, rfl, rw'⟩ := vals1 rz
  rw [Vals.ref1 r]
  refine PySem.W.max_tuple_default (xs := ns.map PyData.int) (as := []) (I.ok.hd hc) hl (ints_readAll _ rv.ints) (al_ints ns) (by rw [dep_ints]; omega) (fun e h' tk hk => ⟨d, H, I.kept hk, rw', q0 ?_⟩) fun y ys i v h' tk bs e hv rd hk => ?_
  · cases ns with
    | nil => rfl
    | cons n r => cases e
  · cases ns with
    | nil => cases e
    | cons n r =>
      obtain ⟨rfl, rfl⟩ := List.cons.inj (show PyData.int n :: r.map PyData.int = y :: ys from e)
      rw [PySem.W.maxD_ints] at rd
      cases rd with
      | int i t => exact ⟨.int _, H, I.kept hk, ⟨t, rfl⟩, q n r rfl⟩
end
/-! ### the reckoning -/
def sq (l : List Int) : Int := (l.map fun v => v * v).sum
def aps (c t : Int) (l : List Int) : Int := (l.map fun v => (c * v - t) * (c * v - t)).sum
theorem aps_eq (c t : Int) : ∀ l : List Int, aps c t l = c * c * sq l - 2 * c * t * l.sum + l.length * (t * t)
  | [] => by simp [sq, aps]
  | v :: r => by
    have := aps_eq c t r
    unfold sq aps at *
    simp only [List.map_cons, List.sum_cons, List.length_cons] at *
    rw [this]
    push_cast
    grind
def len (l : List Int) : Int := (l.length : Int)
/-- the numerator of the error, over the number of integers cubed -/
def nn (l : List Int) : Int := sq l * len l - l.sum * l.sum
def AP (l : List Int) : Int := aps (len l) l.sum l
def Q4 (l : List Int) : Int := len l * len l * len l * len l
theorem AP_eq (l : List Int) : AP l = len l * nn l := by
  unfold AP nn
  rw [aps_eq]
  unfold len
  grind
theorem cmp_eq (x y m k : Int) (hm : 0 < m) (hk : 0 < k) : (m * x * (k * k * k * k) < k * y * (m * m * m * m)) ↔ x * k ^ 3 < y * m ^ 3 := by
  have e1 : m * x * (k * k * k * k) = (m * k) * (x * k ^ 3) := by grind
  have e2 : k * y * (m * m * m * m) = (m * k) * (y * m ^ 3) := by grind
  rw [e1, e2]
  exact Int.mul_lt_mul_left (Int.mul_pos hm hk)
/-- the i-th rest is less in error than the j-th -/
def less (ns : List Int) (i j : Nat) : Bool := decide (nn (ns.drop i) * len (ns.drop j) ^ 3 < nn (ns.drop j) * len (ns.drop i) ^ 3)
def best (ns : List Int) : Nat → Nat
  | 0 => 0
  | k + 1 => if less ns (k + 1) (best ns k) then k + 1 else best ns k
theorem best_le (ns : List Int) : ∀ k, best ns k ≤ k
  | 0 => Nat.le_refl _
  | k + 1 => by
    unfold best
    have := best_le ns k
    split <;> omega
theorem len_pos {ns : List Int} {i : Nat} (h : i < ns.length) : 0 < len (ns.drop i) := by
  unfold len
  rw [List.length_drop]
  omega
theorem law_less {ns : List Int} {i j : Nat} (hi : i < ns.length) (hj : j < ns.length) : decide (AP (ns.drop i) * Q4 (ns.drop j) < AP (ns.drop j) * Q4 (ns.drop i)) = less ns i j := by
  unfold less
  rw [AP_eq, AP_eq]
  unfold Q4
  exact decide_eq_decide.mpr (cmp_eq _ _ _ _ (len_pos hi) (len_pos hj))
def Few (ns : List Int) : Prop := ∀ z ∈ ns, z.natAbs ≤ 2 ^ 32
theorem sum_few : ∀ {ns : List Int}, Few ns → ns.sum.natAbs ≤ ns.length * 2 ^ 32
  | [], _ => by simp
  | z :: r, h => by
    have h1 := h z List.mem_cons_self
    have h2 := sum_few (ns := r) fun x hx => h x (List.mem_cons_of_mem _ hx)
    rw [List.sum_cons, List.length_cons]
    omega
theorem Few.drop {ns : List Int} (h : Few ns) (i : Nat) : Few (ns.drop i) := fun z hz => h z (List.mem_of_mem_drop hz)
def spIsInt : Sp := fun vs H Q _ => ∃ i : Int, vs = [.int i] ∧ Q (.bl true) H
def spRare : Sp := fun vs H Q _ => ∃ (S D : Addr) (m : Int), vs = [.ref D, .int m] ∧ 0 < m ∧ m < 1000 ∧ DrawAt S D H ∧ ∀ H' b, Go S D H H' → Q (.bl b) H'
def spTally (K : PySem.W.Frag) : Sp := fun vs H Q _ => ∃ (a : Addr) (ns : List Int), vs = [.ref a] ∧ SqT K H a (ns.map V.int) ∧ ns.length ≤ 100 ∧ Few ns ∧ ∀ (H' : Hp) (p : Addr) (x y : V), Same H H' → H' p = some (.tup [.int (len ns), .int ns.sum, .int (sq ns), x, y]) → Q (.ref p) H'
def spWarm (K : PySem.W.Frag) : Sp := fun vs H Q _ => ∃ (a : Addr) (ns : List Int), vs = [.ref a] ∧ SqT K H a (ns.map V.int) ∧ 1 ≤ ns.length ∧ ns.length ≤ 100 ∧ Few ns ∧ ∀ H', Same H H' → Q (.int (best ns (ns.length / 2))) H'
def spRest (K : PySem.W.Frag) : Sp := fun vs H Q _ => ∃ (a : Addr) (ns : List Int) (i : Nat), vs = [.ref a, .int (i : Int)] ∧ SqL K H a (ns.map V.int) ∧ ns.length ≤ 100 ∧ Few ns ∧ ∀ (H' : Hp) (p : Addr), Same H H' → H' p = some (.tup [.int (AP (ns.drop i)), .int (Q4 (ns.drop i))]) → Q (.ref p) H'
def GiveL (S D : Addr) (H : Hp) (Q : VK) : Prop := ∀ (H' : Hp) (L : Addr) (ns : List Int), Go S D H H' → H L = none → H' L = some (.lst (ns.map V.int)) → 1 ≤ ns.length → ns.length ≤ 40 → Few ns → Q (.ref L) H'
def spLevels : Sp := fun vs H Q _ => ∃ (S D : Addr) (m : Int), vs = [.ref D, .int m] ∧ 1 ≤ m ∧ m ≤ 40 ∧ DrawAt S D H ∧ GiveL S D H Q
def spLine : Sp := fun vs H Q _ => ∃ (S D : Addr), vs = [.ref D] ∧ DrawAt S D H ∧ GiveL S D H Q
def spLaw (K : PySem.W.Frag) : Sp := fun vs H Q _ => ∃ (a : Addr) (ns : List Int), vs = [.ref a] ∧ SqL K H a (ns.map V.int) ∧ ns.length ≤ 63 ∧ ∀ H', Q (.bl true) H'
section
variable {P : Program} {w : World} {K : PySem.W.Frag} {mg : Str → Option Value} {base : Heap}
theorem ok__law_draw (T : Txt K mg) {f : Addr} {fd : FuncData} (F : FnP K "_law_draw" s__law_draw f fd) : FnOk P w K mg base CX0 1 f fd ["d", "many"] spDraw := by
  refine F.ok sc__law_draw (fun vs H Q E h => ?_) (fun cdv A outer s H vs Q E hr h => ?_)
  · obtain ⟨S, D, m, rfl, _⟩ := h
    rfl
  · obtain ⟨S, D, m, rfl, hm, d, q⟩ := h
    obtain ⟨cs, hS⟩ := id d.cells
    obtain ⟨i, r, c, h0, hD⟩ := id d.at_
    have hm0 : 0 < m := hm.1
    refine ⟨_, PSs.nox (pss_cons (ps_if (pt_cmpR op_gt (pe_ix ix_list (pv 0) pe_int (fun _ _ => rfl)) pe_int (nomark _)) (pss_cons (ps_set (i := 2) sc__law_draw.nd rfl (Or.inl rfl) (pe_ix ix_list (pv 0) pe_int (fun _ _ => rfl)))
      (pss_cons (ps_asg (pe_op op_fdivW (pv 2) (pv 1)) (pg_sub (pv 0) pe_int set_list))
      (pss_one (ps_ret (pe_op op_mod (pe_callTy call_int1 (by rfl) T.b_int (by decide +kernel) (pa_cons (pv 2) pa_nil)) (pv 1)))))) pss_nil)
      (pss_cons (ps_set (i := 3) sc__law_draw.nd rfl (Or.inl rfl) pe_int)
      (Evl.pss_cut (ps_if (pt_cmpR op_lt (pe_ix ix_list (pv 0) pe_int (fun _ _ => rfl)) (pe_callB call_len (by rfl) T.b_len (by decide +kernel) (pa_cons (pe_ix ix_list (pv 0) pe_int (fun _ _ => rfl)) pa_nil)) (nomark _)) (pss_cons (ps_set (i := 4) sc__law_draw.nd rfl (Or.inl rfl) (pe_ix ix_list (pe_ix ix_list (pv 0) pe_int (fun _ _ => rfl)) (pe_ix ix_list (pv 0) pe_int (fun _ _ => rfl)) (fun _ _ => rfl)))
      (pss_one (ps_set (i := 3) sc__law_draw.nd rfl (Or.inl rfl) (pe_op op_add (pe_op op_mul pe_int (pe_callB call_abs (by rfl) T.b_abs (by decide +kernel) (pa_cons (pv 4) pa_nil))) (pe_callTy call_int1 (by rfl) T.b_int (by decide +kernel) (pa_cons (pe_cmpR op_lt (pv 4) pe_int (nomark _)) pa_nil)))))) pss_nil)
      (pss_cons (ps_augS (pv 0) pe_int get_list pe_int ip_add set_list)
      (pss_cons (ps_if (pt_cmpR op_ge (pv 3) (pe_op op_mul pe_int (pe_op op_pow pe_int pe_int)) (nomark _)) (pss_cons (ps_set (i := 2) sc__law_draw.nd rfl (Or.inl rfl) (pe_op op_mod (pe_callTy call_int1 (by rfl) T.b_int (by decide +kernel) (pa_cons (pe_op op_fdivW (pv 3) pe_int) pa_nil)) (pe_op op_shl pe_int pe_int)))
      (pss_cons (ps_asg (pe_op op_fdivW (pv 2) (pv 1)) (pg_sub (pv 0) pe_int set_list))
      (pss_one (ps_ret (pe_op op_mod (pe_callTy call_int1 (by rfl) T.b_int (by decide +kernel) (pa_cons (pv 2) pa_nil)) (pv 1)))))) pss_nil)
      (pss_cons (ps_asg (pe_op op_mod (pe_callTy call_int1 (by rfl) T.b_int (by decide +kernel) (pa_cons (pe_op op_add (pe_op op_add (pe_op op_add (pe_op op_mul (pe_ix ix_list (pv 0) pe_int (fun _ _ => rfl)) pe_int) (pe_op op_mul (pe_op op_mod (pe_callTy call_int1 (by rfl) T.b_int (by decide +kernel) (pa_cons (pv 3) pa_nil)) pe_int) pe_int)) (pe_op op_mul (pe_ix ix_list (pv 0) pe_int (fun _ _ => rfl)) pe_int)) pe_int) pa_nil)) pe_int) (pg_sub (pv 0) pe_int set_list))
      (pss_one (ps_ret (pe_op op_mod (pe_callTy call_int1 (by rfl) T.b_int (by decide +kernel) (pa_cons (pe_op op_fdivW (pe_ix ix_list (pv 0) pe_int (fun _ _ => rfl)) pe_int) pa_nil)) (pv 1)))))))))), ?_⟩
    refine ⟨_, rfl, D, _, _, _, rfl, rfl, SqL.of hD, atI_nat (j := 2) rfl, _, _, rfl, rfl, _, rfl, ?_⟩
    refine ite2 (fun e => ?_) (fun e => ?_)
    · refine ⟨_, rfl, D, _, _, _, rfl, rfl, SqL.of hD, atI_nat (j := 2) rfl, ?_⟩
      refine ⟨_, rfl, _, rfl, _, _, rfl, rfl, hm, _, rfl, D, _, _, 2, rfl, rfl, hD, rfl, ?_⟩
      refine ⟨_, rfl, .inl ⟨_, rfl, _, rfl, _, _, rfl, rfl, hm0, ?_⟩⟩
      refine q _ _ (Int.emod_nonneg _ (by omega)) (Int.emod_lt_of_pos _ hm0) ⟨d.set h0, Keep.refl.set⟩
    · refine ⟨fun σ' H' => ∃ (z : Int) (x : Option V), σ' = [some (.ref D), some (.int m), none, some (.int z), x] ∧ H' = H, ?_, ?_⟩
      · refine ⟨_, rfl, D, _, _, _, rfl, rfl, SqL.of hD, atI_nat (j := 1) rfl, ?_⟩
        refine ⟨_, rfl, D, _, _, _, rfl, rfl, SqL.of hD, atI_nat (j := 0) rfl, _, _, rfl, .inl ⟨_, SqL.of hS, rfl⟩, _, _, rfl, rfl, _, rfl, ?_⟩
        refine ite2 (fun e1 => ?_) (fun e1 => ?_)
        · have e2 : i < ((cs.map V.int).length : Int) := of_decide_eq_true e1
          have e3 : i.toNat < (cs.map V.int).length := by omega
          have e4 : i.toNat < cs.length := by rw [List.length_map] at e3; exact e3
          have e5 : (cs.map V.int)[i.toNat]? = some (.int cs[i.toNat]) := by
            rw [List.getElem?_map, List.getElem?_eq_getElem e4]
            rfl
          have e6 : atI (cs.map V.int) i = some (.int cs[i.toNat]) := by
            have := atI_nat (xs := cs.map V.int) e5
            rw [show ((i.toNat : Nat) : Int) = i by omega] at this
            exact this
          refine ⟨_, rfl, D, _, _, _, rfl, rfl, SqL.of hD, atI_nat (j := 0) rfl, ?_⟩
          refine ⟨_, rfl, D, _, _, _, rfl, rfl, SqL.of hD, atI_nat (j := 1) rfl, ?_⟩
          refine ⟨S, _, _, _, rfl, rfl, SqL.of hS, e6, ?_⟩
          refine ⟨_, rfl, _, rfl, _, _, rfl, rfl, .inl ⟨by decide, by decide⟩, ?_⟩
          refine ⟨_, rfl, _, _, rfl, rfl, .inr ⟨_, rfl, _, _, rfl, rfl, ?_⟩⟩
          exact ⟨_, _, rfl, rfl⟩
        · exact ⟨_, _, rfl, rfl⟩
      · rintro σ' H' ⟨z, x, rfl, rfl⟩
        refine ⟨_, rfl, D, _, _, _, rfl, rfl, SqL.of hD, atI_nat (j := 1) rfl, ?_⟩
        refine ⟨_, _, rfl, rfl, D, _, _, 1, rfl, rfl, hD, rfl, ?_⟩
        have hD1 : (upd H' D (.lst [.ref S, .int (i + 1), .int r, .int c])) D = some (.lst [.ref S, .int (i + 1), .int r, .int c]) := upd_same
        have d1 : DrawAt S D (upd H' D (.lst [.ref S, .int (i + 1), .int r, .int c])) := d.set (by omega)
        refine ⟨_, rfl, _, _, rfl, rfl, ⟨by decide, by decide, by decide⟩, _, _, rfl, rfl, .inl ⟨by decide, by decide⟩, _, _, rfl, rfl, _, rfl, ?_⟩
        refine ite2 (fun e1 => ?_) (fun e1 => ?_)
        · refine ⟨_, rfl, _, _, rfl, rfl, ⟨by decide, by decide⟩, .inl ⟨_, rfl, _, _, rfl, rfl, ⟨by decide, by decide, by decide⟩, ?_⟩⟩
          refine ⟨_, _, rfl, rfl, ?_, ?_⟩
          · show (0 : Int) < 1 * 2 ^ (6000 : Int).toNat
            exact Int.mul_pos (by decide) (Int.pow_pos (by decide))
          · refine ⟨_, rfl, _, rfl, _, _, rfl, rfl, hm, _, rfl, D, _, _, 2, rfl, rfl, hD1, rfl, ?_⟩
            refine ⟨_, rfl, .inl ⟨_, rfl, _, rfl, _, _, rfl, rfl, hm0, ?_⟩⟩
            exact q _ _ (Int.emod_nonneg _ (by omega)) (Int.emod_lt_of_pos _ hm0) ⟨d1.set (by omega), Keep.refl.set.set⟩
        · refine ⟨_, rfl, D, _, _, _, rfl, rfl, SqL.of hD1, atI_nat (j := 3) rfl, _, _, rfl, rfl, .inr ⟨by decide, by decide⟩, ?_⟩
          refine ⟨_, rfl, .inl ⟨_, rfl, _, _, rfl, rfl, (by show (0 : Int) < 2147483629; decide), _, _, rfl, rfl, .inr ⟨by decide, by decide⟩, _, _, rfl, rfl, ?_⟩⟩
          refine ⟨_, rfl, D, _, _, _, rfl, rfl, SqL.of hD1, atI_nat (j := 1) rfl, _, _, rfl, rfl, .inr ⟨by decide, by decide⟩, _, _, rfl, rfl, _, _, rfl, rfl, .inl ⟨_, rfl, ?_⟩⟩
          refine ⟨_, _, rfl, rfl, (by show (0 : Int) < 2147483647; decide), _, rfl, D, _, _, 3, rfl, rfl, hD1, rfl, ?_⟩
          refine ⟨_, rfl, D, _, _, _, rfl, rfl, SqL.of upd_same, atI_nat (j := 3) rfl, _, _, rfl, rfl, ⟨by decide, by decide⟩, ?_⟩
          refine .inl ⟨_, rfl, _, rfl, _, _, rfl, rfl, hm0, ?_⟩
          exact q _ _ (Int.emod_nonneg _ (by omega)) (Int.emod_lt_of_pos _ hm0) ⟨d1.set (by omega), Keep.refl.set.set⟩
theorem ok__law_begin (T : Txt K mg) {f : Addr} {fd : FuncData} (F : FnP K "_law_begin" s__law_begin f fd) : FnOk P w K mg base CX0 1 f fd ["script"] (spBegin K) := by
  refine F.ok sc__law_begin (fun vs H Q E h => ?_) (fun cdv A outer s H vs Q E hr h => ?_)
  · obtain ⟨a, ns, rfl, _⟩ := h
    rfl
  · obtain ⟨a, ns, rfl, hS, hlen, q⟩ := h
    refine ⟨_, PSs.nox (pss_one (ps_ret (pe_lst (pa_cons (pe_lc (own := [("cell", 1)]) (g := (gName 1)) (tt := tYes) rfl sc__law_begin.nd (pi_list (pv 0)) (blkOk_by (N := N__law_begin) (sc := defScope s__law_begin) (by decide +kernel)) (fun _ _ _ _ _ => (pg_name (i := 1) sc__law_begin.nd rfl (Or.inl rfl))) (fun _ _ _ _ _ => pts_nil) (fun _ _ _ _ _ => (pe_callTy call_int1 (by rfl) T.b_int (by decide +kernel) (pa_cons (pv 1) pa_nil)))) (pa_cons pe_int (pa_cons pe_int (pa_cons pe_int pa_nil))))))), ?_⟩
    refine ⟨_, rfl, a, rfl, ⟨_, hS⟩, fun L hL => lc_list (xs := ns.map V.int) (fun i H' => H' = upd H L (.lst ((ns.take i).map V.int))) rfl (fun i H' _ e => ?_) ?_ ?_⟩
    · subst e
      exact (show Same H _ from fun b o h => by rw [upd_ne (ne_of_none h hL)]; exact h).seq hS
    · rintro i x H1 hi rfl
      obtain ⟨z, rfl, hz⟩ := getV hi
      refine ⟨rfl, _, rfl, .inl ⟨_, rfl, _, upd_same, ?_, ?_⟩⟩
      · rw [List.length_map, List.length_take]
        exact Nat.lt_of_le_of_lt (Nat.min_le_right _ _) (small1000 (by omega))
      · rw [upd_upd, take_map_succ (f := V.int) hz]
    · rintro H' rfl
      refine ⟨by show 4 ≤ sizeLine; decide, fun D hD => ?_⟩
      have nLD : D ≠ L := fun e => by
        rw [e, upd_same] at hD
        cases hD
      have hD0 : H D = none := by
        rw [upd_ne nLD] at hD
        exact hD
      refine q L D _ (fun b o h => ?_) hD0 ⟨fun e => nLD e.symm, ⟨ns, ?_⟩, ⟨0, 0, 7, by decide, upd_same⟩⟩
      · rw [upd_ne (ne_of_none h hD0), upd_ne (ne_of_none h hL)]
        exact h
      · rw [upd_ne (fun e => nLD e.symm), upd_same]
        rw [List.take_of_length_le (by rw [List.length_map]; exact Nat.le_refl _)]
theorem ok__law_pick (T : Txt K mg) (D__law_draw : Kept P w K mg base 1 "_law_draw" ["d", "many"] spDraw) {f : Addr} {fd : FuncData} (F : FnP K "_law_pick" s__law_pick f fd) : FnOk P w K mg base CX0 2 f fd ["d", "row"] (spPick K) := by
  refine F.ok sc__law_pick (fun vs H Q E h => ?_) (fun cdv A outer s H vs Q E hr h => ?_)
  · obtain ⟨S, D, r, xs, rfl, _⟩ := h
    rfl
  · obtain ⟨S, D, r, xs, rfl, d, hR, h0, h1, q⟩ := h
    refine ⟨_, PSs.nox (pss_one (ps_ret (pe_ix ix_seq (pv 1) (pe_d D__law_draw (hr.mono (by decide)) (by rfl) (pa_cons (pv 0) (pa_cons (pe_callB call_len (by rfl) T.b_len (by decide +kernel) (pa_cons (pv 1) pa_nil)) pa_nil))) (fun _ _ => rfl)))), ?_⟩
    refine ⟨r, rfl, _, rfl, _, rfl, r, xs.length, rfl, ?_, ?_⟩
    · rcases hR H (Go.refl d) with ⟨z, rfl, rfl⟩ | ⟨p, rfl, hp⟩
      · refine ⟨?_, by simp [Str.length]⟩
        rw [List.length_map] at h1
        have : z.length = z.cps.toList.length := by simp [Str.length]
        rw [this]
        exact Nat.le_trans h1 (by decide)
      · exact .inl ⟨_, hp, rfl⟩
    · refine ⟨S, D, _, rfl, divW_of (by omega) (by omega), d, fun H' v hv0 hv1 g => ?_⟩
      have hv : v.toNat < xs.length := by omega
      have e : ((v.toNat : Nat) : Int) = v := by omega
      have ex : xs[v.toNat]? = some xs[v.toNat] := List.getElem?_eq_getElem hv
      have ea : atI xs v = some xs[v.toNat] := by
        have := atI_nat (xs := xs) ex
        rw [e] at this
        exact this
      rcases hR H' g with ⟨z, rfl, rfl⟩ | ⟨p, rfl, hp⟩
      · refine .inr (.inr ⟨z, v, z.cps.toList[v.toNat]'(by rw [List.length_map] at hv; exact hv), rfl, rfl, ?_, ?_, ?_⟩)
        · rw [List.length_map] at h1
          have : z.length = z.cps.toList.length := by simp [Str.length]
          rw [this]
          exact Nat.le_trans h1 (by decide)
        · have := atI_nat (xs := z.cps.toList) (List.getElem?_eq_getElem (show v.toNat < z.cps.toList.length by rw [List.length_map] at hv; exact hv))
          rw [e] at this
          exact this
        · refine q H' _ ?_ g
          exact List.mem_map_of_mem (List.getElem_mem _)
      · exact .inl ⟨p, xs, v, _, rfl, rfl, hp, ea, q H' _ (List.getElem_mem _) g⟩

end
end Mt
namespace Mt
open PySem PySem.Spec PyProof.Rows L2
theorem addL {S D L : Addr} {H0 H : Hp} {ns : List Int} (z : Int) (L0 : H0 L = none) (d0 : DrawAt S D H0) (g : Go S D H0 H) : Go S D H0 (upd H L (.lst (ns.map V.int ++ [.int z]))) ∧ (upd H L (.lst (ns.map V.int ++ [.int z]))) L = some (.lst ((ns ++ [z]).map V.int)) := by
  obtain ⟨LD, LS⟩ := d0.free L0
  obtain ⟨cs, hc⟩ := g.1.cells
  obtain ⟨j, r, c, j0, hD⟩ := g.1.at_
  refine ⟨⟨⟨g.1.ne, ⟨cs, ?_⟩, ⟨j, r, c, j0, ?_⟩⟩, fun b o h n => ?_⟩, by rw [upd_same, List.map_append]; rfl⟩
  · rw [upd_ne LS.symm]
    exact hc
  · rw [upd_ne LD.symm]
    exact hD
  · rw [upd_ne (ne_of_none h L0)]
    exact g.2 b o h n
theorem few_add {ns : List Int} {z : Int} (h : Few ns) (hz : z.natAbs ≤ 2 ^ 32) : Few (ns ++ [z]) := fun x hx => by
  rcases List.mem_append.mp hx with h1 | h1
  · exact h x h1
  · rw [List.mem_singleton.mp h1]
    exact hz
theorem flat_map (k : Nat) (ns : List Int) : (List.replicate k (ns.map V.int)).flatten = ((List.replicate k ns).flatten).map V.int := by
  rw [List.map_flatten, List.map_replicate]
theorem flat_len : ∀ (k : Nat) (ns : List Int), ((List.replicate k ns).flatten).length = k * ns.length
  | 0, _ => by simp
  | k + 1, ns => by
    rw [List.replicate_succ, List.flatten_cons, List.length_append, flat_len k ns, Nat.succ_mul, Nat.add_comm]
theorem flat_few {ns : List Int} (h : Few ns) : ∀ k, Few ((List.replicate k ns).flatten) := fun k z hz => by
  obtain ⟨l, hl, hz2⟩ := List.mem_flatten.mp hz
  rw [(List.mem_replicate.mp hl).2] at hz2
  exact h z hz2
theorem cut_k (xs : List V) (k : Nat) : cutV xs none (some (k : Int)) = xs.take k := by
  unfold cutV
  rw [HT.sIx_nat, HT.sIx_none]
  show List.take (min k xs.length - 0) (xs.drop 0) = _
  rw [List.drop_zero, Nat.sub_zero, ← List.take_eq_take_min]
theorem few_nil : Few [] := fun _ h => absurd h List.not_mem_nil
section
variable {P : Program} {w : World} {K : PySem.W.Frag} {mg : Str → Option Value} {base : Heap}
theorem cut_from (ns : List Int) (i : Nat) : cutV (ns.map V.int) (some (i : Int)) none = (ns.drop i).map V.int := by
  unfold cutV
  rw [HT.sIx_nat, HT.sIx_none, List.map_drop]
  by_cases h : i ≤ (ns.map V.int).length
  · rw [Nat.min_eq_left h, List.take_of_length_le (by rw [List.length_drop]; exact Nat.le_refl _)]
  · rw [Nat.min_eq_right (by omega), List.drop_of_length_le (Nat.le_refl _), List.drop_of_length_le (by omega), List.take_nil]
theorem four {ns : List Int} (i : Nat) (h : ns.length ≤ 100) : -(2 ^ 64) < Q4 (ns.drop i) ∧ Q4 (ns.drop i) < 2 ^ 64 := by
  unfold Q4 len
  have hl : (ns.drop i).length ≤ 100 := by
    rw [List.length_drop]
    omega
  generalize (ns.drop i).length = n at hl
  have h1 := Nat.mul_le_mul (Nat.mul_le_mul (Nat.mul_le_mul hl hl) hl) hl
  have e : (n : Int) * n * n * n = ((n * n * n * n : Nat) : Int) := by push_cast; rfl
  rw [e]
  omega
theorem cube {x : Int} (h0 : 0 ≤ x) (h1 : x ≤ 100) : -(2 ^ 64) < x ^ 3 ∧ x ^ 3 < 2 ^ 64 := by
  obtain ⟨n, rfl⟩ := Int.eq_ofNat_of_zero_le h0
  have h := Nat.pow_le_pow_left (show n ≤ 100 by omega) 3
  have e : (n : Int) ^ 3 = ((n ^ 3 : Nat) : Int) := by
    push_cast
    rfl
  rw [e]
  omega
theorem ok__law_rare (T : Txt K mg) (D__law_draw : Kept P w K mg base 1 "_law_draw" ["d", "many"] spDraw) {f : Addr} {fd : FuncData} (F : FnP K "_law_rare" s__law_rare f fd) : FnOk P w K mg base CX0 2 f fd ["d", "many"] spRare := by
  refine F.ok sc__law_rare (fun vs H Q E h => ?_) (fun cdv A outer s H vs Q E hr h => ?_)
  · obtain ⟨S, D, m, rfl, _⟩ := h
    rfl
  · obtain ⟨S, D, m, rfl, m0, m1, d, q⟩ := h
    refine ⟨_, PSs.nox (pss_one (ps_ret (pe_cmpR op_eq (pe_d D__law_draw (hr.mono (by decide)) (by rfl) (pa_cons (pv 0) (pa_cons (pv 1) pa_nil))) (pe_op op_fdivW (pv 1) pe_int) (nomark _)))), ?_⟩
    exact ⟨_, rfl, _, rfl, S, D, m, rfl, divW_of m0 (by omega), d, fun H1 v _ _ g => ⟨_, rfl, _, _, rfl, rfl, ⟨by decide, by decide⟩, rfl, q H1 _ g⟩⟩
theorem ok_tally_of (T : Txt K mg) {f : Addr} {fd : FuncData} (F : FnP K "tally_of" s_tally_of f fd) : FnOk P w K mg base CX0 1 f fd ["values"] (spTally K) := by
  refine F.ok sc_tally_of (fun vs H Q E h => ?_) (fun cdv A outer s H vs Q E hr h => ?_)
  · obtain ⟨a, ns, rfl, _⟩ := h
    rfl
  · obtain ⟨a, ns, rfl, hS, hl, hf, q⟩ := h
    refine ⟨_, PSs.nox (pss_cons (ps_set (i := 1) sc_tally_of.nd rfl (Or.inl rfl) (pe_callB (cr_sum rfl) (by rfl) T.b_sum (by decide +kernel) (pa_cons (pe_lc (own := [("worth", 2)]) (g := (gName 2)) (tt := tYes) rfl sc_tally_of.nd (pi_tup (pv 0)) (blkOk_by (N := N_tally_of) (sc := defScope s_tally_of) (by decide +kernel)) (fun _ _ _ _ _ => (pg_name (i := 2) sc_tally_of.nd rfl (Or.inl rfl))) (fun _ _ _ _ _ => pts_nil) (fun _ _ _ _ _ => (pe_op op_mul (pv 2) (pv 2)))) pa_nil)))
      (pss_cons (ps_set (i := 3) sc_tally_of.nd rfl (Or.inl rfl) (pe_callBK (cr_minT rfl hr.units) (by rfl) T.b_min (by decide +kernel) (pa_cons (pv 0) pa_nil) (pk_cons pe_non pk_nil)))
      (pss_cons (ps_set (i := 4) sc_tally_of.nd rfl (Or.inl rfl) (pe_callBK (cr_maxT rfl hr.units) (by rfl) T.b_max (by decide +kernel) (pa_cons (pv 0) pa_nil) (pk_cons pe_non pk_nil)))
      (pss_one (ps_ret (pe_tup (pa_cons (pe_callB call_len (by rfl) T.b_len (by decide +kernel) (pa_cons (pv 0) pa_nil)) (pa_cons (pe_callB (cr_sumT rfl) (by rfl) T.b_sum (by decide +kernel) (pa_cons (pv 0) pa_nil)) (pa_cons (pv 1) (pa_cons (pv 3) (pa_cons (pv 4) pa_nil))))))))))), ?_⟩
    refine ⟨_, rfl, a, rfl, ⟨_, hS⟩, fun L hL => lc_tup (xs := ns.map V.int) (fun i H' => H' = upd H L (.lst ((ns.take i).map fun z => V.int (z * z)))) rfl (fun i H' _ e => ?_) ?_ ?_⟩
    · subst e
      exact same_t (same_new hL) hS
    · rintro i x H1 hi rfl
      obtain ⟨z, rfl, hz⟩ := getV hi
      have hzf := hf z (List.mem_of_getElem? hz)
      refine ⟨rfl, _, rfl, _, rfl, _, _, rfl, rfl, .inl ⟨by omega, by omega⟩, _, upd_same, ?_, ?_⟩
      · rw [List.length_map, List.length_take]
        exact line6 (by omega)
      · rw [upd_upd, take_map_succ (f := fun z => V.int (z * z)) hz]
    · rintro H' rfl
      rw [List.length_map, List.take_length]
      have s1 := same_new (o := .lst (ns.map fun z => V.int (z * z))) hL
      have hS1 := same_t s1 hS
      refine ⟨L, ns.map fun z => z * z, rfl, SqL.of (by rw [List.map_map]; exact upd_same), ?_⟩
      refine ⟨_, rfl, a, ns, .non, rfl, rfl, hS1, fun e => ?_, fun n r e => ?_⟩ <;> refine ⟨_, rfl, a, ns, .non, rfl, rfl, hS1, fun e => ?_, fun n r e => ?_⟩ <;>
        exact ⟨_, rfl, _, _, rfl, .inr ⟨_, hS1, rfl⟩, _, rfl, a, ns, rfl, hS1, _, rfl, _, rfl, _, rfl, by show 5 ≤ sizeLine; decide, fun p hp => q _ p _ _ (s1.trans (same_new hp)) (by rw [upd_same, List.length_map]; rfl)⟩
theorem ok_warm_up (T : Txt K mg) (D_tally_of : Kept P w K mg base 1 "tally_of" ["values"] (spTally K)) {f : Addr} {fd : FuncData} (F : FnP K "warm_up" s_warm_up f fd) : FnOk P w K mg base CX0 2 f fd ["values"] (spWarm K) := by
  refine F.ok sc_warm_up (fun vs H Q E h => ?_) (fun cdv A outer s H vs Q E hr h => ?_)
  · obtain ⟨a, ns, rfl, _⟩ := h
    rfl
  · obtain ⟨a, ns, rfl, hS, h1, hl, hf, q⟩ := h
    refine ⟨_, PSs.nox (pss_cons (ps_asg (pe_slice sl_tup (pe_d D_tally_of (hr.mono (by decide)) (by rfl) (pa_cons (pv 0) pa_nil)) po_none (po_some pe_int)) (pg_tup rfl (pgs_cons (pg_name (i := 1) sc_warm_up.nd rfl (Or.inl rfl)) (pgs_cons (pg_name (i := 2) sc_warm_up.nd rfl (Or.inl rfl)) (pgs_cons (pg_name (i := 3) sc_warm_up.nd rfl (Or.inl rfl)) pgs_nil)))))
      (pss_cons (ps_set (i := 4) sc_warm_up.nd rfl (Or.inl rfl) pe_int)
      (pss_cons (ps_set (i := 5) sc_warm_up.nd rfl (Or.inl rfl) pe_non)
      (pss_cons (ps_for PassesOwn.never rfl (pi_range1 (by rfl) T.b_range (pa_cons (pe_op op_add (pe_op op_fdivW (pe_callB call_len (by rfl) T.b_len (by decide +kernel) (pa_cons (pv 0) pa_nil)) pe_int) pe_int) pa_nil)) (pg_name (i := 6) sc_warm_up.nd rfl (Or.inl rfl)) (pss_cons (ps_set (i := 7) sc_warm_up.nd rfl (Or.inl rfl) (pe_tup (pa_cons (pe_op op_sub (pe_op op_mul (pv 3) (pv 1)) (pe_op op_mul (pv 2) (pv 2))) (pa_cons (pe_op op_pow (pv 1) pe_int) pa_nil))))
      (Evl.pss_cut (ps_if (PW.pt (pw_or (pt_cmpR op_isN (pv 5) pe_non (nomark _)) (pw_or1 (pt_cmpR op_lt (pe_op op_mul (pe_ix ix_tup (pv 7) pe_int (fun _ _ => rfl)) (pe_ix ix_tup (pv 5) pe_int (fun _ _ => rfl))) (pe_op op_mul (pe_ix ix_tup (pv 5) pe_int (fun _ _ => rfl)) (pe_ix ix_tup (pv 7) pe_int (fun _ _ => rfl))) (nomark _))))) (pss_cons (ps_set (i := 4) sc_warm_up.nd rfl (Or.inl rfl) (pv 6))
      (pss_one (ps_set (i := 5) sc_warm_up.nd rfl (Or.inl rfl) (pv 7)))) pss_nil)
      (pss_cons (ps_aug (i := 1) sc_warm_up.nd rfl (Or.inl rfl) pe_int ip_sub)
      (pss_cons (ps_aug (i := 2) sc_warm_up.nd rfl (Or.inl rfl) (pe_ix ix_tup (pv 0) (pv 6) (fun _ _ => rfl)) ip_sub)
      (pss_one (ps_aug (i := 3) sc_warm_up.nd rfl (Or.inl rfl) (pe_op op_mul (pe_ix ix_tup (pv 0) (pv 6) (fun _ _ => rfl)) (pe_ix ix_tup (pv 0) (pv 6) (fun _ _ => rfl))) ip_sub)))))))
      (pss_one (ps_ret (pv 4))))))), ?_⟩
    refine ⟨_, rfl, a, ns, rfl, hS, hl, hf, fun H1 p x y s1 hp => ?_⟩
    refine ⟨3, rfl, p, _, rfl, SqT.of hp, (fun e => absurd (show HT.sIx 5 5 (some 3) = 5 from e.2) (by decide)), fun p2 hp2 => ?_⟩
    have s2 := s1.trans (same_new (o := .tup (cutV [V.int (len ns), .int ns.sum, .int (sq ns), x, y] none (some 3))) hp2)
    have hT2 := SqT.of (K := K) (upd_same (H := H1) (a := p2) (o := .tup (cutV [V.int (len ns), .int ns.sum, .int (sq ns), x, y] none (some 3))))
    generalize upd H1 p2 _ = H2 at s2 hT2
    refine ⟨p2, [.int (len ns), .int ns.sum, .int (sq ns)], rfl, hT2, rfl, _, _, rfl, _, _, rfl, _, _, rfl, rfl, ?_⟩
    have hS2 := same_t s2 hS
    have hn : (((List.map V.int ns).length : Int) / 2 + 1).toNat = ns.length / 2 + 1 := by rw [List.length_map]; omega
    refine ⟨_, rfl, _, _, rfl, .inr ⟨_, hS2, rfl⟩, _, _, rfl, rfl, ⟨by decide, by decide⟩, _, _, rfl, rfl, _, rfl, ?_, ?_, for_range (lo := 0) (n := (((List.map V.int ns).length : Int) / 2 + 1).toNat) (fun i σ H' => ∃ (fd : Int) (bs y6 y7 : Option V), σ = [some (.ref a), some (.int (len (ns.drop i))), some (.int (ns.drop i).sum), some (.int (sq (ns.drop i))), some (.int fd), bs, y6, y7] ∧ Same H2 H' ∧
      ((i = 0 ∧ fd = 0 ∧ bs = some .non) ∨ ∃ j b, i = j + 1 ∧ fd = (best ns j : Nat) ∧ bs = some (.ref b) ∧ H' b = some (.tup [.int (nn (ns.drop (best ns j))), .int (len (ns.drop (best ns j)) ^ 3)]))) ?_ ?_ ?_⟩
    · rw [List.length_map]
      omega
    · rw [List.length_map]
      omega
    · exact ⟨0, some .non, none, none, rfl, Same.refl _, .inl ⟨rfl, rfl, rfl⟩⟩
    · rintro i σ H3 hi ⟨fd, bs, y6, y7, rfl, s3, hb⟩
      rw [hn] at hi
      have hil : i < ns.length := by omega
      have l0 : (0 : Int) ≤ len (ns.drop i) ∧ len (ns.drop i) ≤ 100 := by
        unfold len
        rw [List.length_drop]
        omega
      have su := sum_few (hf.drop i)
      have sl : (ns.drop i).length ≤ 100 := by
        rw [List.length_drop]
        omega
      refine ⟨_, rfl, _, rfl, _, _, rfl, rfl, .inr ⟨by omega, by omega⟩, _, rfl, _, rfl, _, _, rfl, rfl, .inl ⟨by omega, by omega⟩, _, _, rfl, rfl, _, rfl, _, _, rfl, rfl, ⟨by decide, by decide, by omega⟩, by show 2 ≤ sizeLine; decide, fun e he => ?_⟩
      have s4 := s3.trans (same_new (o := .tup [V.int (nn (ns.drop i)), .int (len (ns.drop i) ^ 3)]) he)
      have he4 : (upd H3 e (.tup [V.int (nn (ns.drop i)), .int (len (ns.drop i) ^ 3)])) e = _ := upd_same
      have sk : Same H3 _ := same_new (o := .tup [V.int (nn (ns.drop i)), .int (len (ns.drop i) ^ 3)]) he
      refine ⟨fun σ' H' => ∃ b, σ' = [some (.ref a), some (.int (len (ns.drop i))), some (.int (ns.drop i).sum), some (.int (sq (ns.drop i))), some (.int (best ns i : Nat)), some (.ref b), some (.int (0 + (i : Int))), some (.ref e)] ∧ Same H2 H' ∧ H' b = some (.tup [.int (nn (ns.drop (best ns i))), .int (len (ns.drop (best ns i)) ^ 3)]), ?_, ?_⟩
      · rcases hb with ⟨rfl, rfl, rfl⟩ | ⟨j, b, rfl, rfl, rfl, hb⟩
        · refine ⟨_, rfl, rfl, _, rfl, ?_⟩
          refine ite2 (fun _ => ?_) (fun n => absurd (by rfl) n)
          refine ite2 (fun _ => ?_) (fun n => absurd rfl n)
          exact ⟨_, rfl, _, rfl, e, rfl, s4, he4⟩
        · have hb4 := sk _ _ hb
          have lb : (0 : Int) ≤ len (ns.drop (best ns j)) ∧ len (ns.drop (best ns j)) ≤ 100 := by
            unfold len
            rw [List.length_drop]
            omega
          refine ⟨_, rfl, rfl, _, rfl, ?_⟩
          refine ite2 (fun n => by cases of_decide_eq_true n) (fun _ => ?_)
          refine ⟨_, rfl, e, _, _, _, rfl, rfl, SqT.of he4, atI_nat (j := 0) rfl, _, rfl, b, _, _, _, rfl, rfl, SqT.of hb4, atI_nat (j := 1) rfl, _, _, rfl, rfl, .inr (cube lb.1 lb.2), _, rfl, b, _, _, _, rfl, rfl, SqT.of hb4, atI_nat (j := 0) rfl, _, rfl, e, _, _, _, rfl, rfl, SqT.of he4, atI_nat (j := 1) rfl, _, _, rfl, rfl, .inr (cube l0.1 l0.2), _, _, rfl, rfl, _, rfl, ?_⟩
          refine ite2 (fun n => ?_) (fun n => ?_)
          · have eb : best ns (j + 1) = j + 1 := if_pos n
            refine ⟨_, rfl, _, rfl, e, ?_, s4, ?_⟩
            · rw [eb, Int.zero_add]
              rfl
            · rw [eb]
              exact he4
          · have eb : best ns (j + 1) = best ns j := if_neg n
            refine ⟨b, ?_, s4, ?_⟩
            · rw [eb]
              rfl
            · rw [eb]
              exact hb4
      · rintro σ' H' ⟨b, rfl, s5, hb⟩
        have hS5 := same_t s5 hS2
        obtain ⟨z, hz⟩ : ∃ z, ns[i]? = some z := ⟨_, List.getElem?_eq_getElem hil⟩
        have hat : atI (ns.map V.int) (0 + (i : Int)) = some (.int z) := by
          rw [Int.zero_add]
          exact atI_nat (by rw [List.getElem?_map, hz]; rfl)
        have hzf := hf z (List.mem_of_getElem? hz)
        have ed : ns.drop i = z :: ns.drop (i + 1) := by
          rw [List.drop_eq_getElem_cons hil]
          rw [List.getElem?_eq_getElem hil] at hz
          rw [Option.some.inj hz]
        refine ⟨_, rfl, _, _, rfl, rfl, _, rfl, _, rfl, _, rfl, a, _, _, _, rfl, rfl, hS5, hat, _, _, rfl, rfl, _, rfl, _, rfl, _, rfl, a, _, _, _, rfl, rfl, hS5, hat, _, rfl, _, rfl, a, _, _, _, rfl, rfl, hS5, hat, _, _, rfl, rfl, .inl ⟨by omega, by omega⟩, _, _, rfl, rfl, _, some (.ref b), some (.int (0 + (i : Int))), some (.ref e), ?_, s5, .inr ⟨i, b, rfl, rfl, rfl, hb⟩⟩
        rw [ed]
        have e1 : len (z :: ns.drop (i + 1)) - 1 = len (ns.drop (i + 1)) := by
          unfold len
          rw [List.length_cons]
          omega
        have e2 : (z :: ns.drop (i + 1)).sum - z = (ns.drop (i + 1)).sum := by
          rw [List.sum_cons]
          omega
        have e3 : sq (z :: ns.drop (i + 1)) - z * z = sq (ns.drop (i + 1)) := by
          unfold sq
          rw [List.map_cons, List.sum_cons]
          omega
        rw [← e1, ← e2, ← e3]
        rfl
    · rintro σ H3 ⟨fd, bs, y6, y7, rfl, s3, hb⟩
      rcases hb with ⟨e, _⟩ | ⟨j, b, e, rfl, rfl, hb⟩
      · omega
      · obtain rfl : j = ns.length / 2 := by omega
        exact ⟨_, rfl, q _ (s2.trans s3)⟩
theorem ok__law_is_int (T : Txt K mg) {f : Addr} {fd : FuncData} (F : FnP K "_law_is_int" s__law_is_int f fd) : FnOk P w K mg base CX0 1 f fd ["thing"] spIsInt := by
  refine F.ok sc__law_is_int (fun vs H Q E h => ?_) (fun cdv A outer s H vs Q E hr h => ?_)
  · obtain ⟨i, rfl, _⟩ := h
    rfl
  · obtain ⟨i, rfl, q⟩ := h
    refine ⟨_, PSs.nox (pss_one (ps_ret (pe_and (pe_callB call_isi (by rfl) T.b_isinstance (by decide +kernel) (pa_cons (pv 0) (pa_cons (pe_bltn (v := .ty "int") (u := .type "int") (by rfl) T.b_int (by decide +kernel) rfl) pa_nil))) (pe_one (pe_not (pe_callB call_isi (by rfl) T.b_isinstance (by decide +kernel) (pa_cons (pv 0) (pa_cons (pe_bltn (v := .ty "bool") (u := .type "bool") (by rfl) T.b_bool (by decide +kernel) rfl) pa_nil)))))))), ?_⟩
    refine ⟨_, rfl, _, .ty "int", .type "int", .type "int", true, rfl, .ty _, .base (.int _), kit_ty (by decide +kernel), true, rfl, ?_⟩
    exact ⟨_, rfl, _, .ty "bool", .type "int", .type "bool", false, rfl, .ty _, .base (.int _), kit_ty (by decide +kernel), false, rfl, q⟩
theorem ok__law_rest (T : Txt K mg) {f : Addr} {fd : FuncData} (F : FnP K "_law_rest" s__law_rest f fd) : FnOk P w K mg base CX0 1 f fd ["row", "a"] (spRest K) := by
  refine F.ok sc__law_rest (fun vs H Q E h => ?_) (fun cdv A outer s H vs Q E hr h => ?_)
  · obtain ⟨a, ns, i, rfl, _⟩ := h
    rfl
  · obtain ⟨a, ns, i, rfl, hS, hl, hf, q⟩ := h
    refine ⟨_, PSs.nox (pss_cons (ps_set (i := 2) sc__law_rest.nd rfl (Or.inl rfl) (pe_slice sl_list (pv 0) (po_some (pv 1)) po_none))
      (pss_cons (ps_set (i := 3) sc__law_rest.nd rfl (Or.inr rfl) (pe_callB call_len (by rfl) T.b_len (by decide +kernel) (pa_cons (pv 2) pa_nil)))
      (pss_cons (ps_set (i := 4) sc__law_rest.nd rfl (Or.inr rfl) (pe_callB (cr_sum rfl) (by rfl) T.b_sum (by decide +kernel) (pa_cons (pv 2) pa_nil)))
      (pss_cons (ps_set (i := 5) sc__law_rest.nd rfl (Or.inl rfl) (pe_callB (cr_sum rfl) (by rfl) T.b_sum (by decide +kernel) (pa_cons (pe_lc (own := [("value", 6)]) (g := (gName 6)) (tt := tYes) rfl sc__law_rest.nd (pi_list (pv 2)) (blkOk_by (N := N__law_rest) (sc := defScope s__law_rest) (by decide +kernel)) (fun _ _ _ _ _ => (pg_name (i := 6) sc__law_rest.nd rfl (Or.inl rfl))) (fun _ _ _ _ _ => pts_nil) (fun _ _ _ _ _ => (pe_op op_mul (pe_op op_sub (pe_op op_mul (pv 3) (pv 6)) (pv 4)) (pe_op op_sub (pe_op op_mul (pv 3) (pv 6)) (pv 4))))) pa_nil)))
      (pss_one (ps_ret (pe_tup (pa_cons (pv 5) (pa_cons (pe_op op_mul (pe_op op_mul (pe_op op_mul (pv 3) (pv 3)) (pv 3)) (pv 3)) pa_nil))))))))), ?_⟩
    refine ⟨_, rfl, _, rfl, _, rfl, a, _, rfl, hS, fun L hL => ?_⟩
    rw [show cutV (ns.map V.int) (some (i : Int)) none = (ns.drop i).map V.int from cut_from ns i]
    have s1 := same_new (o := .lst ((ns.drop i).map V.int)) hL
    have hL1 := upd_same (H := H) (a := L) (o := .lst ((ns.drop i).map V.int))
    generalize upd H L _ = H1 at s1 hL1
    have l0 : (0 : Int) ≤ len (ns.drop i) ∧ len (ns.drop i) ≤ 100 := by
      unfold len
      rw [List.length_drop]
      omega
    have lm : (((ns.drop i).map V.int).length : Int) = len (ns.drop i) := by
      rw [List.length_map]
      rfl
    have su := sum_few (hf.drop i)
    have sl : (ns.drop i).length ≤ 100 := by
      rw [List.length_drop]
      omega
    have hfi := hf.drop i
    generalize ns.drop i = ls at *
    refine ⟨_, rfl, _, _, rfl, .inl ⟨_, SqL.of hL1, rfl⟩, ?_⟩
    rw [lm]
    refine ⟨_, rfl, L, ls, rfl, SqL.of hL1, ?_⟩
    refine ⟨_, rfl, L, rfl, ⟨_, SqL.of hL1⟩, fun M hM => lc_list (xs := ls.map V.int) (fun i H' => H' = upd H1 M (.lst ((ls.take i).map fun z => V.int ((len ls * z - ls.sum) * (len ls * z - ls.sum))))) rfl (fun i H' _ e => ?_) ?_ ?_⟩
    · subst e
      exact same_l (same_new hM) (SqL.of hL1)
    · rintro j x H2 hj rfl
      obtain ⟨z, rfl, hz⟩ := getV hj
      have hzf := hfi z (List.mem_of_getElem? hz)
      have hp : (len ls * z - ls.sum).natAbs ≤ 2 ^ 60 := by
        have h1 := Int.natAbs_sub_le (len ls * z) ls.sum
        have h2 : (len ls * z).natAbs ≤ 100 * 2 ^ 32 := by
          rw [Int.natAbs_mul]
          exact Nat.mul_le_mul (by omega) hzf
        omega
      refine ⟨rfl, _, rfl, _, rfl, _, _, rfl, rfl, .inl ⟨by omega, by omega⟩, _, rfl, _, _, rfl, rfl, _, rfl, _, rfl, _, _, rfl, rfl, .inl ⟨by omega, by omega⟩, _, rfl, _, _, rfl, rfl, _, _, rfl, rfl, .inl ⟨by omega, by omega⟩, _, upd_same, ?_, ?_⟩
      · rw [List.length_map, List.length_take]
        exact line6 (by omega)
      · rw [upd_upd, take_map_succ (f := fun z => V.int ((len ls * z - ls.sum) * (len ls * z - ls.sum))) hz]
    · rintro H' rfl
      rw [List.length_map, List.take_length]
      have s2 := s1.trans (same_new (o := .lst (ls.map fun z => V.int ((len ls * z - ls.sum) * (len ls * z - ls.sum)))) hM)
      refine ⟨M, ls.map fun z => (len ls * z - ls.sum) * (len ls * z - ls.sum), rfl, SqL.of (by rw [List.map_map]; exact upd_same), ?_⟩
      refine ⟨_, rfl, _, rfl, _, rfl, _, _, rfl, rfl, .inl ⟨by omega, by omega⟩, _, rfl, _, _, rfl, rfl, .inr ⟨by omega, by omega⟩, _, rfl, _, _, rfl, rfl, .inr ⟨by omega, by omega⟩, by show 2 ≤ sizeLine; decide, fun p hp => ?_⟩
      exact q _ p (s2.trans (same_new hp)) upd_same
theorem ok__law_levels (T : Txt K mg) (D__law_draw : Kept P w K mg base 1 "_law_draw" ["d", "many"] spDraw) {f : Addr} {fd : FuncData} (F : FnP K "_law_levels" s__law_levels f fd) : FnOk P w K mg base CX0 2 f fd ["d", "many"] spLevels := by
  refine F.ok sc__law_levels (fun vs H Q E h => ?_) (fun cdv A outer s H vs Q E hr h => ?_)
  · obtain ⟨S, D, m, rfl, _⟩ := h
    rfl
  · obtain ⟨S, D, m, rfl, m0, m1, d, q⟩ := h
    refine ⟨_, PSs.nox (pss_cons (ps_set (i := 2) sc__law_levels.nd rfl (Or.inl rfl) (pe_d D__law_draw (hr.mono (by decide)) (by rfl) (pa_cons (pv 0) (pa_cons (pe_op op_add (pv 1) pe_int) pa_nil))))
      (pss_cons (ps_set (i := 3) sc__law_levels.nd rfl (Or.inl rfl) (pe_op op_sub (pe_d D__law_draw (hr.mono (by decide)) (by rfl) (pa_cons (pv 0) (pa_cons pe_int pa_nil))) pe_int))
      (pss_cons (ps_set (i := 4) sc__law_levels.nd rfl (Or.inl rfl) (pe_op op_sub (pe_d D__law_draw (hr.mono (by decide)) (by rfl) (pa_cons (pv 0) (pa_cons pe_int pa_nil))) pe_int))
      (pss_cons (ps_set (i := 5) sc__law_levels.nd rfl (Or.inl rfl) (pe_lst (pa_cons (pe_op op_add pe_int (pe_d D__law_draw (hr.mono (by decide)) (by rfl) (pa_cons (pv 0) (pa_cons pe_int pa_nil)))) (pa_cons (pe_op op_add pe_int (pe_d D__law_draw (hr.mono (by decide)) (by rfl) (pa_cons (pv 0) (pa_cons pe_int pa_nil)))) pa_nil))))
      (pss_cons (ps_set (i := 6) sc__law_levels.nd rfl (Or.inl rfl) (pe_lst pa_nil))
      (pss_cons (ps_for PassesOwn.never rfl (pi_range1 (by rfl) T.b_range (pa_cons (pv 1) pa_nil)) (pg_name (i := 7) sc__law_levels.nd rfl (Or.inl rfl)) (pss_one (ps_if (pt_cmpR op_lt (pv 7) (pv 2) (nomark _)) (pss_one (ps_expr (pe_bm PySem.F.plainAttrs_list PySem.F.slot_list_append PySem.F.type_list_append mt_append (pv 6) (pa_cons (pe_op op_add (pv 3) (pe_d D__law_draw (hr.mono (by decide)) (by rfl) (pa_cons (pv 0) (pa_cons (pe_ix ix_list (pv 5) pe_int (fun _ _ => rfl)) pa_nil)))) pa_nil)))) (pss_one (ps_expr (pe_bm PySem.F.plainAttrs_list PySem.F.slot_list_append PySem.F.type_list_append mt_append (pv 6) (pa_cons (pe_op op_add (pv 4) (pe_d D__law_draw (hr.mono (by decide)) (by rfl) (pa_cons (pv 0) (pa_cons (pe_ix ix_list (pv 5) pe_int (fun _ _ => rfl)) pa_nil)))) pa_nil)))))))
      (pss_one (ps_ret (pv 6))))))))), ?_⟩
    refine ⟨_, rfl, _, rfl, _, _, rfl, rfl, S, D, _, rfl, divW_of (by omega) (by omega), d, fun H1 pl _ _ g1 => ?_⟩
    refine ⟨_, rfl, S, D, 19, rfl, divW_of (by decide) (by decide), g1.1, fun H2 lo lo0 lo1 g2 => ⟨_, _, rfl, rfl, ?_⟩⟩
    refine ⟨_, rfl, S, D, 19, rfl, divW_of (by decide) (by decide), g2.1, fun H3 hh hh0 hh1 g3 => ⟨_, _, rfl, rfl, ?_⟩⟩
    refine ⟨_, rfl, S, D, 3, rfl, divW_of (by decide) (by decide), g3.1, fun H4 a a0 a1 g4 => ⟨_, _, rfl, rfl, ?_⟩⟩
    refine ⟨_, rfl, S, D, 2, rfl, divW_of (by decide) (by decide), g4.1, fun H5 b b0 b1 g5 => ⟨_, _, rfl, rfl, ?_⟩⟩
    refine ⟨by show 2 ≤ sizeLine; decide, fun N hN => ?_⟩
    have g05 := (((g1.trans g2).trans g3).trans g4).trans g5
    have g6 := g05.trans (Go.new (o := .lst [V.int (1 + a), .int (1 + b)]) g5.1 hN)
    have hN6 := upd_same (H := H5) (a := N) (o := .lst [V.int (1 + a), .int (1 + b)])
    have ND := (g5.1.free hN).1
    generalize upd H5 N _ = H6 at g6 hN6
    refine ⟨Nat.zero_le _, fun L hL => ?_⟩
    have L0 := g6.free d hL
    have LD := (g6.1.free hL).1
    have NL : N ≠ L := ne_of_none hN6 hL
    have g7 := Go.new (o := .lst []) g6.1 hL
    refine ⟨_, rfl, _, rfl, by omega, by omega, for_range (lo := 0) (n := m.toNat) (fun i σ H' => ∃ (ns : List Int) (y : Option V), σ = [some (.ref D), some (.int m), some (.int pl), some (.int (lo - 9)), some (.int (hh - 9)), some (.ref N), some (.ref L), y] ∧ Go S D H6 H' ∧ H' L = some (.lst (ns.map V.int)) ∧ H' N = some (.lst [V.int (1 + a), .int (1 + b)]) ∧ ns.length = i ∧ Few ns) ⟨[], none, rfl, g7, upd_same, ?_, rfl, fun _ h => absurd h List.not_mem_nil⟩ ?_ ?_⟩
    · rw [upd_ne NL]
      exact hN6
    · rintro i σ H7 hi ⟨ns, y, rfl, g, hL7, hN7, hl, hf⟩
      have key : ∀ (H8 : Hp) (v t n : Int), 0 ≤ v → v < n → n ≤ 3 → -9 ≤ t → t ≤ 9 → Go S D H7 H8 → Go S D H6 (upd H8 L (.lst (ns.map V.int ++ [.int (t + v)]))) ∧ (upd H8 L (.lst (ns.map V.int ++ [.int (t + v)]))) L = some (.lst ((ns ++ [t + v]).map V.int)) ∧ (upd H8 L (.lst (ns.map V.int ++ [.int (t + v)]))) N = some (.lst [V.int (1 + a), .int (1 + b)]) ∧ (ns ++ [t + v]).length = i + 1 ∧ Few (ns ++ [t + v]) := fun H8 v t n v0 v1 v3 t0 t1 g8 => by
        have g68 := g.trans g8
        refine ⟨⟨?_, fun b o h n => ?_⟩, by rw [upd_same, List.map_append]; rfl, by rw [upd_ne NL]; exact g8.2 _ _ hN7 ND, by rw [List.length_append, List.length_singleton, hl], fun z hz => ?_⟩
        · obtain ⟨cs, hc⟩ := g68.1.cells
          obtain ⟨j, r, c, j0, hD⟩ := g68.1.at_
          refine ⟨g68.1.ne, ⟨cs, ?_⟩, ⟨j, r, c, j0, ?_⟩⟩
          · rw [upd_ne (g6.1.free hL).2.symm]
            exact hc
          · rw [upd_ne LD.symm]
            exact hD
        · rw [upd_ne (ne_of_none h hL)]
          exact g68.2 b o h n
        · rcases List.mem_append.mp hz with h | h
          · exact hf z h
          · rw [List.mem_singleton.mp h]
            omega
      refine ⟨_, rfl, _, rfl, _, _, rfl, rfl, _, rfl, ?_⟩
      refine ite2 (fun _ => ?_) (fun _ => ?_)
      · exact ⟨_, rfl, .inl ⟨rfl, _, SqL.of hL7⟩, _, rfl, _, rfl, _, rfl, N, _, _, _, rfl, rfl, SqL.of hN7, atI_nat (j := 0) rfl, S, D, _, rfl, divW_of (by omega) (by omega), g.1, fun H8 v v0 v1 g8 => ⟨_, _, rfl, rfl, L, _, _, rfl, rfl, g8.2 _ _ hL7 LD, by rw [List.length_map]; exact line6 (by omega), _, _, rfl, key H8 v (lo - 9) _ v0 v1 (by omega) (by omega) (by omega) g8⟩⟩
      · exact ⟨_, rfl, .inl ⟨rfl, _, SqL.of hL7⟩, _, rfl, _, rfl, _, rfl, N, _, _, _, rfl, rfl, SqL.of hN7, atI_nat (j := 1) rfl, S, D, _, rfl, divW_of (by omega) (by omega), g.1, fun H8 v v0 v1 g8 => ⟨_, _, rfl, rfl, L, _, _, rfl, rfl, g8.2 _ _ hL7 LD, by rw [List.length_map]; exact line6 (by omega), _, _, rfl, key H8 v (hh - 9) _ v0 v1 (by omega) (by omega) (by omega) g8⟩⟩
    · rintro σ H7 ⟨ns, y, rfl, g, hL7, hN7, hl, hf⟩
      exact ⟨_, rfl, q H7 L ns (g6.trans g) L0 hL7 (by omega) (by omega) hf⟩
theorem ok__law_line (T : Txt K mg) (D__law_draw : Kept P w K mg base 1 "_law_draw" ["d", "many"] spDraw) (D__law_pick : Kept P w K mg base 2 "_law_pick" ["d", "row"] (spPick K)) (D__law_rare : Kept P w K mg base 2 "_law_rare" ["d", "many"] spRare) (D__law_levels : Kept P w K mg base 2 "_law_levels" ["d", "many"] spLevels) {f : Addr} {fd : FuncData} (F : FnP K "_law_line" s__law_line f fd) : FnOk P w K mg base CX0 3 f fd ["d"] spLine := by
  refine F.ok sc__law_line (fun vs H Q E h => ?_) (fun cdv A outer s H vs Q E hr h => ?_)
  · obtain ⟨S, D, rfl, _⟩ := h
    rfl
  · obtain ⟨S, D, rfl, d, q⟩ := h
    refine ⟨_, PSs.nox (pss_cons (ps_set (i := 1) sc__law_line.nd rfl (Or.inl rfl) (pe_op op_add pe_int (pe_d D__law_draw (hr.mono (by decide)) (by rfl) (pa_cons (pv 0) (pa_cons pe_int pa_nil)))))
      (Evl.pss_cut (ps_if (pt_cmpR op_eq (pe_d D__law_draw (hr.mono (by decide)) (by rfl) (pa_cons (pv 0) (pa_cons pe_int pa_nil))) pe_int (nomark _)) (pss_one (ps_set (i := 1) sc__law_line.nd rfl (Or.inl rfl) (pe_op op_add pe_int (pe_d D__law_draw (hr.mono (by decide)) (by rfl) (pa_cons (pv 0) (pa_cons pe_int pa_nil)))))) pss_nil)
      (Evl.pss_cut (ps_if (pt_val (pe_d D__law_rare (hr.mono (by decide)) (by rfl) (pa_cons (pv 0) (pa_cons pe_int pa_nil)))) (pss_one (ps_set (i := 1) sc__law_line.nd rfl (Or.inl rfl) (pe_op op_add pe_int (pe_d D__law_draw (hr.mono (by decide)) (by rfl) (pa_cons (pv 0) (pa_cons pe_int pa_nil)))))) pss_nil)
      (pss_cons (ps_set (i := 2) sc__law_line.nd rfl (Or.inl rfl) (pe_d D__law_draw (hr.mono (by decide)) (by rfl) (pa_cons (pv 0) (pa_cons pe_int pa_nil))))
      (pss_cons (ps_if (pt_cmpR op_eq (pv 2) pe_int (nomark _)) (pss_one (ps_ret (pe_lc (own := [("k", 3)]) (g := (gName 3)) (tt := tYes) rfl sc__law_line.nd (pi_range1 (by rfl) T.b_range (pa_cons (pv 1) pa_nil)) (blkOk_by (N := N__law_line) (sc := defScope s__law_line) (by decide +kernel)) (fun _ _ _ _ _ => (pg_name (i := 3) sc__law_line.nd rfl (Or.inl rfl))) (fun _ _ _ _ _ => pts_nil) (fun _ _ _ _ _ => (pe_d D__law_draw (hr.mono (by decide)) (by rfl) (pa_cons (pv 0) (pa_cons pe_int pa_nil))))))) pss_nil)
      (pss_cons (ps_if (pt_cmpR op_eq (pv 2) pe_int (nomark _)) (pss_cons (ps_setLc (i := 4) (own := [("k", 3)]) (g := (gName 3)) (tt := tYes) rfl sc__law_line.nd rfl rfl (sw_true rfl rfl rfl (by decide +kernel)) (pi_range1 (by rfl) T.b_range (pa_cons (pe_op op_add pe_int (pe_d D__law_draw (hr.mono (by decide)) (by rfl) (pa_cons (pv 0) (pa_cons pe_int pa_nil)))) pa_nil)) (blkOk_by (N := N__law_line) (sc := defScope s__law_line) (by decide +kernel)) (fun _ _ _ _ _ => (pg_name (i := 3) sc__law_line.nd rfl (Or.inl rfl))) (fun _ _ _ _ _ => pts_nil) (fun _ _ _ _ _ => (pe_d D__law_draw (hr.mono (by decide)) (by rfl) (pa_cons (pv 0) (pa_cons pe_int pa_nil)))))
      (pss_one (ps_ret (pe_slice sl_list (pe_op op_rep (pv 4) (pv 1)) po_none (po_some (pv 1)))))) pss_nil)
      (pss_cons (ps_if (pt_cmpR op_eq (pv 2) pe_int (nomark _)) (pss_cons (ps_set (i := 5) sc__law_line.nd rfl (Or.inr rfl) (pe_lst (pa_cons pe_int (pa_cons (pe_un un_neg pe_int) pa_nil))))
      (pss_cons (ps_setLc (i := 6) (own := [("k", 3)]) (g := (gName 3)) (tt := tYes) rfl sc__law_line.nd rfl rfl (sw_true rfl rfl rfl (by decide +kernel)) (pi_range1 (by rfl) T.b_range (pa_cons (pv 1) pa_nil)) (blkOk_by (N := N__law_line) (sc := defScope s__law_line) (by decide +kernel)) (fun _ _ _ _ _ => (pg_name (i := 3) sc__law_line.nd rfl (Or.inl rfl))) (fun _ _ _ _ _ => pts_nil) (fun _ _ _ _ _ => (pe_op op_add (pe_op op_mul (pe_d D__law_draw (hr.mono (by decide)) (by rfl) (pa_cons (pv 0) (pa_cons (pe_op op_pow pe_int pe_int) pa_nil))) (pe_op op_pow pe_int pe_int)) (pe_d D__law_draw (hr.mono (by decide)) (by rfl) (pa_cons (pv 0) (pa_cons (pe_op op_pow pe_int pe_int) pa_nil))))))
      (pss_one (ps_ret (pe_lc (own := [("value", 7)]) (g := (gName 7)) (tt := tYes) rfl sc__law_line.nd (pi_list (pv 6)) (blkOk_by (N := N__law_line) (sc := defScope s__law_line) (by decide +kernel)) (fun _ _ _ _ _ => (pg_name (i := 7) sc__law_line.nd rfl (Or.inl rfl))) (fun _ _ _ _ _ => pts_nil) (fun _ _ _ _ _ => (pe_op op_mul (pv 7) (pe_d D__law_pick (hr.mono (by decide)) (by rfl) (pa_cons (pv 0) (pa_cons (pv 5) pa_nil)))))))))) pss_nil)
      (pss_one (ps_ret (pe_d D__law_levels (hr.mono (by decide)) (by rfl) (pa_cons (pv 0) (pa_cons (pv 1) pa_nil)))))))))))), ?_⟩
    refine ⟨_, rfl, S, D, 5, rfl, divW_of (by decide) (by decide), d, fun H1 m m0 m1 g1 => ⟨_, _, rfl, rfl, ?_⟩⟩
    refine ⟨fun σ' H' => ∃ mm : Int, σ' = [some (.ref D), some (.int mm), none, none, none, none, none, none] ∧ 1 ≤ mm ∧ mm ≤ 40 ∧ Go S D H H', ?_, ?_⟩
    · refine ⟨_, rfl, S, D, 2, rfl, divW_of (by decide) (by decide), g1.1, fun H2 v _ _ g2 => ⟨rfl, _, rfl, ?_⟩⟩
      refine ite2 (fun _ => ?_) (fun _ => ⟨_, rfl, by omega, by omega, g1.trans g2⟩)
      exact ⟨_, rfl, S, D, 16, rfl, divW_of (by decide) (by decide), g2.1, fun H3 v v0 v1 g3 => ⟨_, _, rfl, rfl, _, rfl, by omega, by omega, (g1.trans g2).trans g3⟩⟩
    · rintro σ' H2 ⟨m2, rfl, n0, n1, g2⟩
      refine ⟨fun σ' H' => ∃ mm : Int, σ' = [some (.ref D), some (.int mm), none, none, none, none, none, none] ∧ 1 ≤ mm ∧ mm ≤ 40 ∧ Go S D H H', ?_, ?_⟩
      · refine ⟨_, rfl, S, D, 9, rfl, by decide, by decide, g2.1, fun H3 b g3 => ⟨b, rfl, ?_⟩⟩
        refine ite2 (fun _ => ?_) (fun _ => ⟨_, rfl, n0, n1, g2.trans g3⟩)
        exact ⟨_, rfl, S, D, 40, rfl, divW_of (by decide) (by decide), g3.1, fun H4 v v0 v1 g4 => ⟨_, _, rfl, rfl, _, rfl, by omega, by omega, (g2.trans g3).trans g4⟩⟩
      · rintro σ' H3 ⟨mm, rfl, mm0, mm1, g3⟩
        refine ⟨_, rfl, S, D, 7, rfl, divW_of (by decide) (by decide), g3.1, fun H4 kd _ _ g4 => ?_⟩
        have g := g3.trans g4
        have zero : ∀ L, H4 L = none → H L = none := fun L h => g.free d h
        refine ⟨_, rfl, rfl, _, rfl, ?_⟩
        refine ite2 (fun _ => ?_) (fun _ => ?_)
        · refine ⟨_, rfl, _, rfl, by omega, by omega, fun L hL => lc_range (lo := 0) (n := mm.toNat) (fun j H' => ∃ ns : List Int, Go S D H4 H' ∧ H' L = some (.lst (ns.map V.int)) ∧ ns.length = j ∧ Few ns) ⟨[], Go.new g.1 hL, upd_same, rfl, few_nil⟩ ?_ ?_⟩
          · rintro j H5 hj ⟨ns, g5, hL5, hl, hf⟩
            have LD := (g.1.free hL).1
            refine ⟨rfl, _, rfl, S, D, 2, rfl, divW_of (by decide) (by decide), g5.1, fun H6 v v0 v1 g6 => ?_⟩
            obtain ⟨a1, a2⟩ := addL (ns := ns) v hL g.1 (g5.trans g6)
            exact ⟨_, g6.2 _ _ hL5 LD, by rw [List.length_map]; exact line6 (by omega), _, a1, a2, by rw [List.length_append, List.length_singleton, hl], few_add hf (by omega)⟩
          · rintro H5 ⟨ns, g5, hL5, hl, hf⟩
            exact q H5 L ns (g.trans g5) (zero L hL) hL5 (by omega) (by omega) hf
        · refine ⟨_, rfl, rfl, _, rfl, ?_⟩
          refine ite2 (fun _ => ?_) (fun _ => ?_)
          · refine ⟨_, rfl, S, D, 3, rfl, divW_of (by decide) (by decide), g.1, fun H5 v v0 v1 g5 => ⟨_, _, rfl, rfl, _, rfl, by omega, by omega, fun L hL => lc_range (lo := 0) (n := (1 + v).toNat) (fun j H' => ∃ ns : List Int, Go S D H5 H' ∧ H' L = some (.lst (ns.map V.int)) ∧ ns.length = j ∧ Few ns) ⟨[], Go.new g5.1 hL, upd_same, rfl, few_nil⟩ ?_ ?_⟩⟩
            · rintro j H6 hj ⟨ns, g6, hL6, hl, hf⟩
              have LD := (g5.1.free hL).1
              refine ⟨rfl, _, rfl, S, D, 5, rfl, divW_of (by decide) (by decide), g6.1, fun H7 v v0 v1 g7 => ?_⟩
              obtain ⟨a1, a2⟩ := addL (ns := ns) v hL g5.1 (g6.trans g7)
              exact ⟨_, g7.2 _ _ hL6 LD, by rw [List.length_map]; exact line6 (by omega), _, a1, a2, by rw [List.length_append, List.length_singleton, hl], few_add hf (by omega)⟩
            · rintro H6 ⟨ns, g6, hL6, hl, hf⟩
              have gg := (g.trans g5).trans g6
              refine ⟨_, rfl, _, rfl, L, mm, _, rfl, rfl, hL6, by omega, by omega, ?_, fun p hp => ?_⟩
              · rw [List.length_map]
                have h1 : ns.length ≤ 3 := by omega
                have h2 : mm.toNat ≤ 40 := by omega
                exact line5 (Nat.le_trans (Nat.mul_le_mul h1 h2) (by decide))
              · refine ⟨_, rfl, mm, rfl, p, _, rfl, SqL.of upd_same, fun p2 hp2 => ?_⟩
                have em : mm = ((mm.toNat : Nat) : Int) := by omega
                have ec : cutV (List.replicate mm.toNat (ns.map V.int)).flatten none (some mm) = (((List.replicate mm.toNat ns).flatten).take mm.toNat).map V.int := by
                  rw [em, Int.toNat_natCast, cut_k, flat_map, List.map_take]
                have gp := gg.trans (Go.new (o := .lst (List.replicate mm.toNat (ns.map V.int)).flatten) g6.1 hp)
                have gq := gp.trans (Go.new (o := .lst (cutV (List.replicate mm.toNat (ns.map V.int)).flatten none (some mm))) gp.1 hp2)
                have hlen : (((List.replicate mm.toNat ns).flatten).take mm.toNat).length = min mm.toNat (mm.toNat * ns.length) := by rw [List.length_take, flat_len]
                have h1 : mm.toNat * 1 ≤ mm.toNat * ns.length := Nat.mul_le_mul (Nat.le_refl _) (by omega)
                exact q _ p2 _ gq (gp.free d hp2) (by rw [← ec]; exact upd_same) (by omega) (by omega) fun z hz => flat_few hf _ z (List.mem_of_mem_take hz)
          · refine ⟨_, rfl, rfl, _, rfl, ?_⟩
            refine ite2 (fun _ => ?_) (fun _ => ?_)
            · refine ⟨_, rfl, by show 2 ≤ sizeLine; decide, fun G hG => ?_⟩
              have g5 := Go.new (o := .lst [V.int 1, .int (-1)]) g.1 hG
              have hG5 := upd_same (H := H4) (a := G) (o := .lst [V.int 1, .int (-1)])
              have GD := (g.1.free hG).1
              generalize upd H4 G _ = H5 at g5 hG5
              have e5 : (10 : Int) ^ (5 : Int).toNat = 100000 := by decide
              have e4 : (10 : Int) ^ (4 : Int).toNat = 10000 := by decide
              refine ⟨_, rfl, _, rfl, by omega, by omega, fun F hF => lc_range (lo := 0) (n := mm.toNat) (fun j H' => ∃ ns : List Int, Go S D H5 H' ∧ H' F = some (.lst (ns.map V.int)) ∧ ns.length = j ∧ ∀ z ∈ ns, z.natAbs ≤ 2 ^ 31) ⟨[], Go.new g5.1 hF, upd_same, rfl, fun _ h => absurd h List.not_mem_nil⟩ ?_ ?_⟩
              · rintro j H6 hj ⟨ns, g6, hF6, hl, hf⟩
                have FD := (g5.1.free hF).1
                refine ⟨rfl, _, rfl, _, _, rfl, rfl, ⟨by decide, by decide, by decide⟩, ?_⟩
                refine ⟨S, D, 100000, congrArg (fun i => [V.ref D, V.int i]) e5, divW_of (by decide) (by decide), g6.1, fun H7 v v0 v1 g7 => ⟨_, _, rfl, rfl, ⟨by decide, by decide, by decide⟩, ?_⟩⟩
                refine ⟨v, 10000, rfl, congrArg V.int e4, .inr ⟨by decide, by decide⟩, _, rfl, _, _, rfl, rfl, ⟨by decide, by decide, by decide⟩, ?_⟩
                refine ⟨S, D, 10000, congrArg (fun i => [V.ref D, V.int i]) e4, divW_of (by decide) (by decide), g7.1, fun H8 u u0 u1 g8 => ⟨_, _, rfl, rfl, ?_⟩⟩
                obtain ⟨a1, a2⟩ := addL (ns := ns) (v * 10000 + u) hF g5.1 ((g6.trans g7).trans g8)
                refine ⟨_, (g7.trans g8).2 _ _ hF6 FD, by rw [List.length_map]; exact line6 (by omega), _, a1, a2, by rw [List.length_append, List.length_singleton, hl], fun z hz => ?_⟩
                rcases List.mem_append.mp hz with h | h
                · exact hf z h
                · rw [List.mem_singleton.mp h]
                  omega
              · rintro H6 ⟨fs, g6, hF6, hfl, hff⟩
                have FD := (g5.1.free hF).1
                have hG6 := g6.2 _ _ hG5 GD
                have g06 := (g.trans g5).trans g6
                refine ⟨_, rfl, F, rfl, ⟨_, SqL.of hF6⟩, fun L hL => lc_list (xs := fs.map V.int) (fun j H' => ∃ ns : List Int, Go S D H6 H' ∧ H' L = some (.lst (ns.map V.int)) ∧ ns.length = j ∧ Few ns) ⟨[], Go.new g6.1 hL, upd_same, rfl, few_nil⟩ (fun j H' _ ⟨_, g7, _⟩ => SqL.of (g7.2 _ _ hF6 FD)) ?_ ?_⟩
                · rintro j x H7 hj ⟨ns, g7, hL7, hl, hf⟩
                  obtain ⟨z, rfl, hz⟩ := getV hj
                  have hzf := hff z (List.mem_of_getElem? hz)
                  have hjl : j < fs.length := (List.getElem?_eq_some_iff.mp hz).1
                  have LD := (g6.1.free hL).1
                  refine ⟨rfl, _, rfl, _, rfl, _, rfl, S, D, _, [.int 1, .int (-1)], rfl, g7.1, fun H' g' => .inr ⟨G, rfl, SqL.of ((g7.trans g').2 _ _ hG6 GD)⟩, by decide, by decide, fun H8 x hx g8 => ?_⟩
                  obtain ⟨s, rfl, hs⟩ : ∃ s : Int, x = .int s ∧ (s = 1 ∨ s = -1) := by
                    simp only [List.mem_cons, List.not_mem_nil, or_false] at hx
                    rcases hx with h | h
                    · exact ⟨1, h, .inl rfl⟩
                    · exact ⟨-1, h, .inr rfl⟩
                  have hp : (z * s).natAbs ≤ 2 ^ 32 := by
                    rcases hs with rfl | rfl <;> omega
                  obtain ⟨a1, a2⟩ := addL (ns := ns) (z * s) hL g6.1 (g7.trans g8)
                  exact ⟨_, _, rfl, rfl, .inl ⟨by omega, by omega⟩, _, g8.2 _ _ hL7 LD, by rw [List.length_map]; exact line6 (by omega), _, a1, a2, by rw [List.length_append, List.length_singleton, hl], few_add hf hp⟩
                · rintro H7 ⟨ns, g7, hL7, hl, hf⟩
                  rw [List.length_map] at hl
                  exact q H7 L ns (g06.trans g7) (g06.free d hL) hL7 (by omega) (by omega) hf
            · exact ⟨_, rfl, _, rfl, S, D, mm, rfl, mm0, mm1, g.1, fun H5 L ns g5 h0 hL h1 h2 h3 => q H5 L ns (g.trans g5) (zero L h0) hL h1 h2 h3⟩
theorem ok_law (T : Txt K mg) (D_warm_up : Kept P w K mg base 2 "warm_up" ["values"] (spWarm K)) (D__law_begin : Kept P w K mg base 1 "_law_begin" ["script"] (spBegin K)) (D__law_is_int : Kept P w K mg base 1 "_law_is_int" ["thing"] spIsInt) (D__law_line : Kept P w K mg base 3 "_law_line" ["d"] spLine) (D__law_rest : Kept P w K mg base 1 "_law_rest" ["row", "a"] (spRest K)) {f : Addr} {fd : FuncData} (F : FnP K "law" s_law f fd) : FnOk P w K mg base CX0 4 f fd ["script"] (spLaw K) := by
  refine F.ok sc_law (fun vs H Q E h => ?_) (fun cdv A outer s H vs Q E hr h => ?_)
  · obtain ⟨a, ns, rfl, _⟩ := h
    rfl
  · obtain ⟨a, cs, rfl, hS, hlen, q⟩ := h
    refine ⟨_, PSs.nox (pss_cons (ps_set (i := 1) sc_law.nd rfl (Or.inl rfl) (pe_d D__law_begin (hr.mono (by decide)) (by rfl) (pa_cons (pv 0) pa_nil)))
      (pss_cons (ps_set (i := 2) sc_law.nd rfl (Or.inl rfl) (pe_d D__law_line (hr.mono (by decide)) (by rfl) (pa_cons (pv 1) pa_nil)))
      (pss_cons (ps_set (i := 3) sc_law.nd rfl (Or.inl rfl) pe_int)
      (pss_cons (ps_set (i := 4) sc_law.nd rfl (Or.inl rfl) (pe_d D__law_rest (hr.mono (by decide)) (by rfl) (pa_cons (pv 2) (pa_cons pe_int pa_nil))))
      (pss_cons (ps_for PassesOwn.never rfl (pi_range2 (by rfl) T.b_range (pa_cons pe_int (pa_cons (pe_op op_add (pe_op op_fdivW (pe_callB call_len (by rfl) T.b_len (by decide +kernel) (pa_cons (pv 2) pa_nil)) pe_int) pe_int) pa_nil))) (pg_name (i := 5) sc_law.nd rfl (Or.inl rfl)) (pss_cons (ps_set (i := 6) sc_law.nd rfl (Or.inl rfl) (pe_d D__law_rest (hr.mono (by decide)) (by rfl) (pa_cons (pv 2) (pa_cons (pv 5) pa_nil))))
      (pss_one (ps_if (pt_cmpR op_lt (pe_op op_mul (pe_ix ix_tup (pv 6) pe_int (fun _ _ => rfl)) (pe_ix ix_tup (pv 4) pe_int (fun _ _ => rfl))) (pe_op op_mul (pe_ix ix_tup (pv 4) pe_int (fun _ _ => rfl)) (pe_ix ix_tup (pv 6) pe_int (fun _ _ => rfl))) (nomark _)) (pss_cons (ps_set (i := 3) sc_law.nd rfl (Or.inl rfl) (pv 5))
      (pss_one (ps_set (i := 4) sc_law.nd rfl (Or.inl rfl) (pv 6)))) pss_nil))))
      (pss_cons (ps_set (i := 7) sc_law.nd rfl (Or.inl rfl) (pe_d D_warm_up (hr.mono (by decide)) (by rfl) (pa_cons (pe_callTy call_tuple_of (by rfl) T.b_tuple (by decide +kernel) (pa_cons (pv 2) pa_nil)) pa_nil)))
      (pss_one (ps_ret (pe_and (pe_d D__law_is_int (hr.mono (by decide)) (by rfl) (pa_cons (pv 7) pa_nil)) (pe_one (pe_cmpR op_eq (pv 7) (pv 3) (nomark _)))))))))))), ?_⟩
    refine ⟨_, rfl, a, cs, rfl, hS, hlen, fun S D H1 s1 fD d => ?_⟩
    refine ⟨_, rfl, S, D, rfl, d, fun H2 L ns g2 h0 hL n0 n1 hf => ?_⟩
    refine ⟨_, rfl, L, ns, 0, rfl, SqL.of hL, by omega, hf, fun H3 p0 s3 hp0 => ?_⟩
    have hL3 := s3 _ _ hL
    have hn : (((List.map V.int ns).length : Int) / 2 + 1 - 1).toNat = ns.length / 2 := by
      rw [List.length_map]
      omega
    refine ⟨_, rfl, _, _, rfl, .inl ⟨_, SqL.of hL3, rfl⟩, _, _, rfl, rfl, ⟨by decide, by decide⟩, _, _, rfl, rfl, _, _, rfl, ⟨by decide, by decide, ?_, ?_⟩, for_range (lo := 1) (n := (((List.map V.int ns).length : Int) / 2 + 1 - 1).toNat) (fun i σ H' => ∃ (b : Addr) (y5 y6 : Option V), σ = [some (.ref a), some (.ref D), some (.ref L), some (.int (best ns i : Nat)), some (.ref b), y5, y6, none] ∧ Same H3 H' ∧ H' b = some (.tup [.int (AP (ns.drop (best ns i))), .int (Q4 (ns.drop (best ns i)))])) ⟨p0, none, none, rfl, Same.refl _, hp0⟩ ?_ ?_⟩
    · rw [List.length_map]
      omega
    · rw [List.length_map]
      omega
    · rintro i σ H4 hi ⟨b, y5, y6, rfl, s4, hb⟩
      rw [hn] at hi
      have hL4 := s4 _ _ hL3
      have hbl := best_le ns i
      refine ⟨_, rfl, _, rfl, L, ns, i + 1, ?_, SqL.of hL4, by omega, hf, fun H5 e s5 he => ?_⟩
      · show [V.ref L, V.int (1 + (i : Int))] = [V.ref L, V.int (((i + 1 : Nat)) : Int)]
        rw [show (1 : Int) + (i : Int) = ((i + 1 : Nat) : Int) by omega]
      have hb5 := s5 _ _ hb
      refine ⟨_, rfl, e, _, _, _, rfl, rfl, SqT.of he, atI_nat (j := 0) rfl, _, rfl, b, _, _, _, rfl, rfl, SqT.of hb5, atI_nat (j := 1) rfl, _, _, rfl, rfl, .inr (four (ns := ns) _ (by omega)), _, rfl, b, _, _, _, rfl, rfl, SqT.of hb5, atI_nat (j := 0) rfl, _, rfl, e, _, _, _, rfl, rfl, SqT.of he, atI_nat (j := 1) rfl, _, _, rfl, rfl, .inr (four (ns := ns) _ (by omega)), _, _, rfl, rfl, _, rfl, ?_⟩
      have el := law_less (ns := ns) (i := i + 1) (j := best ns i) (by omega) (by omega)
      refine ite2 (fun n => ?_) (fun n => ?_)
      · have eb : best ns (i + 1) = i + 1 := if_pos (el ▸ n)
        refine ⟨_, rfl, _, rfl, e, some (.int (1 + (i : Int))), some (.ref e), ?_, s4.trans s5, ?_⟩
        · rw [eb, show ((i + 1 : Nat) : Int) = 1 + (i : Int) by omega]
          rfl
        · rw [eb]
          exact he
      · have eb : best ns (i + 1) = best ns i := if_neg (fun h => n (el.trans h))
        refine ⟨b, some (.int (1 + (i : Int))), some (.ref e), ?_, s4.trans s5, ?_⟩
        · rw [eb]
          rfl
        · rw [eb]
          exact hb5
    · rintro σ H4 ⟨b, y5, y6, rfl, s4, hb⟩
      rw [hn]
      have hL4 := s4 _ _ hL3
      refine ⟨_, rfl, L, _, rfl, .inl ⟨SqL.of hL4, fun l hl => ?_⟩⟩
      refine ⟨l, ns, rfl, SqT.of upd_same, n0, by omega, hf, fun H5 s5 => ?_⟩
      refine ⟨_, rfl, _, rfl, true, rfl, ite2 (fun _ => ⟨_, rfl, _, rfl, rfl, ?_⟩) (fun n => absurd rfl n)⟩
      rw [show decide (V.int (best ns (ns.length / 2) : Nat) = V.int (best ns (ns.length / 2) : Nat)) = true from decide_eq_true rfl]
      exact q H5
end
end Mt
namespace Mt
open PySem PySem.Spec PyProof.Rows L2
def dd_tally_of : He.DefD := ⟨("tally_of", none), "tally_of", "tally_of", defArgs s_tally_of, defBody s_tally_of, defScope s_tally_of, [], []⟩
def dd_warm_up : He.DefD := ⟨("warm_up", none), "warm_up", "warm_up", defArgs s_warm_up, defBody s_warm_up, defScope s_warm_up, [], []⟩
def dd__law_begin : He.DefD := ⟨("_law_begin", none), "_law_begin", "_law_begin", defArgs s__law_begin, defBody s__law_begin, defScope s__law_begin, [], []⟩
def dd__law_draw : He.DefD := ⟨("_law_draw", none), "_law_draw", "_law_draw", defArgs s__law_draw, defBody s__law_draw, defScope s__law_draw, [], []⟩
def dd__law_pick : He.DefD := ⟨("_law_pick", none), "_law_pick", "_law_pick", defArgs s__law_pick, defBody s__law_pick, defScope s__law_pick, [], []⟩
def dd__law_rare : He.DefD := ⟨("_law_rare", none), "_law_rare", "_law_rare", defArgs s__law_rare, defBody s__law_rare, defScope s__law_rare, [], []⟩
def dd__law_is_int : He.DefD := ⟨("_law_is_int", none), "_law_is_int", "_law_is_int", defArgs s__law_is_int, defBody s__law_is_int, defScope s__law_is_int, [], []⟩
def dd__law_levels : He.DefD := ⟨("_law_levels", none), "_law_levels", "_law_levels", defArgs s__law_levels, defBody s__law_levels, defScope s__law_levels, [], []⟩
def dd__law_line : He.DefD := ⟨("_law_line", none), "_law_line", "_law_line", defArgs s__law_line, defBody s__law_line, defScope s__law_line, [], []⟩
def dd__law_rest : He.DefD := ⟨("_law_rest", none), "_law_rest", "_law_rest", defArgs s__law_rest, defBody s__law_rest, defScope s__law_rest, [], []⟩
def dd_law : He.DefD := ⟨("law", none), "law", "law", defArgs s_law, defBody s_law, defScope s_law, [], []⟩
def dds : List He.DefD := [dd_tally_of, dd_warm_up, dd__law_begin, dd__law_draw, dd__law_pick, dd__law_rare, dd__law_is_int, dd__law_levels, dd__law_line, dd__law_rest, dd_law]
def fas : List He.Fa := [.glo "tally_of", .glo "warm_up", .glo "_law_begin", .glo "_law_draw", .glo "_law_pick", .glo "_law_rare", .glo "_law_is_int", .glo "_law_levels", .glo "_law_line", .glo "_law_rest", .glo "law", .free "int", .free "abs", .free "len", .free "isinstance", .free "bool", .free "tuple", .free "range", .free "sum", .free "min", .free "max"]
def exM (K : PySem.W.Frag) : Bool := true
abbrev R : PySem.W.OpenRow := PySem.W.OpenLaw.row PySem.Challenge.rw_meantrace_k38_warm_ups
abbrev hk : PySem.W.Hook := hookM 4 fas dds exM
def ob (s : PySem.W.SharedT) : AlM := obsM 4 fas dds exM (HandSHeadRun.getT s)
theorem ob_eq (s : PySem.W.SharedT) : ob s = hk.obs s.abs := obsM_eq (HandSHeadRun.getT_eq s)
def names : List PySem.Str := ["tally_of", "warm_up", "_law_begin", "_law_draw", "_law_pick", "_law_rare", "_law_is_int", "_law_levels", "_law_line", "_law_rest"]
theorem run (w : World) : HandSHeadRun.RunEq R (PySem.W.view R.prog [13]) hk ob 2000 names w := by
  intro os; kernel_rfl
theorem facts {P : Program} {w : World} {K : PySem.W.Frag} {h : Heap} {mg : Str → Option Value} {f : Addr} (X : K.In h) (G : h.Ns mainGlobals mg) (hfa : mg ("law" : Str) = some (.ref f)) (c : SaysM fas dds exM K) :
    ∃ fd : FuncData, (∀ (s : Shared) (v : Value), BindsTo s fd ⟨[v], []⟩ [("script", v)]) ∧ ∀ base : Heap, K.In base → base.Ns mainGlobals mg → FnOk P w K mg base CX0 4 f fd ["script"] (spLaw K) := by
  obtain ⟨fd, F⟩ := c.1.def_ 10 (d := dd_law) rfl
  have e := hfa.symm.trans (He.glo_ok X G (c.1.fact 10 (f := .glo "law") rfl))
  cases e
  have T : Txt K mg := ⟨He.free_ok X G (c.1.fact 11 (f := .free "int") rfl), He.free_ok X G (c.1.fact 12 (f := .free "abs") rfl), He.free_ok X G (c.1.fact 13 (f := .free "len") rfl), He.free_ok X G (c.1.fact 14 (f := .free "isinstance") rfl), He.free_ok X G (c.1.fact 15 (f := .free "bool") rfl), He.free_ok X G (c.1.fact 16 (f := .free "tuple") rfl), He.free_ok X G (c.1.fact 17 (f := .free "range") rfl), He.free_ok X G (c.1.fact 18 (f := .free "sum") rfl), He.free_ok X G (c.1.fact 19 (f := .free "min") rfl), He.free_ok X G (c.1.fact 20 (f := .free "max") rfl)⟩
  have b := FunD.bindsA (ps := ["script"]) F fun _ _ _ _ _ _ us hl => match us, hl with | [_], _ => rfl
  refine ⟨fd, fun s v => b s [v] rfl, fun base _ _ => ?_⟩
  have D_tally_of : Kept P w K mg base 1 "tally_of" ["values"] (spTally K) := kept_of (st := s_tally_of) X G (c.1.def_ 0 (d := dd_tally_of) rfl) (c.1.fact 0 (f := .glo "tally_of") rfl) (fun _ _ _ _ _ _ us hl => match us, hl with | [_], _ => rfl) (fun f fd F => ok_tally_of T F)
  have D__law_begin : Kept P w K mg base 1 "_law_begin" ["script"] (spBegin K) := kept_of (st := s__law_begin) X G (c.1.def_ 2 (d := dd__law_begin) rfl) (c.1.fact 2 (f := .glo "_law_begin") rfl) (fun _ _ _ _ _ _ us hl => match us, hl with | [_], _ => rfl) (fun f fd F => ok__law_begin T F)
  have D__law_draw : Kept P w K mg base 1 "_law_draw" ["d", "many"] spDraw := kept_of (st := s__law_draw) X G (c.1.def_ 3 (d := dd__law_draw) rfl) (c.1.fact 3 (f := .glo "_law_draw") rfl) (fun _ _ _ _ _ _ us hl => match us, hl with | [_, _], _ => rfl) (fun f fd F => ok__law_draw T F)
  have D__law_is_int : Kept P w K mg base 1 "_law_is_int" ["thing"] spIsInt := kept_of (st := s__law_is_int) X G (c.1.def_ 6 (d := dd__law_is_int) rfl) (c.1.fact 6 (f := .glo "_law_is_int") rfl) (fun _ _ _ _ _ _ us hl => match us, hl with | [_], _ => rfl) (fun f fd F => ok__law_is_int T F)
  have D__law_rest : Kept P w K mg base 1 "_law_rest" ["row", "a"] (spRest K) := kept_of (st := s__law_rest) X G (c.1.def_ 9 (d := dd__law_rest) rfl) (c.1.fact 9 (f := .glo "_law_rest") rfl) (fun _ _ _ _ _ _ us hl => match us, hl with | [_, _], _ => rfl) (fun f fd F => ok__law_rest T F)
  have D_warm_up : Kept P w K mg base 2 "warm_up" ["values"] (spWarm K) := kept_of (st := s_warm_up) X G (c.1.def_ 1 (d := dd_warm_up) rfl) (c.1.fact 1 (f := .glo "warm_up") rfl) (fun _ _ _ _ _ _ us hl => match us, hl with | [_], _ => rfl) (fun f fd F => ok_warm_up T D_tally_of F)
  have D__law_pick : Kept P w K mg base 2 "_law_pick" ["d", "row"] (spPick K) := kept_of (st := s__law_pick) X G (c.1.def_ 4 (d := dd__law_pick) rfl) (c.1.fact 4 (f := .glo "_law_pick") rfl) (fun _ _ _ _ _ _ us hl => match us, hl with | [_, _], _ => rfl) (fun f fd F => ok__law_pick T D__law_draw F)
  have D__law_rare : Kept P w K mg base 2 "_law_rare" ["d", "many"] spRare := kept_of (st := s__law_rare) X G (c.1.def_ 5 (d := dd__law_rare) rfl) (c.1.fact 5 (f := .glo "_law_rare") rfl) (fun _ _ _ _ _ _ us hl => match us, hl with | [_, _], _ => rfl) (fun f fd F => ok__law_rare T D__law_draw F)
  have D__law_levels : Kept P w K mg base 2 "_law_levels" ["d", "many"] spLevels := kept_of (st := s__law_levels) X G (c.1.def_ 7 (d := dd__law_levels) rfl) (c.1.fact 7 (f := .glo "_law_levels") rfl) (fun _ _ _ _ _ _ us hl => match us, hl with | [_, _], _ => rfl) (fun f fd F => ok__law_levels T D__law_draw F)
  have D__law_line : Kept P w K mg base 3 "_law_line" ["d"] spLine := kept_of (st := s__law_line) X G (c.1.def_ 8 (d := dd__law_line) rfl) (c.1.fact 8 (f := .glo "_law_line") rfl) (fun _ _ _ _ _ _ us hl => match us, hl with | [_], _ => rfl) (fun f fd F => ok__law_line T D__law_draw D__law_pick D__law_rare D__law_levels F)
  exact ok_law T D_warm_up D__law_begin D__law_is_int D__law_line D__law_rest F
end Mt
open PySem PySem.W PySem.Calls PyProof.Rows
set_option maxHeartbeats 0 in
theorem PySem.Challenge.cw_meantrace_k38_warm_ups_holds : PySem.Challenge.rw_meantrace_k38_warm_ups.Holds := by
  w_on; o_law
  refine HandSHeadRun.head_any (r := OpenLaw.row PySem.Challenge.rw_meantrace_k38_warm_ups) (q := view (OpenLaw.row PySem.Challenge.rw_meantrace_k38_warm_ups).prog [13]) (H := Mt.hk) (ob := Mt.ob) (M := 2000) (loose := Mt.names) (d := HandSHeadRun.topDef (OpenLaw.row PySem.Challenge.rw_meantrace_k38_warm_ups).prog 13) (kwd := []) Mt.ob_eq
    (by kernel_rfl) (fun s => by kernel_rfl) Mt.run (by kernel_rfl) (by kernel_rfl) (by kernel_rfl) (by rfl) (by first | assumption | decide +kernel) (by decide +kernel) ⟨rfl, rfl, rfl, rfl, rfl, by decide +kernel⟩ ?hw ?hc
  case hw => w_witness2
  case hc =>
    refine L2.walk_ofE (l := PySem.Challenge.rw_meantrace_k38_warm_ups) (n := 63) (k := 4) (x := "script") (CX := L2.CX0) rfl (by decide) (by kernel_rfl) ⟨rfl, by decide, by decide⟩ ?F (fun _ _ _ _ z => z)
    intro w mg fa h Y G hmg0
    obtain ⟨K, KX, c⟩ := Y
    have hmg : mg ("law" : PySem.Str) = some (.ref fa) := by
      have e : (HandSHeadRun.topDef (OpenLaw.row PySem.Challenge.rw_meantrace_k38_warm_ups).prog 13).name = ("law" : PySem.Str) := by kernel_rfl
      rw [← e]
      exact hmg0
    obtain ⟨fd, hb, hF⟩ := Mt.facts (P := (PySem.Challenge.rw_meantrace_k38_warm_ups).prog) (w := w) KX G hmg c
    exact ⟨K, fd, Mt.spLaw K, KX, hb, fun H a ns hl hO hS => ⟨a, ns, rfl, hS, hl, fun _ => rfl⟩, hF⟩
