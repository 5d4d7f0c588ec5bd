import PyProof.Rows.All
import Wide.All
import OpenK.AllK
import Wide.FinOn
import KE.KStateDown
import HandS.ForMost
import HandS.Wide
import HandS.IsInst
import HandS.Walk
import HandS.Style
import HandS.Evl
import HandS.StrMore
import HandS.Exc
import HandS.WordsExc
import HandS.Defaults
import HandS.Head0
import HandS.Head1
import HandS.Head2
import HandS.HeadEnd
import HandS.HeadHook1
import HandS.HeadHook2
import HandS.Gcd
import HandS.Head3
import HandS.Star
import HandS.RaiseMore
import HandS.AnyAll
import HandS.Conv
import HandS.More
import HandS.Small
import HandS.HeadHook3
import HandS.HeadHook4
import HandS.HeadWalk
import HandS.EndTab
import PyProof.GenCompT
import PyProof.TupleOfGen
import PyProof.WalksPairs
import KE.KTupSum
import KE.DataMinMax
import HandS.SortKw
import HandS.TupAny
import KE.KDictKeyed
import KE.SortData
import KE.KDictSum
import KE.KDictPairs
import HandS.Zip
import HandS.Codes
import HandS.TryElse
import HandS.HeadNt
import HandS.Property
import PySem.Challenge.RW_meantrace_k46_values_written
set_option Elab.async false
set_option linter.all false
set_option maxRecDepth 100000
/-! Our own words over the hand layer: defs of the top by name, the draws' state, heaps that go on. -/
namespace Mt
open PySem PySem.Spec PyProof.Rows L2
section
variable {P : Program} {w : World} {K : PySem.W.Frag} {mg : Str → Option Value} {base : Heap}
abbrev FnP (K : PySem.W.Frag) (x : Str) (st : Stmt) (f : Addr) (fd : FuncData) : Prop := FunD K x x (defArgs st) (defBody st) (defScope st) [] [] f fd
/-- a def that keeps its promise -/
def Kept (P : Program) (w : World) (K : PySem.W.Frag) (mg : Str → Option Value) (base : Heap) (k : Nat) (x : Str) (ps : List Str) (sp : Sp) : Prop :=
  ∃ f fd, FnOk P w K mg base CX0 k f fd ps sp ∧ mg x = some (.ref f) ∧ PySem.W.keepIn K (.ref f) = true ∧ Binds K fd ps []
/-- what the head tells: facts by names, defs, one more word of one's own -/
abbrev AlM : Type := He.AlD × Bool
def obsM (n : Nat) (fa : List He.Fa) (fn : List He.DefD) (ex : PySem.W.Frag → Bool) (g : Addr → Option Obj) : AlM := (He.obsDG n fa fn g, ex (He.frG g (He.asD g n)))
def SaysM (fa : List He.Fa) (fn : List He.DefD) (ex : PySem.W.Frag → Bool) (K : PySem.W.Frag) : Prop := He.SaysD fa fn K ∧ ex K = true
def hookM (n : Nat) (fa : List He.Fa) (fn : List He.DefD) (ex : PySem.W.Frag → Bool) : PySem.W.Hook where
  α := AlM
  obs := fun s => obsM n fa fn ex s.heap.get?
  val := fun _ => (He.valD fn, true)
  says := fun _ h => ∃ K : PySem.W.Frag, K.In h ∧ SaysM fa fn ex K
  of := fun _ _ e => ⟨_, He.frG_in, congrArg (fun z : AlM => z.1) e, congrArg (fun z : AlM => z.2) e⟩
  keeps := fun _ _ _ ⟨K, hK, c⟩ k => ⟨K, PySem.W.Frag.In.keeps hK k, c⟩
theorem obsM_eq {n : Nat} {fa : List He.Fa} {fn : List He.DefD} {ex : PySem.W.Frag → Bool} {g : Addr → Option Obj} {s : Shared} (h : ∀ a, g a = s.heap.get? a) : obsM n fa fn ex g = (hookM n fa fn ex).obs s := by
  have e : g = s.heap.get? := funext h
  rw [e] <;> rfl
theorem kept_of {h : Heap} (X : K.In h) (G : h.Ns mainGlobals mg) {x : Str} {ps : List Str} {st : Stmt} {k : Nat} {sp : Sp}
    (hd : ∃ fd, FnP K x st (He.ga K x) fd) (hg : (He.Fa.glo x).ok K = true)
    (hb : ∀ (kV doc pm : Value) (an : Option Addr) (cdv ct : Value) (us : List Value), us.length = ps.length → bindArgs (PySem.W.fnOf x x (defArgs st) (defBody st) (defScope st) .none kV doc pm an cdv ct) ⟨us, []⟩ = pure (ps.zip us))
    (ok : ∀ f fd, FnP K x st f fd → FnOk P w K mg base CX0 k f fd ps sp) : Kept P w K mg base k x ps sp := by
  obtain ⟨fd, F⟩ := hd
  exact ⟨_, fd, ok _ fd F, He.glo_ok X G hg, F.kp, F.bindsN hb⟩
end
section
variable {X : Cx}
theorem pe_d {k : Nat} {x : Str} {ps : List Str} {sp : Sp} {e : Expr} {es : List Expr} {t : TA} {p pos : Pos} (D : Kept X.prog X.w X.K X.mg X.base k x ps sp) (hr : Room k X.A) (hg : Gl X x) (ha : PA X (e :: es) t)
    (hdb : (x == ("__debug__" : Str)) = false := by decide) (he : starEach (e :: es) X.env = (false, eval e X.env) :: starEach es X.env := by rfl) (hpl : (backTo pos (starEach es X.env)).any (·.1) = false := by rfl) :
    PE X (.Call (.Name x p) (e :: es) [] pos) (tCall sp [] E0 t) := by
  obtain ⟨f, fd, F, g, kp, b⟩ := D
  exact pe_call F hr hg g kp b .nil pass0 ha hdb he hpl
theorem pe_d0 {k : Nat} {x : Str} {ps : List Str} {sp : Sp} {p pos : Pos} (D : Kept X.prog X.w X.K X.mg X.base k x ps sp) (hr : Room k X.A) (hg : Gl X x) (hdb : (x == ("__debug__" : Str)) = false := by decide) :
    PE X (.Call (.Name x p) [] [] pos) (tCall sp [] E0 tNil) := by
  obtain ⟨f, fd, F, g, kp, b⟩ := D
  exact pe_call0 F hr hg g kp b .nil pass0 hdb
/-- a text of the module; an object of the module -/
theorem pe_gs {x z : Str} {pos : Pos} (h : ∃ t, X.mg x = some (.str z t)) (hg : Gl X x) (hd : (x == ("__debug__" : Str)) = false := by decide) : PE X (.Name x pos) (tC (.str z)) := by
  obtain ⟨t, h⟩ := h
  exact pe_glob hg h ⟨_, rfl⟩ hd
/-- xs[i] op= e reads xs[i] -/
theorem get_list : PGet X (rIxL X.K) := by
  intro pins s σ H o i ov iv Q I ro ri h
  obtain ⟨p, xs, i, z, rfl, rfl, hq, he, q⟩ := h
  cases ro
  obtain ⟨t, rfl⟩ := ri
  obtain ⟨its, r, pl, hz⟩ := I.list hq
  obtain ⟨j, h1, h2, h3, h4, h5⟩ := atI_get he
  obtain ⟨w, ew, rw'⟩ := r.get h2
  have hl := r.length
  have hn := line63
  have fin : EP X pins σ Q w s := ⟨z, H, I, rw', q⟩
  by_cases h0 : 0 ≤ i
  · have hj : i.toNat = j := by
      rw [seqIndex_of h0 h5] at h1
      exact Option.some.inj h1
    exact wpAny_mono (wpAny_getItem_list (Q := fun r s' => r = w ∧ EP X pins σ Q r s') pl.isList h0 (by omega) (by rw [hj]; simpa using ew) ⟨rfl, fin⟩) (fun _ _ q => q.2) (fun _ _ q => q)
  · have hj : (i + (its.toArray.size : Int)).toNat = j := by
      rw [seqIndex_neg (by omega) h4] at h1
      rw [List.size_toArray, ← hl]
      exact Option.some.inj h1
    exact wpAny_mono (wpAny_getItem_list_neg (Q := fun r s' => r = w ∧ EP X pins σ Q r s') pl.isList (by omega) (by rw [List.size_toArray] <;> omega) (by omega) (by rw [hj]; simpa using ew) ⟨rfl, fin⟩) (fun _ _ q => q.2) (fun _ _ q => q)
end

/-! ### the draws: [cells, place, rest, seed] at D -/
structure DrawAt (S D : Addr) (H : Hp) : Prop where
  ne : S ≠ D
  cells : ∃ cs : List Int, H S = some (.lst (cs.map V.int))
  at_ : ∃ i r c : Int, 0 ≤ i ∧ H D = some (.lst [.ref S, .int i, .int r, .int c])
/-- all else that is tracked stays -/
def Keep (D : Addr) (H H' : Hp) : Prop := ∀ b o, H b = some o → b ≠ D → H' b = some o
def Go (S D : Addr) (H H' : Hp) : Prop := DrawAt S D H' ∧ Keep D H H'
theorem Keep.refl {D : Addr} {H : Hp} : Keep D H H := fun _ _ h _ => h
theorem Keep.trans {D : Addr} {H H1 H2 : Hp} (a : Keep D H H1) (b : Keep D H1 H2) : Keep D H H2 := fun x o h n => b x o (a x o h n) n
theorem Go.trans {S D : Addr} {H H1 H2 : Hp} (a : Go S D H H1) (b : Go S D H1 H2) : Go S D H H2 := ⟨b.1, a.2.trans b.2⟩
theorem Keep.set {D : Addr} {H H' : Hp} {o : HO} (k : Keep D H H') : Keep D H (upd H' D o) := fun b u h n => by
  rw [upd_ne n]
  exact k b u h n
theorem DrawAt.set {S D : Addr} {H : Hp} (d : DrawAt S D H) {i r c : Int} (h : 0 ≤ i) : DrawAt S D (upd H D (.lst [.ref S, .int i, .int r, .int c])) :=
  ⟨d.ne, d.cells.imp fun cs h => by rw [upd_ne d.ne]; exact h, ⟨i, r, c, h, upd_same⟩⟩
theorem DrawAt.new {S D p : Addr} {H : Hp} {o : HO} (d : DrawAt S D H) (h : H p = none) : DrawAt S D (upd H p o) := by
  obtain ⟨cs, h1⟩ := d.cells
  obtain ⟨i, r, c, h0, h2⟩ := d.at_
  exact ⟨d.ne, ⟨cs, by rw [upd_ne (ne_of_none h1 h)]; exact h1⟩, ⟨i, r, c, h0, by rw [upd_ne (ne_of_none h2 h)]; exact h2⟩⟩
theorem Keep.new {D p : Addr} {H : Hp} {o : HO} (h : H p = none) : Keep D H (upd H p o) := fun b u e _ => by
  rw [upd_ne (ne_of_none e h)]
  exact e
theorem Go.new {S D p : Addr} {H : Hp} {o : HO} (d : DrawAt S D H) (h : H p = none) : Go S D H (upd H p o) := ⟨d.new h, Keep.new h⟩
theorem Go.same {S D : Addr} {H H' : Hp} (d : DrawAt S D H) (h : Same H H') : Go S D H H' := by
  obtain ⟨cs, h1⟩ := d.cells
  obtain ⟨i, r, c, h0, h2⟩ := d.at_
  exact ⟨⟨d.ne, ⟨cs, h _ _ h1⟩, ⟨i, r, c, h0, h _ _ h2⟩⟩, fun b o e _ => h b o e⟩
theorem Go.refl {S D : Addr} {H : Hp} (d : DrawAt S D H) : Go S D H H := ⟨d, Keep.refl⟩
/-- a fresh place stays fresh when looked at from behind -/
theorem DrawAt.free {S D p : Addr} {H : Hp} (d : DrawAt S D H) (h : H p = none) : p ≠ D ∧ p ≠ S := by
  obtain ⟨cs, h1⟩ := d.cells
  obtain ⟨i, r, c, h0, h2⟩ := d.at_
  exact ⟨(ne_of_none h2 h).symm, (ne_of_none h1 h).symm⟩
theorem Go.free {S D p : Addr} {H H' : Hp} (g : Go S D H H') (d : DrawAt S D H) (h : H' p = none) : H p = none := by
  cases q : H p with
  | none => rfl
  | some o =>
    by_cases e : p = D
    · exact absurd e (g.1.free h).1
    · rw [g.2 p o q e] at h
      cases h
def spDraw : Sp := fun vs H Q _ => ∃ (S D : Addr) (many : Int), vs = [.ref D, .int many] ∧ CDivW 0 many ∧ DrawAt S D H ∧ ∀ H' v, 0 ≤ v → v < many → Go S D H H' → Q (.int v) H'
end Mt
namespace Mt
open PySem PySem.Spec PyProof.Rows L2
def topS (i : Nat) : Stmt := PySem.Challenge.pw_meantrace_k46_values_written.main.body.getD i (.Pass ⟨0, 0, 0, 0⟩)
abbrev s__wall : Stmt := topS 0
abbrev N__wall : List Str := ["k"]
theorem sc__wall : FnScope N__wall ["k"] (defScope s__wall) := ⟨rfl, rfl, rfl, by decide +kernel, rfl, by decide +kernel, by decide +kernel⟩
abbrev s_write_value : Stmt := topS 10
abbrev N_write_value : List Str := ["value", "part"]
theorem sc_write_value : FnScope N_write_value ["value"] (defScope s_write_value) := ⟨rfl, rfl, rfl, by decide +kernel, rfl, by decide +kernel, by decide +kernel⟩
abbrev s_read_value : Stmt := topS 11
abbrev N_read_value : List Str := ["text", "reader", "value"]
theorem sc_read_value : FnScope N_read_value ["text"] (defScope s_read_value) := ⟨rfl, rfl, rfl, by decide +kernel, rfl, by decide +kernel, by decide +kernel⟩
abbrev s_read_inner : Stmt := topS 12
abbrev N_read_inner : List Str := ["reader", "sign", "letter"]
theorem sc_read_inner : FnScope N_read_inner ["reader"] (defScope s_read_inner) := ⟨rfl, rfl, rfl, by decide +kernel, rfl, by decide +kernel, by decide +kernel⟩
abbrev s_read_tuple : Stmt := topS 13
abbrev N_read_tuple : List Str := ["reader", "parts"]
theorem sc_read_tuple : FnScope N_read_tuple ["reader"] (defScope s_read_tuple) := ⟨rfl, rfl, rfl, by decide +kernel, rfl, by decide +kernel, by decide +kernel⟩
abbrev s_read_string : Stmt := topS 14
abbrev N_read_string : List Str := ["reader", "signs"]
theorem sc_read_string : FnScope N_read_string ["reader"] (defScope s_read_string) := ⟨rfl, rfl, rfl, by decide +kernel, rfl, by decide +kernel, by decide +kernel⟩
abbrev s_read_integer : Stmt := topS 15
abbrev N_read_integer : List Str := ["reader", "factor", "figures"]
theorem sc_read_integer : FnScope N_read_integer ["reader"] (defScope s_read_integer) := ⟨rfl, rfl, rfl, by decide +kernel, rfl, by decide +kernel, by decide +kernel⟩
abbrev s__law_begin : Stmt := topS 17
abbrev N__law_begin : List Str := ["script", "cell"]
theorem sc__law_begin : FnScope N__law_begin ["script"] (defScope s__law_begin) := ⟨rfl, rfl, rfl, by decide +kernel, rfl, by decide +kernel, by decide +kernel⟩
abbrev s__law_draw : Stmt := topS 18
abbrev N__law_draw : List Str := ["d", "many", "found", "size", "cell"]
theorem sc__law_draw : FnScope N__law_draw ["d", "many"] (defScope s__law_draw) := ⟨rfl, rfl, rfl, by decide +kernel, rfl, by decide +kernel, by decide +kernel⟩
abbrev s__law_pick : Stmt := topS 19
abbrev N__law_pick : List Str := ["d", "row"]
theorem sc__law_pick : FnScope N__law_pick ["d", "row"] (defScope s__law_pick) := ⟨rfl, rfl, rfl, by decide +kernel, rfl, by decide +kernel, by decide +kernel⟩
abbrev s__law_rare : Stmt := topS 20
abbrev N__law_rare : List Str := ["d", "many"]
theorem sc__law_rare : FnScope N__law_rare ["d", "many"] (defScope s__law_rare) := ⟨rfl, rfl, rfl, by decide +kernel, rfl, by decide +kernel, by decide +kernel⟩
abbrev s__law_is_int : Stmt := topS 21
abbrev N__law_is_int : List Str := ["thing"]
theorem sc__law_is_int : FnScope N__law_is_int ["thing"] (defScope s__law_is_int) := ⟨rfl, rfl, rfl, by decide +kernel, rfl, by decide +kernel, by decide +kernel⟩
abbrev s__law_pv_int : Stmt := topS 22
abbrev N__law_pv_int : List Str := ["d", "most", "many", "number", "k"]
theorem sc__law_pv_int : FnScope N__law_pv_int ["d", "most"] (defScope s__law_pv_int) := ⟨rfl, rfl, rfl, by decide +kernel, rfl, by decide +kernel, by decide +kernel⟩
abbrev s__law_pv_string : Stmt := topS 23
abbrev N__law_pv_string : List Str := ["d", "signs", "found", "k"]
theorem sc__law_pv_string : FnScope N__law_pv_string ["d"] (defScope s__law_pv_string) := ⟨rfl, rfl, rfl, by decide +kernel, rfl, by decide +kernel, by decide +kernel⟩
abbrev s__law_pv_made : Stmt := topS 24
abbrev N__law_pv_made : List Str := ["d", "depth", "left", "way", "parts", "k"]
theorem sc__law_pv_made : FnScope N__law_pv_made ["d", "depth", "left"] (defScope s__law_pv_made) := ⟨rfl, rfl, rfl, by decide +kernel, rfl, by decide +kernel, by decide +kernel⟩
abbrev s__law_pv_deep : Stmt := topS 25
abbrev N__law_pv_deep : List Str := ["d", "value", "many", "k"]
theorem sc__law_pv_deep : FnScope N__law_pv_deep ["d"] (defScope s__law_pv_deep) := ⟨rfl, rfl, rfl, by decide +kernel, rfl, by decide +kernel, by decide +kernel⟩
abbrev s__law_pv_text : Stmt := topS 26
abbrev N__law_pv_text : List Str := ["value", "found", "part"]
theorem sc__law_pv_text : FnScope N__law_pv_text ["value"] (defScope s__law_pv_text) := ⟨rfl, rfl, rfl, by decide +kernel, rfl, by decide +kernel, by decide +kernel⟩
abbrev s__law_pv_same : Stmt := topS 27
abbrev N__law_pv_same : List Str := ["told", "due", "k"]
theorem sc__law_pv_same : FnScope N__law_pv_same ["told", "due"] (defScope s__law_pv_same) := ⟨rfl, rfl, rfl, by decide +kernel, rfl, by decide +kernel, by decide +kernel⟩
abbrev s__law_pv_back : Stmt := topS 28
abbrev N__law_pv_back : List Str := ["value", "due", "told", "back"]
theorem sc__law_pv_back : FnScope N__law_pv_back ["value"] (defScope s__law_pv_back) := ⟨rfl, rfl, rfl, by decide +kernel, rfl, by decide +kernel, by decide +kernel⟩
abbrev s_law : Stmt := topS 29
abbrev N_law : List Str := ["script", "d", "values", "k", "value"]
theorem sc_law : FnScope N_law ["script"] (defScope s_law) := ⟨rfl, rfl, rfl, by decide +kernel, rfl, by decide +kernel, by decide +kernel⟩
structure Txt (K : PySem.W.Frag) (mg : Str → Option Value) : Prop where
  b_int : mg "int" = none
  b_abs : mg "abs" = none
  b_len : mg "len" = none
  b_isinstance : mg "isinstance" = none
  b_bool : mg "bool" = none
  b_tuple : mg "tuple" = none
  b_range : mg "range" = none
  b_str : mg "str" = none
  b_all : mg "all" = none
  g_DIGITS : ∃ t, mg "DIGITS" = some (.str "0123456789" t)
  g_FIRST_FIGURES : ∃ t, mg "FIRST_FIGURES" = some (.str "123456789" t)
  g_QUOTE : ∃ t, mg "QUOTE" = some (.str "\"" t)
theorem upd_upd {H : Hp} {p : Addr} {a b : HO} : upd (upd H p a) p b = upd H p b := by
  funext x
  unfold upd
  split <;> rfl
theorem take_map_succ {α β : Type} {f : α → β} {l : List α} {i : Nat} {c : α} (h : l[i]? = some c) : (l.take i).map f ++ [f c] = (l.take (i + 1)).map f := by
  rw [List.take_add_one, h, List.map_append]
  rfl
theorem divW_of {n : Int} (h : 0 < n) (h2 : n < 2 ^ 64) : CDivW 0 n := wide_div h (b := 64) (by omega) (by decide) (by decide)
theorem getV {ns : List Int} {i : Nat} {x : V} (h : (ns.map V.int)[i]? = some x) : ∃ z, x = .int z ∧ ns[i]? = some z := by
  rw [List.getElem?_map] at h
  cases e : ns[i]? with
  | none =>
    rw [e] at h
    cases h
  | some z =>
    rw [e] at h
    exact ⟨z, (Option.some.inj h).symm, rfl⟩
def spBegin (K : PySem.W.Frag) : Sp := fun vs H Q _ => ∃ (a : Addr) (ns : List Int), vs = [.ref a] ∧ SqL K H a (ns.map V.int) ∧ ns.length ≤ 63 ∧ ∀ S D H', Same H H' → H D = none → DrawAt S D H' → Q (.ref D) H'
/-- a text or a list, what it holds -/
def Row (K : PySem.W.Frag) (H : Hp) (v : V) (xs : List V) : Prop := (∃ z : Str, v = .str z ∧ xs = z.cps.toList.map fun c => .str ⟨#[c]⟩) ∨ (∃ p, v = .ref p ∧ SqL K H p xs) ∨ ∃ p, v = .ref p ∧ SqT K H p xs
def spPick (K : PySem.W.Frag) : Sp := fun vs H Q _ => ∃ (S D : Addr) (r : V) (xs : List V), vs = [.ref D, r] ∧ DrawAt S D H ∧ (∀ H', Go S D H H' → Row K H' r xs) ∧ 0 < xs.length ∧ xs.length ≤ 100000 ∧ ∀ H' x, x ∈ xs → Go S D H H' → Q x H'

theorem same_new {H : Hp} {p : Addr} {o : HO} (h : H p = none) : Same H (upd H p o) := fun b x e => by
  rw [upd_ne (ne_of_none e h)]
  exact e
/-- a change at a place that H does not know -/
theorem same_mut {H H' : Hp} {p : Addr} {o : HO} (s : Same H H') (h : H p = none) : Same H (upd H' p o) := fun b u e => by
  rw [upd_ne (ne_of_none e h)]
  exact s b u e
theorem iteNT {A B : Prop} (h : B) : if (!true) = true then A else B := iteF h
theorem line5 {n : Nat} (h : n ≤ 100000) : n ≤ sizeLine := Nat.le_trans h (by decide)
theorem line6 {n : Nat} (h : n < 100000) : n < sizeLine := Nat.lt_of_lt_of_le h (by decide)
/-! ### data as it stands in the heap -/
def KeepT (H H' : Hp) : Prop := ∀ p xs, Rd H p (.tup xs) → Rd H' p (.tup xs)
theorem KeepT.of_same {H H' : Hp} (s : Same H H') : KeepT H H' := fun p xs h => by
  rcases h with h | ⟨o, h⟩
  · exact .inl (s _ _ h)
  · exact .inr ⟨o, s _ _ h⟩
theorem KeepT.trans {H H1 H2 : Hp} (a : KeepT H H1) (b : KeepT H1 H2) : KeepT H H2 := fun p xs h => b p xs (a p xs h)
mutual
def noL : PyData → Bool
  | .list _ => false
  | .dict _ => false
  | .tuple ds => noLs ds
  | _ => true
def noLs : List PyData → Bool
  | [] => true
  | d :: ds => noL d && noLs ds
end
theorem sqt_keep {K : PySem.W.Frag} {H H' : Hp} {a : Addr} {xs : List V} (k : KeepT H H') (h : SqT K H a xs) : SqT K H' a xs := by
  rcases h with h | h
  · exact .inl (k _ _ h)
  · exact .inr h
mutual
theorem dp_keep {K : PySem.W.Frag} {H H' : Hp} (k : KeepT H H') : ∀ (d : PyData) (v : V), noL d = true → Dp K H v d → Dp K H' v d
  | .none, _, _, h => by
    cases h
    exact .non
  | .bool b, _, _, h => by
    cases h
    exact .bl b
  | .int i, _, _, h => by
    cases h
    exact .int i
  | .str x, _, _, h => by
    cases h
    exact .str x
  | .list ds, _, n, _ => by
    have n2 : false = true := n
    cases n2
  | .dict ds, _, n, _ => by
    have n2 : false = true := n
    cases n2
  | .tuple ds, _, n, h => by
    cases h with
    | tup h1 h2 => exact .tup (sqt_keep k h1) (dpA_keep k ds _ n h2)
theorem dpA_keep {K : PySem.W.Frag} {H H' : Hp} (k : KeepT H H') : ∀ (ds : List PyData) (xs : List V), noLs ds = true → DpAll K H xs ds → DpAll K H' xs ds
  | [], _, _, h => by
    cases h
    exact .nil
  | d :: ds, _, n, h => by
    cases h with
    | cons h1 h2 =>
      have n2 : (noL d && noLs ds) = true := n
      rw [Bool.and_eq_true] at n2
      exact .cons (dp_keep k d _ n2.1 h1) (dpA_keep k ds _ n2.2 h2)
end
theorem dp_tup {K : PySem.W.Frag} {H : Hp} {v : V} {ds : List PyData} (h : Dp K H v (.tuple ds)) : ∃ a xs, v = .ref a ∧ SqT K H a xs ∧ DpAll K H xs ds := by
  cases h with
  | tup h1 h2 => exact ⟨_, _, rfl, h1, h2⟩
theorem dp_str {K : PySem.W.Frag} {H : Hp} {v : V} {z : Str} (h : Dp K H v (.str z)) : v = .str z := by
  cases h
  rfl
theorem dp_int {K : PySem.W.Frag} {H : Hp} {v : V} {z : Int} (h : Dp K H v (.int z)) : v = .int z := by
  cases h
  rfl
theorem dp_non {K : PySem.W.Frag} {H : Hp} {v : V} (h : Dp K H v .none) : v = .non := by
  cases h
  rfl
theorem dpA_nil {K : PySem.W.Frag} {H : Hp} {xs : List V} (h : DpAll K H xs []) : xs = [] := by
  cases h
  rfl
theorem dpA_cons {K : PySem.W.Frag} {H : Hp} {xs : List V} {d : PyData} {ds : List PyData} (h : DpAll K H xs (d :: ds)) : ∃ x r, xs = x :: r ∧ Dp K H x d ∧ DpAll K H r ds := by
  cases h with
  | cons h1 h2 => exact ⟨_, _, rfl, h1, h2⟩
theorem dpA_len {K : PySem.W.Frag} {H : Hp} : ∀ {ds : List PyData} {xs : List V}, DpAll K H xs ds → xs.length = ds.length
  | [], _, h => by rw [dpA_nil h]; rfl
  | d :: ds, _, h => by
    obtain ⟨x, r, rfl, _, h2⟩ := dpA_cons h
    rw [List.length_cons, List.length_cons, dpA_len h2]
theorem dpA_at {K : PySem.W.Frag} {H : Hp} : ∀ {ds : List PyData} {xs : List V} {i : Nat} {x : V}, DpAll K H xs ds → xs[i]? = some x → ∃ d, ds[i]? = some d ∧ Dp K H x d
  | [], _, i, x, h, e => by
    rw [dpA_nil h] at e
    simp at e
  | d :: ds, _, 0, x, h, e => by
    obtain ⟨y, r, rfl, h1, h2⟩ := dpA_cons h
    have e2 : y = x := Option.some.inj e
    subst e2
    exact ⟨d, rfl, h1⟩
  | d :: ds, _, i + 1, x, h, e => by
    obtain ⟨y, r, rfl, h1, h2⟩ := dpA_cons h
    obtain ⟨d', h3, h4⟩ := dpA_at (i := i) (x := x) h2 (by simpa using e)
    exact ⟨d', by simpa using h3, h4⟩
theorem noLs_map {α : Type} (f : α → PyData) : ∀ l : List α, (∀ x ∈ l, noL (f x) = true) → noLs (l.map f) = true
  | [], _ => rfl
  | x :: r, h => by
    show (noL (f x) && noLs (r.map f)) = true
    rw [h x List.mem_cons_self, noLs_map f r fun y hy => h y (List.mem_cons_of_mem _ hy)]
    rfl
theorem keepT_new {H : Hp} {L : Addr} {o : HO} (h : H L = none) : KeepT H (upd H L o) := KeepT.of_same (same_new h)
theorem ixT {X : Cx} {K : PySem.W.Frag} (h : X.K = K) : IxR X (rIxT K) := h ▸ ix_tup
theorem isiT {X : Cx} {K : PySem.W.Frag} (h : X.K = K) : CallR X (.builtin "isinstance") (rIsi K) := h ▸ call_isi
theorem map_at {α : Type} {f : α → PyData} {l : List α} {i : Nat} {d : PyData} (h : (l.map f)[i]? = some d) : ∃ x, l[i]? = some x ∧ f x = d := by
  rw [List.getElem?_map] at h
  cases e : l[i]? with
  | none =>
    rw [e] at h
    cases h
  | some x =>
    rw [e] at h
    exact ⟨x, rfl, Option.some.inj h⟩
theorem dpA_snoc {K : PySem.W.Frag} {H : Hp} : ∀ {ds : List PyData} {xs : List V} {x : V} {d : PyData}, DpAll K H xs ds → Dp K H x d → DpAll K H (xs ++ [x]) (ds ++ [d])
  | [], _, _, _, h, hx => by
    rw [dpA_nil h]
    exact .cons hx .nil
  | d0 :: ds, _, _, _, h, hx => by
    obtain ⟨y, r, rfl, h1, h2⟩ := dpA_cons h
    exact .cons h1 (dpA_snoc h2 hx)
theorem sqt_ty {K : PySem.W.Frag} {H : Hp} {a : Addr} {xs : List V} (h : SqT K H a xs) : TyX K H (.ref a) (.type "tuple") := by
  rcases h with (h | ⟨o, h⟩) | ⟨o, its, n, hk, hc, _⟩
  · exact .base (.tup h)
  · exact .fTuple h
  · exact .kTuple hk hc
theorem same_l {K : PySem.W.Frag} {H H' : Hp} {a : Addr} {xs : List V} (e : Same H H') (h : SqL K H a xs) : SqL K H' a xs := e.seq h
theorem same_t {K : PySem.W.Frag} {H H' : Hp} {a : Addr} {xs : List V} (e : Same H H') (h : SqT K H a xs) : SqT K H' a xs := by
  rcases h with (h | ⟨o, h⟩) | h
  · exact .inl (.inl (e _ _ h))
  · exact .inl (.inr ⟨o, e _ _ h⟩)
  · exact .inr h
theorem Paired.at {α β : Type} {R : α → β → Prop} : ∀ {xs : List α} {ys : List β} {i : Nat} {x : α}, Paired R xs ys → xs[i]? = some x → ∃ y, ys[i]? = some y ∧ R x y
  | _, _, _, _, .nil, e => by simp at e
  | _, _, 0, _, .cons r _, e => by
    have e : _ = _ := Option.some.inj e
    subst e
    exact ⟨_, rfl, r⟩
  | _, _, i + 1, x, .cons _ t, e => by
    obtain ⟨y, h1, h2⟩ := Paired.at (i := i) (x := x) t (by simpa using e)
    exact ⟨y, by simpa using h1, h2⟩
/-! ### promises -/
def spIsInt : Sp := fun vs H Q _ => ∃ i : Int, vs = [.int i] ∧ Q (.bl true) H
def spIsInts (K : PySem.W.Frag) : Sp := fun vs H Q _ => ∃ (p : Addr) (ns : List Int), vs = [.ref p] ∧ H p = some (.tup (ns.map V.int)) ∧ ns.length ≤ 100 ∧ ∀ H', Same H H' → Q (.bl true) H'
def spLaw (K : PySem.W.Frag) : Sp := fun vs H Q _ => ∃ (a : Addr) (ns : List Int), vs = [.ref a] ∧ SqL K H a (ns.map V.int) ∧ ns.length ≤ 63 ∧ ∀ H', Q (.bl true) H'
theorem all_true {α : Type} (l : List α) : (l.map fun _ => true).all id = true := by
  rw [List.all_map]
  exact List.all_eq_true.mpr fun _ _ => rfl
def NT (o : HO) : Prop := (∀ xs, o ≠ .tup xs) ∧ ∀ ob u, o ≠ .frz ob u
theorem nt_lst (l : List V) : NT (.lst l) := ⟨fun _ e => (nomatch e), fun _ _ e => (nomatch e)⟩
theorem nt_dk (l : List (Key × V)) : NT (.dK l) := ⟨fun _ e => (nomatch e), fun _ _ e => (nomatch e)⟩
theorem DrawAt.upd {S D L : Addr} {H : Hp} {o : HO} (d : DrawAt S D H) (n1 : L ≠ D) (n2 : L ≠ S) : DrawAt S D (upd H L o) := by
  obtain ⟨cs, h1⟩ := d.cells
  obtain ⟨i, r, c, h0, h2⟩ := d.at_
  exact ⟨d.ne, ⟨cs, by rw [upd_ne n2.symm]; exact h1⟩, ⟨i, r, c, h0, by rw [upd_ne n1.symm]; exact h2⟩⟩
/-- the draws, and one thing F that may change -/
structure StF (S D F : Addr) (H : Hp) : Prop where
  dr : DrawAt S D H
  nS : F ≠ S
  fl : ∃ o, H F = some o ∧ NT o
def GoL (S D F : Addr) (H H' : Hp) : Prop := StF S D F H' ∧ ∀ b o, H b = some o → b ≠ D → b ≠ F → H' b = some o
section
variable {S D F L p : Addr} {H H1 H2 H' : Hp} {o : HO} {K : PySem.W.Frag}
theorem StF.of_draw (d : DrawAt S D H) : StF S D D H := ⟨d, d.ne.symm, let ⟨_, _, _, _, h⟩ := d.at_; ⟨_, h, nt_lst _⟩⟩
theorem StF.free (st : StF S D F H) (h : H p = none) : p ≠ D ∧ p ≠ S ∧ p ≠ F := by
  obtain ⟨o, hF, _⟩ := st.fl
  exact ⟨(st.dr.free h).1, (st.dr.free h).2, (ne_of_none hF h).symm⟩
theorem GoL.refl (st : StF S D F H) : GoL S D F H H := ⟨st, fun _ _ h _ _ => h⟩
theorem GoL.trans (a : GoL S D F H H1) (b : GoL S D F H1 H2) : GoL S D F H H2 := ⟨b.1, fun x o h n m => b.2 x o (a.2 x o h n m) n m⟩
theorem GoL.of_go (st : StF S D F H) (g : Go S D H H') : GoL S D F H H' := by
  refine ⟨⟨g.1, st.nS, ?_⟩, fun b o h n _ => g.2 b o h n⟩
  obtain ⟨o, hF, nt⟩ := st.fl
  by_cases e : F = D
  · rw [e]
    obtain ⟨_, _, _, _, h⟩ := g.1.at_
    exact ⟨_, h, nt_lst _⟩
  · exact ⟨o, g.2 F _ hF e, nt⟩
theorem GoL.to_go (g : GoL S D D H H') : Go S D H H' := ⟨g.1.dr, fun b o h n => g.2 b o h n n⟩
theorem GoL.mut (st : StF S D F H) (g : GoL S D F H H') (h : H L = none) : GoL S D F H (upd H' L o) := by
  obtain ⟨n1, n2, n3⟩ := st.free h
  obtain ⟨u, hF, nt⟩ := g.1.fl
  exact ⟨⟨g.1.dr.upd n1 n2, st.nS, ⟨u, by rw [upd_ne n3.symm]; exact hF, nt⟩⟩, fun b v hb m1 m2 => by
    rw [upd_ne (ne_of_none hb h)]
    exact g.2 b v hb m1 m2⟩
theorem GoL.new (st : StF S D F H) (h : H p = none) : GoL S D F H (upd H p o) := GoL.mut st (GoL.refl st) h
theorem GoL.setF (nD : F ≠ D) (nt : NT o) (g : GoL S D F H H') : GoL S D F H (upd H' F o) :=
  ⟨⟨g.1.dr.upd nD g.1.nS, g.1.nS, ⟨o, upd_same, nt⟩⟩, fun b v hb m1 m2 => by
    rw [upd_ne m2]
    exact g.2 b v hb m1 m2⟩
theorem GoL.back (st : StF S D F H) (g : GoL S D F H H') (h : H' p = none) : H p = none := by
  cases q : H p with
  | none => rfl
  | some u =>
    obtain ⟨n1, n2, n3⟩ := g.1.free h
    rw [g.2 p u q n1 n3] at h
    cases h
theorem nt_not {xs : List V} (nt : NT o) (h : H p = some o) (r : Rd H L (.tup xs)) : L ≠ p := fun e => by
  subst e
  rcases r with r | ⟨ob, r⟩
  · rw [h] at r
    exact nt.1 _ (Option.some.inj r)
  · rw [h] at r
    exact nt.2 _ _ (Option.some.inj r)
theorem GoL.keepT (st : StF S D F H) (g : GoL S D F H H') : KeepT H H' := fun p xs r => by
  obtain ⟨_, _, _, _, hD⟩ := st.dr.at_
  obtain ⟨o, hF, nt⟩ := st.fl
  have n1 := nt_not (nt_lst _) hD r
  have n2 := nt_not nt hF r
  rcases r with r | ⟨o, r⟩
  · exact .inl (g.2 _ _ r n1 n2)
  · exact .inr ⟨o, g.2 _ _ r n1 n2⟩
theorem Go.keepT (d : DrawAt S D H) (g : Go S D H H') : KeepT H H' := GoL.keepT (StF.of_draw d) (GoL.of_go (StF.of_draw d) g)
theorem keepT_nt {o2 : HO} (nt : NT o2) (h : H L = some o2) : KeepT H (upd H L o) := fun p xs r => by
  have n := nt_not nt h r
  rcases r with r | ⟨o, r⟩
  · exact .inl (by rw [upd_ne n]; exact r)
  · exact .inr ⟨o, by rw [upd_ne n]; exact r⟩
theorem noLs_of {α : Type} {f : α → PyData} (h : ∀ a, noL (f a) = true) (l : List α) : noLs (l.map f) = true := noLs_map f l fun a _ => h a
end
/-- a list that is being filled -/
structure BL (K : PySem.W.Frag) (S D F L : Addr) (H0 H : Hp) {α : Type} (f : α → PyData) (as : List α) : Prop where
  g : GoL S D F H0 H
  l : ∃ zs, H L = some (.lst zs) ∧ DpAll K H zs (as.map f)
section
variable {S D F L : Addr} {H0 H H1 : Hp} {K : PySem.W.Frag} {α : Type} {f : α → PyData} {as : List α}
theorem BL.nil (st : StF S D F H0) (h : H0 L = none) : BL K S D F L H0 (upd H0 L (.lst [])) f [] := ⟨GoL.new st h, [], upd_same, .nil⟩
theorem BL.go (st : StF S D F H0) (hL : H0 L = none) (hn : ∀ a, noL (f a) = true) (b : BL K S D F L H0 H f as) (g : GoL S D F H H1) : BL K S D F L H0 H1 f as := by
  obtain ⟨zs, h1, h2⟩ := b.l
  obtain ⟨n1, n2, n3⟩ := st.free hL
  exact ⟨b.g.trans g, zs, g.2 _ _ h1 n1 n3, dpA_keep (GoL.keepT b.g.1 g) _ _ (noLs_of hn as) h2⟩
theorem BL.add (st : StF S D F H0) (hL : H0 L = none) (hn : ∀ a, noL (f a) = true) {a : α} {x : V} {zs : List V} (g : GoL S D F H0 H) (h1 : H L = some (.lst zs)) (h2 : DpAll K H zs (as.map f)) (hx : Dp K H x (f a)) :
    BL K S D F L H0 (upd H L (.lst (zs ++ [x]))) f (as ++ [a]) := by
  have k := keepT_nt (o := .lst (zs ++ [x])) (nt_lst _) h1
  refine ⟨GoL.mut st g hL, zs ++ [x], upd_same, ?_⟩
  rw [List.map_append]
  exact dpA_snoc (dpA_keep k _ _ (noLs_of hn as) h2) (dp_keep k _ _ (hn a) hx)
theorem BL.len (b : BL K S D F L H0 H f as) : ∃ zs, H L = some (.lst zs) ∧ DpAll K H zs (as.map f) ∧ zs.length = as.length := by
  obtain ⟨zs, h1, h2⟩ := b.l
  exact ⟨zs, h1, h2, by have := dpA_len h2; rw [List.length_map] at this; exact this⟩
theorem GoL.drop {H' : Hp} (g : GoL S D F H H') (h : H F = none) : Go S D H H' := ⟨g.1.dr, fun b o hb n => g.2 b o hb n (ne_of_none hb h)⟩
end
theorem snoc_str (l : List Str) (z : Str) : l.map V.str ++ [V.str z] = (l ++ [z]).map V.str := by
  rw [List.map_append]
  rfl
theorem int_noL (p : Int) : noL (.int p) = true := rfl
theorem str_noL (p : Str) : noL (.str p) = true := rfl
/-! ### promises of the small draws -/
def spPop : Sp := fun vs H Q _ => ∃ (S D p : Addr) (xs : List V), vs = [.ref D, .ref p] ∧ DrawAt S D H ∧ p ≠ D ∧ H p = some (.lst xs) ∧ 0 < xs.length ∧ xs.length ≤ 1000 ∧ ∀ (H1 : Hp) (j : Nat) (x : V), Go S D H H1 → xs[j]? = some x → Q x (upd H1 p (.lst (xs.eraseIdx j)))
def spRare : Sp := fun vs H Q _ => ∃ (S D : Addr) (m : Int), vs = [.ref D, .int m] ∧ 0 < m ∧ m < 1000 ∧ DrawAt S D H ∧ ∀ H' b, Go S D H H' → Q (.bl b) H'
def spShuf (K : PySem.W.Frag) : Sp := fun vs H Q _ => ∃ (S D p : Addr) (xs : List V), vs = [.ref D, .ref p] ∧ DrawAt S D H ∧ SqL K H p xs ∧ xs.length ≤ 1000 ∧
  ∀ (H' : Hp) (q : Addr) (ys : List V), Go S D H H' → H q = none → H' q = some (.lst ys) → ys.length = xs.length → (∀ y ∈ ys, y ∈ xs) → Q (.ref q) H'
abbrev PA : Str := "a b2 sum left r k0 carry z9z full tail n m8 aa busy cnt p t4 even2 ab1 head u v2 w lowest high mid "
abbrev PB : Str := "s t e f g h i j k x y q7 deep turn gate l5 next1 o c0 d two zz1 near far9 last ring2 "
abbrev PC : Str := "aaaaaaa8 b c1 top2 net3 row col7 v"
def POOL : List Str := Txt.split (PA ++ PB ++ PC) " "
theorem pool_len : POOL.length = 60 := by decide +kernel
def spPool : Sp := fun vs H Q _ => vs = [] ∧ ∀ p, H p = none → Q (.ref p) (upd H p (.lst (POOL.map V.str)))
section
variable {P : Program} {w : World} {K : PySem.W.Frag} {mg : Str → Option Value} {base : Heap}
theorem ok__law_draw (T : Txt K mg) {f : Addr} {fd : FuncData} (F : FnP K "_law_draw" s__law_draw f fd) : FnOk P w K mg base CX0 1 f fd ["d", "many"] spDraw := by
  refine F.ok sc__law_draw (fun vs H Q E h => ?_) (fun cdv A outer s H vs Q E hr h => ?_)
  · obtain ⟨S, D, m, rfl, _⟩ := h
    rfl
  · obtain ⟨S, D, m, rfl, hm, d, q⟩ := h
    obtain ⟨cs, hS⟩ := id d.cells
    obtain ⟨i, r, c, h0, hD⟩ := id d.at_
    have hm0 : 0 < m := hm.1
    refine ⟨_, PSs.nox (pss_cons (ps_if (pt_cmpR op_gt (pe_ix ix_list (pv 0) pe_int (fun _ _ => rfl)) pe_int (nomark _)) (pss_cons (ps_set (i := 2) sc__law_draw.nd rfl (Or.inl rfl) (pe_ix ix_list (pv 0) pe_int (fun _ _ => rfl)))
      (pss_cons (ps_asg (pe_op op_fdivW (pv 2) (pv 1)) (pg_sub (pv 0) pe_int set_list))
      (pss_one (ps_ret (pe_op op_mod (pe_callTy call_int1 (by rfl) T.b_int (by decide +kernel) (pa_cons (pv 2) pa_nil)) (pv 1)))))) pss_nil)
      (pss_cons (ps_set (i := 3) sc__law_draw.nd rfl (Or.inl rfl) pe_int)
      (Evl.pss_cut (ps_if (pt_cmpR op_lt (pe_ix ix_list (pv 0) pe_int (fun _ _ => rfl)) (pe_callB call_len (by rfl) T.b_len (by decide +kernel) (pa_cons (pe_ix ix_list (pv 0) pe_int (fun _ _ => rfl)) pa_nil)) (nomark _)) (pss_cons (ps_set (i := 4) sc__law_draw.nd rfl (Or.inl rfl) (pe_ix ix_list (pe_ix ix_list (pv 0) pe_int (fun _ _ => rfl)) (pe_ix ix_list (pv 0) pe_int (fun _ _ => rfl)) (fun _ _ => rfl)))
      (pss_one (ps_set (i := 3) sc__law_draw.nd rfl (Or.inl rfl) (pe_op op_add (pe_op op_mul pe_int (pe_callB call_abs (by rfl) T.b_abs (by decide +kernel) (pa_cons (pv 4) pa_nil))) (pe_callTy call_int1 (by rfl) T.b_int (by decide +kernel) (pa_cons (pe_cmpR op_lt (pv 4) pe_int (nomark _)) pa_nil)))))) pss_nil)
      (pss_cons (ps_augS (pv 0) pe_int get_list pe_int ip_add set_list)
      (pss_cons (ps_if (pt_cmpR op_ge (pv 3) (pe_op op_mul pe_int (pe_op op_pow pe_int pe_int)) (nomark _)) (pss_cons (ps_set (i := 2) sc__law_draw.nd rfl (Or.inl rfl) (pe_op op_mod (pe_callTy call_int1 (by rfl) T.b_int (by decide +kernel) (pa_cons (pe_op op_fdivW (pv 3) pe_int) pa_nil)) (pe_op op_shl pe_int pe_int)))
      (pss_cons (ps_asg (pe_op op_fdivW (pv 2) (pv 1)) (pg_sub (pv 0) pe_int set_list))
      (pss_one (ps_ret (pe_op op_mod (pe_callTy call_int1 (by rfl) T.b_int (by decide +kernel) (pa_cons (pv 2) pa_nil)) (pv 1)))))) pss_nil)
      (pss_cons (ps_asg (pe_op op_mod (pe_callTy call_int1 (by rfl) T.b_int (by decide +kernel) (pa_cons (pe_op op_add (pe_op op_add (pe_op op_add (pe_op op_mul (pe_ix ix_list (pv 0) pe_int (fun _ _ => rfl)) pe_int) (pe_op op_mul (pe_op op_mod (pe_callTy call_int1 (by rfl) T.b_int (by decide +kernel) (pa_cons (pv 3) pa_nil)) pe_int) pe_int)) (pe_op op_mul (pe_ix ix_list (pv 0) pe_int (fun _ _ => rfl)) pe_int)) pe_int) pa_nil)) pe_int) (pg_sub (pv 0) pe_int set_list))
      (pss_one (ps_ret (pe_op op_mod (pe_callTy call_int1 (by rfl) T.b_int (by decide +kernel) (pa_cons (pe_op op_fdivW (pe_ix ix_list (pv 0) pe_int (fun _ _ => rfl)) pe_int) pa_nil)) (pv 1)))))))))), ?_⟩
    refine ⟨_, rfl, D, _, _, _, rfl, rfl, SqL.of hD, atI_nat (j := 2) rfl, _, _, rfl, rfl, _, rfl, ?_⟩
    refine ite2 (fun e => ?_) (fun e => ?_)
    · refine ⟨_, rfl, D, _, _, _, rfl, rfl, SqL.of hD, atI_nat (j := 2) rfl, ?_⟩
      refine ⟨_, rfl, _, rfl, _, _, rfl, rfl, hm, _, rfl, D, _, _, 2, rfl, rfl, hD, rfl, ?_⟩
      refine ⟨_, rfl, .inl ⟨_, rfl, _, rfl, _, _, rfl, rfl, hm0, ?_⟩⟩
      refine q _ _ (Int.emod_nonneg _ (by omega)) (Int.emod_lt_of_pos _ hm0) ⟨d.set h0, Keep.refl.set⟩
    · refine ⟨fun σ' H' => ∃ (z : Int) (x : Option V), σ' = [some (.ref D), some (.int m), none, some (.int z), x] ∧ H' = H, ?_, ?_⟩
      · refine ⟨_, rfl, D, _, _, _, rfl, rfl, SqL.of hD, atI_nat (j := 1) rfl, ?_⟩
        refine ⟨_, rfl, D, _, _, _, rfl, rfl, SqL.of hD, atI_nat (j := 0) rfl, _, _, rfl, .inl ⟨_, SqL.of hS, rfl⟩, _, _, rfl, rfl, _, rfl, ?_⟩
        refine ite2 (fun e1 => ?_) (fun e1 => ?_)
        · have e2 : i < ((cs.map V.int).length : Int) := of_decide_eq_true e1
          have e3 : i.toNat < (cs.map V.int).length := by omega
          have e4 : i.toNat < cs.length := by rw [List.length_map] at e3; exact e3
          have e5 : (cs.map V.int)[i.toNat]? = some (.int cs[i.toNat]) := by
            rw [List.getElem?_map, List.getElem?_eq_getElem e4]
            rfl
          have e6 : atI (cs.map V.int) i = some (.int cs[i.toNat]) := by
            have := atI_nat (xs := cs.map V.int) e5
            rw [show ((i.toNat : Nat) : Int) = i by omega] at this
            exact this
          refine ⟨_, rfl, D, _, _, _, rfl, rfl, SqL.of hD, atI_nat (j := 0) rfl, ?_⟩
          refine ⟨_, rfl, D, _, _, _, rfl, rfl, SqL.of hD, atI_nat (j := 1) rfl, ?_⟩
          refine ⟨S, _, _, _, rfl, rfl, SqL.of hS, e6, ?_⟩
          refine ⟨_, rfl, _, rfl, _, _, rfl, rfl, .inl ⟨by decide, by decide⟩, ?_⟩
          refine ⟨_, rfl, _, _, rfl, rfl, .inr ⟨_, rfl, _, _, rfl, rfl, ?_⟩⟩
          exact ⟨_, _, rfl, rfl⟩
        · exact ⟨_, _, rfl, rfl⟩
      · rintro σ' H' ⟨z, x, rfl, rfl⟩
        refine ⟨_, rfl, D, _, _, _, rfl, rfl, SqL.of hD, atI_nat (j := 1) rfl, ?_⟩
        refine ⟨_, _, rfl, rfl, D, _, _, 1, rfl, rfl, hD, rfl, ?_⟩
        have hD1 : (upd H' D (.lst [.ref S, .int (i + 1), .int r, .int c])) D = some (.lst [.ref S, .int (i + 1), .int r, .int c]) := upd_same
        have d1 : DrawAt S D (upd H' D (.lst [.ref S, .int (i + 1), .int r, .int c])) := d.set (by omega)
        refine ⟨_, rfl, _, _, rfl, rfl, ⟨by decide, by decide, by decide⟩, _, _, rfl, rfl, .inl ⟨by decide, by decide⟩, _, _, rfl, rfl, _, rfl, ?_⟩
        refine ite2 (fun e1 => ?_) (fun e1 => ?_)
        · refine ⟨_, rfl, _, _, rfl, rfl, ⟨by decide, by decide⟩, .inl ⟨_, rfl, _, _, rfl, rfl, ⟨by decide, by decide, by decide⟩, ?_⟩⟩
          refine ⟨_, _, rfl, rfl, ?_, ?_⟩
          · show (0 : Int) < 1 * 2 ^ (6000 : Int).toNat
            exact Int.mul_pos (by decide) (Int.pow_pos (by decide))
          · refine ⟨_, rfl, _, rfl, _, _, rfl, rfl, hm, _, rfl, D, _, _, 2, rfl, rfl, hD1, rfl, ?_⟩
            refine ⟨_, rfl, .inl ⟨_, rfl, _, rfl, _, _, rfl, rfl, hm0, ?_⟩⟩
            exact q _ _ (Int.emod_nonneg _ (by omega)) (Int.emod_lt_of_pos _ hm0) ⟨d1.set (by omega), Keep.refl.set.set⟩
        · refine ⟨_, rfl, D, _, _, _, rfl, rfl, SqL.of hD1, atI_nat (j := 3) rfl, _, _, rfl, rfl, .inr ⟨by decide, by decide⟩, ?_⟩
          refine ⟨_, rfl, .inl ⟨_, rfl, _, _, rfl, rfl, (by show (0 : Int) < 2147483629; decide), _, _, rfl, rfl, .inr ⟨by decide, by decide⟩, _, _, rfl, rfl, ?_⟩⟩
          refine ⟨_, rfl, D, _, _, _, rfl, rfl, SqL.of hD1, atI_nat (j := 1) rfl, _, _, rfl, rfl, .inr ⟨by decide, by decide⟩, _, _, rfl, rfl, _, _, rfl, rfl, .inl ⟨_, rfl, ?_⟩⟩
          refine ⟨_, _, rfl, rfl, (by show (0 : Int) < 2147483647; decide), _, rfl, D, _, _, 3, rfl, rfl, hD1, rfl, ?_⟩
          refine ⟨_, rfl, D, _, _, _, rfl, rfl, SqL.of upd_same, atI_nat (j := 3) rfl, _, _, rfl, rfl, ⟨by decide, by decide⟩, ?_⟩
          refine .inl ⟨_, rfl, _, rfl, _, _, rfl, rfl, hm0, ?_⟩
          exact q _ _ (Int.emod_nonneg _ (by omega)) (Int.emod_lt_of_pos _ hm0) ⟨d1.set (by omega), Keep.refl.set.set⟩
theorem ok__law_begin (T : Txt K mg) {f : Addr} {fd : FuncData} (F : FnP K "_law_begin" s__law_begin f fd) : FnOk P w K mg base CX0 1 f fd ["script"] (spBegin K) := by
  refine F.ok sc__law_begin (fun vs H Q E h => ?_) (fun cdv A outer s H vs Q E hr h => ?_)
  · obtain ⟨a, ns, rfl, _⟩ := h
    rfl
  · obtain ⟨a, ns, rfl, hS, hlen, q⟩ := h
    refine ⟨_, PSs.nox (pss_one (ps_ret (pe_lst (pa_cons (pe_lc (own := [("cell", 1)]) (g := (gName 1)) (tt := tYes) rfl sc__law_begin.nd (pi_list (pv 0)) (blkOk_by (N := N__law_begin) (sc := defScope s__law_begin) (by decide +kernel)) (fun _ _ _ _ _ => (pg_name (i := 1) sc__law_begin.nd rfl (Or.inl rfl))) (fun _ _ _ _ _ => pts_nil) (fun _ _ _ _ _ => (pe_callTy call_int1 (by rfl) T.b_int (by decide +kernel) (pa_cons (pv 1) pa_nil)))) (pa_cons pe_int (pa_cons pe_int (pa_cons pe_int pa_nil))))))), ?_⟩
    refine ⟨_, rfl, a, rfl, ⟨_, hS⟩, fun L hL => lc_list (xs := ns.map V.int) (fun i H' => H' = upd H L (.lst ((ns.take i).map V.int))) rfl (fun i H' _ e => ?_) ?_ ?_⟩
    · subst e
      exact (show Same H _ from fun b o h => by rw [upd_ne (ne_of_none h hL)]; exact h).seq hS
    · rintro i x H1 hi rfl
      obtain ⟨z, rfl, hz⟩ := getV hi
      refine ⟨rfl, _, rfl, .inl ⟨_, rfl, _, upd_same, ?_, ?_⟩⟩
      · rw [List.length_map, List.length_take]
        exact Nat.lt_of_le_of_lt (Nat.min_le_right _ _) (small1000 (by omega))
      · rw [upd_upd, take_map_succ (f := V.int) hz]
    · rintro H' rfl
      refine ⟨by show 4 ≤ sizeLine; decide, fun D hD => ?_⟩
      have nLD : D ≠ L := fun e => by
        rw [e, upd_same] at hD
        cases hD
      have hD0 : H D = none := by
        rw [upd_ne nLD] at hD
        exact hD
      refine q L D _ (fun b o h => ?_) hD0 ⟨fun e => nLD e.symm, ⟨ns, ?_⟩, ⟨0, 0, 7, by decide, upd_same⟩⟩
      · rw [upd_ne (ne_of_none h hD0), upd_ne (ne_of_none h hL)]
        exact h
      · rw [upd_ne (fun e => nLD e.symm), upd_same]
        rw [List.take_of_length_le (by rw [List.length_map]; exact Nat.le_refl _)]
theorem ok__law_pick (T : Txt K mg) (D__law_draw : Kept P w K mg base 1 "_law_draw" ["d", "many"] spDraw) {f : Addr} {fd : FuncData} (F : FnP K "_law_pick" s__law_pick f fd) : FnOk P w K mg base CX0 2 f fd ["d", "row"] (spPick K) := by
  refine F.ok sc__law_pick (fun vs H Q E h => ?_) (fun cdv A outer s H vs Q E hr h => ?_)
  · obtain ⟨S, D, r, xs, rfl, _⟩ := h
    rfl
  · obtain ⟨S, D, r, xs, rfl, d, hR, h0, h1, q⟩ := h
    refine ⟨_, PSs.nox (pss_one (ps_ret (pe_ix ix_seq (pv 1) (pe_d D__law_draw (hr.mono (by decide)) (by rfl) (pa_cons (pv 0) (pa_cons (pe_callB call_len (by rfl) T.b_len (by decide +kernel) (pa_cons (pv 1) pa_nil)) pa_nil))) (fun _ _ => rfl)))), ?_⟩
    refine ⟨r, rfl, _, rfl, _, rfl, r, xs.length, rfl, ?_, ?_⟩
    · rcases hR H (Go.refl d) with ⟨z, rfl, rfl⟩ | ⟨p, rfl, hp⟩ | ⟨p, rfl, hp⟩
      · refine ⟨?_, by simp [Str.length]⟩
        rw [List.length_map] at h1
        have : z.length = z.cps.toList.length := by simp [Str.length]
        rw [this]
        exact Nat.le_trans h1 (by decide)
      · exact .inl ⟨_, hp, rfl⟩
      · exact .inr ⟨_, hp, rfl⟩
    · refine ⟨S, D, _, rfl, divW_of (by omega) (by omega), d, fun H' v hv0 hv1 g => ?_⟩
      have hv : v.toNat < xs.length := by omega
      have e : ((v.toNat : Nat) : Int) = v := by omega
      have ex : xs[v.toNat]? = some xs[v.toNat] := List.getElem?_eq_getElem hv
      have ea : atI xs v = some xs[v.toNat] := by
        have := atI_nat (xs := xs) ex
        rw [e] at this
        exact this
      rcases hR H' g with ⟨z, rfl, rfl⟩ | ⟨p, rfl, hp⟩ | ⟨p, rfl, hp⟩
      · refine .inr (.inr ⟨z, v, z.cps.toList[v.toNat]'(by rw [List.length_map] at hv; exact hv), rfl, rfl, ?_, ?_, ?_⟩)
        · rw [List.length_map] at h1
          have : z.length = z.cps.toList.length := by simp [Str.length]
          rw [this]
          exact Nat.le_trans h1 (by decide)
        · have := atI_nat (xs := z.cps.toList) (List.getElem?_eq_getElem (show v.toNat < z.cps.toList.length by rw [List.length_map] at hv; exact hv))
          rw [e] at this
          exact this
        · refine q H' _ ?_ g
          exact List.mem_map_of_mem (List.getElem_mem _)
      · exact .inl ⟨p, xs, v, _, rfl, rfl, hp, ea, q H' _ (List.getElem_mem _) g⟩
      · exact .inr (.inl ⟨p, xs, v, _, rfl, rfl, hp, ea, q H' _ (List.getElem_mem _) g⟩)
theorem ok__law_rare (T : Txt K mg) (D__law_draw : Kept P w K mg base 1 "_law_draw" ["d", "many"] spDraw) {f : Addr} {fd : FuncData} (F : FnP K "_law_rare" s__law_rare f fd) : FnOk P w K mg base CX0 2 f fd ["d", "many"] spRare := by
  refine F.ok sc__law_rare (fun vs H Q E h => ?_) (fun cdv A outer s H vs Q E hr h => ?_)
  · obtain ⟨S, D, m, rfl, _⟩ := h
    rfl
  · obtain ⟨S, D, m, rfl, m0, m1, d, q⟩ := h
    refine ⟨_, PSs.nox (pss_one (ps_ret (pe_cmpR op_eq (pe_d D__law_draw (hr.mono (by decide)) (by rfl) (pa_cons (pv 0) (pa_cons (pv 1) pa_nil))) (pe_op op_fdivW (pv 1) pe_int) (nomark _)))), ?_⟩
    exact ⟨_, rfl, _, rfl, S, D, m, rfl, divW_of m0 (by omega), d, fun H1 v _ _ g => ⟨_, rfl, _, _, rfl, rfl, ⟨by decide, by decide⟩, rfl, q H1 _ g⟩⟩
theorem ok__law_is_int (T : Txt K mg) {f : Addr} {fd : FuncData} (F : FnP K "_law_is_int" s__law_is_int f fd) : FnOk P w K mg base CX0 1 f fd ["thing"] spIsInt := by
  refine F.ok sc__law_is_int (fun vs H Q E h => ?_) (fun cdv A outer s H vs Q E hr h => ?_)
  · obtain ⟨p, rfl, _⟩ := h
    rfl
  · obtain ⟨i, rfl, q⟩ := h
    refine ⟨_, PSs.nox (pss_one (ps_ret (pe_and (pe_callB call_isi (by rfl) T.b_isinstance (by decide +kernel) (pa_cons (pv 0) (pa_cons (pe_bltn (v := .ty "int") (u := .type "int") (by rfl) T.b_int (by decide +kernel) rfl) pa_nil))) (pe_one (pe_not (pe_callB call_isi (by rfl) T.b_isinstance (by decide +kernel) (pa_cons (pv 0) (pa_cons (pe_bltn (v := .ty "bool") (u := .type "bool") (by rfl) T.b_bool (by decide +kernel) rfl) pa_nil)))))))), ?_⟩
    refine ⟨_, rfl, _, .ty "int", .type "int", .type "int", true, rfl, .ty _, .base (.int _), kit_ty (by decide +kernel), true, rfl, ?_⟩
    exact ⟨_, rfl, _, .ty "bool", .type "int", .type "bool", false, rfl, .ty _, .base (.int _), kit_ty (by decide +kernel), false, rfl, q⟩
end
end Mt

namespace Mt
open PySem PySem.Spec PyProof.Rows L2 SX
theorem ixL {X : Cx} {K : PySem.W.Frag} (h : X.K = K) : IxR X (rIxL K) := h ▸ ix_list
theorem tupOfT {X : Cx} {K : PySem.W.Frag} (h : X.K = K) : CallR X (.type "tuple") (fun xs H Q => ∃ p ys, xs = [.ref p] ∧ ((SqL K H p ys ∧ ∀ l, H l = none → Q (.ref l) (upd H l (.tup ys))) ∨ (SqT K H p ys ∧ Q (.ref p) H))) := h ▸ call_tuple_of
theorem goU {S D L : Addr} {H0 H : Hp} {o : HO} (L0 : H0 L = none) (d0 : DrawAt S D H0) (g : Go S D H0 H) : Go S D H0 (upd H L o) := by
  obtain ⟨LD, LS⟩ := d0.free L0
  obtain ⟨cs, hc⟩ := g.1.cells
  obtain ⟨j, r, c, j0, hD⟩ := g.1.at_
  refine ⟨⟨g.1.ne, ⟨cs, ?_⟩, ⟨j, r, c, j0, ?_⟩⟩, fun b o h n => ?_⟩
  · rw [upd_ne LS.symm]
    exact hc
  · rw [upd_ne LD.symm]
    exact hD
  · rw [upd_ne (ne_of_none h L0)]
    exact g.2 b o h n
mutual
theorem dp_same {K : PySem.W.Frag} {H H' : Hp} (s : Same H H') : ∀ (d : PyData) (v : V), Dp K H v d → Dp K H' v d
  | .none, _, h => by
    cases h
    exact .non
  | .bool b, _, h => by
    cases h
    exact .bl b
  | .int i, _, h => by
    cases h
    exact .int i
  | .str x, _, h => by
    cases h
    exact .str x
  | .list ds, _, h => by
    cases h with
    | lst h1 h2 => exact .lst (same_l s h1) (dpA_same s ds _ h2)
  | .dict ds, n, h => by
    cases h
  | .tuple ds, _, h => by
    cases h with
    | tup h1 h2 => exact .tup (same_t s h1) (dpA_same s ds _ h2)
theorem dpA_same {K : PySem.W.Frag} {H H' : Hp} (s : Same H H') : ∀ (ds : List PyData) (xs : List V), DpAll K H xs ds → DpAll K H' xs ds
  | [], _, h => by
    cases h
    exact .nil
  | d :: ds, _, h => by
    cases h with
    | cons h1 h2 => exact .cons (dp_same s d _ h1) (dpA_same s ds _ h2)
end
theorem piTK {X : Cx} {K : PySem.W.Frag} {e tg : Expr} {te : TE} (h : X.K = K) (he : PE X e te) : PI X tg e (iTup K te) := h ▸ pi_tup he
theorem take_snoc {α : Type} {l : List α} {i : Nat} {x : α} (h : l[i]? = some x) : l.take (i + 1) = l.take i ++ [x] := by
  rw [List.take_add_one, h]
  rfl
section
variable {K : PySem.W.Frag} {H H' : Hp} {v : V}
theorem dpA_app : ∀ {ds es : List PyData} {xs ys : List V}, DpAll K H xs ds → DpAll K H ys es → DpAll K H (xs ++ ys) (ds ++ es)
  | [], _, _, _, h, h' => by
    rw [dpA_nil h]
    exact h'
  | d :: ds, _, _, _, h, h' => by
    obtain ⟨x, r, rfl, h1, h2⟩ := dpA_cons h
    exact .cons h1 (dpA_app h2 h')
end
theorem new_tup {K : PySem.W.Frag} {H : Hp} {p : Addr} {xs : List V} {ds : List PyData} (hp : H p = none) (h : DpAll K H xs ds) : Same H (upd H p (.tup xs)) ∧ Dp K (upd H p (.tup xs)) (.ref p) (.tuple ds) := by
  have s := same_new (o := .tup xs) hp
  exact ⟨s, .tup (SqT.of upd_same) (dpA_same s _ _ h)⟩
theorem z1 : (1 : Nat) ≤ sizeLine := by decide
theorem z2 : (2 : Nat) ≤ sizeLine := by decide
/-! ### the values, and how they are written -/
def strB (s : Str) : Bool := s.cps.toList.all fun c => decide (32 ≤ c) && (decide (c ≤ 126) && decide (c ≠ 34))
mutual
def pvB : PyData → Bool
  | .none => true
  | .str s => strB s
  | .int i => decide (i.natAbs < 10 ^ 40)
  | .tuple ds => pvBs ds
  | .bool _ => false
  | .list _ => false
  | .dict _ => false
def pvBs : List PyData → Bool
  | [] => true
  | d :: r => pvB d && pvBs r
end
mutual
def tx : PyData → List Nat
  | .none => [110, 111, 110, 101]
  | .str s => 34 :: (s.cps.toList ++ [34])
  | .int i => if i < 0 then 45 :: TL.numL i.natAbs else TL.numL i.natAbs
  | .tuple ds => 40 :: (txs ds ++ [41])
  | .bool _ => []
  | .list _ => []
  | .dict _ => []
def txs : List PyData → List Nat
  | [] => []
  | d :: r => tx d ++ txr r
/-- each behind a comma -/
def txr : List PyData → List Nat
  | [] => []
  | d :: r => 44 :: (tx d ++ txr r)
end
mutual
def dep : PyData → Nat
  | .tuple ds => deps ds + 1
  | .none => 0
  | .str _ => 0
  | .int _ => 0
  | .bool _ => 0
  | .list _ => 0
  | .dict _ => 0
def deps : List PyData → Nat
  | [] => 0
  | d :: r => max (dep d) (deps r)
end
mutual
theorem pv_noL : ∀ d : PyData, pvB d = true → noL d = true
  | .none, _ => rfl
  | .str _, _ => rfl
  | .int _, _ => rfl
  | .tuple ds, h => pvs_noL ds h
  | .bool _, h => nomatch h
  | .list _, h => nomatch h
  | .dict _, h => nomatch h
theorem pvs_noL : ∀ ds : List PyData, pvBs ds = true → noLs ds = true
  | [], _ => rfl
  | d :: r, h => by
    obtain ⟨h1, h2⟩ := Bool.and_eq_true_iff.mp (show (pvB d && pvBs r) = true from h)
    show (noL d && noLs r) = true
    rw [pv_noL d h1, pvs_noL r h2]
    rfl
end
theorem pvs_mem : ∀ {ds : List PyData} {d : PyData}, pvBs ds = true → d ∈ ds → pvB d = true
  | [], _, _, h => absurd h List.not_mem_nil
  | e :: r, d, h, m => by
    obtain ⟨h1, h2⟩ := Bool.and_eq_true_iff.mp (show (pvB e && pvBs r) = true from h)
    rcases List.mem_cons.mp m with k | k
    · rw [k]
      exact h1
    · exact pvs_mem h2 k
theorem deps_mem : ∀ {ds : List PyData} {d : PyData}, d ∈ ds → dep d ≤ deps ds
  | [], _, h => absurd h List.not_mem_nil
  | e :: r, d, m => by
    show dep d ≤ max (dep e) (deps r)
    rcases List.mem_cons.mp m with k | k
    · rw [k]
      exact Nat.le_max_left _ _
    · exact Nat.le_trans (deps_mem k) (Nat.le_max_right _ _)
theorem txr_app : ∀ a b : List PyData, txr (a ++ b) = txr a ++ txr b
  | [], _ => rfl
  | d :: r, b => by
    show 44 :: (tx d ++ txr (r ++ b)) = (44 :: (tx d ++ txr r)) ++ txr b
    rw [txr_app r b, List.cons_append, List.append_assoc]
theorem txr_drop (ds : List PyData) : (txr ds).drop 1 = txs ds := by
  cases ds <;> rfl
theorem txr_len : ∀ ds : List PyData, (txr ds).length ≤ (txs ds).length + 1
  | [] => Nat.zero_le _
  | d :: r => Nat.le_refl _
theorem tx_mem : ∀ {ds : List PyData} {d : PyData}, d ∈ ds → (tx d).length ≤ (txr ds).length
  | [], _, h => absurd h List.not_mem_nil
  | e :: r, d, m => by
    show _ ≤ (44 :: (tx e ++ txr r)).length
    rw [List.length_cons, List.length_append]
    rcases List.mem_cons.mp m with k | k
    · rw [k]
      omega
    · have := tx_mem k
      omega
theorem tx_in {ds : List PyData} {d : PyData} (m : d ∈ ds) : (tx d).length + 2 ≤ (tx (.tuple ds)).length + 1 := by
  have h1 := tx_mem m
  have h2 := txr_len ds
  show _ ≤ (40 :: (txs ds ++ [41])).length + 1
  rw [List.length_cons, List.length_append, List.length_singleton]
  omega
/-- joined by commas -/
theorem joinL_txs : ∀ ds : List PyData, TL.joinL [44] (ds.map tx) = txs ds
  | [] => rfl
  | [d] => by
    show tx d = tx d ++ []
    rw [List.append_nil]
  | d :: e :: r => by
    show tx d ++ ([44] ++ TL.joinL [44] ((e :: r).map tx)) = tx d ++ (44 :: (tx e ++ txr r))
    rw [joinL_txs (e :: r)]
    rfl
theorem sum_txs : ∀ ds : List PyData, ((ds.map tx).map List.length).sum + ds.length = (txr ds).length
  | [] => rfl
  | d :: r => by
    show (tx d).length + ((r.map tx).map List.length).sum + (r.length + 1) = (44 :: (tx d ++ txr r)).length
    rw [List.length_cons, List.length_append, ← sum_txs r]
    omega
theorem S_tl (z : Str) : S z.cps.toList = z := TL.ext_tl rfl
theorem S_app (a b : List Nat) : S a ++ S b = S (a ++ b) := TL.ext_tl (by rw [TL.tl_append])
/-- a whole number's text -/
theorem num_i (i : Int) : Str.ofString (toString i) = S (tx (.int i)) := by
  cases i with
  | ofNat n =>
    show Str.ofString (toString ((n : Nat) : Int)) = S (if ((n : Nat) : Int) < 0 then 45 :: TL.numL n else TL.numL n)
    rw [if_neg (by omega)]
    exact num_S n
  | negSucc m =>
    show Str.ofString (toString (Int.negSucc m)) = S (if Int.negSucc m < 0 then 45 :: TL.numL (m + 1) else TL.numL (m + 1))
    rw [if_pos (Int.negSucc_lt_zero m), ← TL.tl_num (m + 1)]
    refine TL.ext_tl ?_
    show (Str.ofString ("-" ++ Nat.repr (m + 1))).cps.toList = 45 :: (Str.ofString (Nat.repr (m + 1))).cps.toList
    rw [Str.ofString_eq_toList, Str.ofString_eq_toList]
    show ("-" ++ Nat.repr (m + 1)).toList.map Char.toNat = 45 :: (Nat.repr (m + 1)).toList.map Char.toNat
    rw [String.toList_append, List.map_append]
    rfl
theorem join_S (ds : List PyData) : Txt.join (S [44]) (ds.map fun d => S (tx d)) = S (txs ds) := TL.ext_tl (by
  rw [TL.join_eq, TL.tl_join, ← joinL_txs ds, List.map_map]
  rfl)
end Mt
namespace Mt
open PySem PySem.Spec PyProof.Rows L2 SX
def spWr (K : PySem.W.Frag) (n : Nat) : Sp := fun vs H Q _ => ∃ (v : V) (d : PyData), vs = [v] ∧ Dp K H v d ∧ pvB d = true ∧ dep d < n ∧ (tx d).length ≤ 60000 ∧ ∀ H', Same H H' → Q (.str (S (tx d))) H'
theorem log_small {n : Nat} (h : n < 10 ^ 40) : n.log2 < 1920 := by
  by_cases e : n = 0
  · subst e
    decide
  · exact (Nat.log2_lt e).mpr (Nat.lt_of_lt_of_le h (Nat.le_trans (by decide : 10 ^ 40 ≤ 2 ^ 140) (Nat.pow_le_pow_right (by decide) (by decide))))
section
variable {P : Program} {w : World} {K : PySem.W.Frag} {mg : Str → Option Value} {base : Heap}
theorem wr_ok (T : Txt K mg) : ∀ (n : Nat) {f : Addr} {fd : FuncData}, FnP K "write_value" s_write_value f fd → mg "write_value" = some (.ref f) → Binds K fd ["value"] [] → FnOk P w K mg base CX0 (n + 1) f fd ["value"] (spWr K n)
  | 0, f, fd, F, hg, hb => F.ok sc_write_value (fun vs H Q E h => by
      obtain ⟨v, d, rfl, _⟩ := h
      rfl) (fun cdv A outer s H vs Q E hr h => by
      obtain ⟨v, d, rfl, _, _, h, _⟩ := h
      exact absurd h (Nat.not_lt_zero _))
  | n + 1, f, fd, F, hg, hb => by
    have D_write_value : Kept P w K mg base (n + 1) "write_value" ["value"] (spWr K n) := ⟨f, fd, wr_ok T n F hg hb, hg, F.kp, hb⟩
    refine F.ok sc_write_value (fun vs H Q E h => ?_) (fun cdv A outer s H vs Q E hr h => ?_)
    · obtain ⟨v, d, rfl, _⟩ := h
      rfl
    · obtain ⟨v, d, rfl, hd, hp, hn, hl, q⟩ := h
      refine ⟨_, PSs.nox (pss_cons (ps_if (pt_cmpR op_isN (pv 0) pe_non (nomark _)) (pss_one (ps_ret pe_str)) pss_nil)
      (pss_cons (ps_if (pt_val (pe_callB call_isi (by rfl) T.b_isinstance (by decide +kernel) (pa_cons (pv 0) (pa_cons (pe_bltn (v := .ty "str") (u := .type "str") (by rfl) T.b_str (by decide +kernel) rfl) pa_nil)))) (pss_one (ps_ret (pe_op op_add_str (pe_op op_add_str (pe_gs T.g_QUOTE (by rfl)) (pv 0)) (pe_gs T.g_QUOTE (by rfl))))) pss_nil)
      (pss_cons (ps_if (pt_val (pe_callB call_isi (by rfl) T.b_isinstance (by decide +kernel) (pa_cons (pv 0) (pa_cons (pe_bltn (v := .ty "tuple") (u := .type "tuple") (by rfl) T.b_tuple (by decide +kernel) rfl) pa_nil)))) (pss_one (ps_ret (pe_op op_add_str (pe_op op_add_str pe_str (pe_join pe_str (pe_lc (own := [("part", 1)]) (g := (gName 1)) (tt := tYes) rfl sc_write_value.nd (pi_tup (pv 0)) (blkOk_by (N := N_write_value) (sc := defScope s_write_value) (by decide +kernel)) (fun _ _ _ _ _ => (pg_name (i := 1) sc_write_value.nd rfl (Or.inl rfl))) (fun _ _ _ _ _ => pts_nil) (fun _ _ _ _ _ => (pe_d D_write_value (hr.mono (by omega)) (by rfl) (pa_cons (pv 1) pa_nil)))))) pe_str))) pss_nil)
      (pss_one (ps_ret (pe_callTy call_str_int (by rfl) T.b_str (by decide +kernel) (pa_cons (pv 0) pa_nil))))))), ?_⟩
      have eQ : Str.ofString "\"" = S [34] := by decide +kernel
      have step : ∀ (x : V) (r : Bool), x = v → True := fun _ _ _ => trivial
      clear step
      match d, hd, hp, hn, hl, q with
      | .none, hd, hp, hn, hl, q =>
        obtain rfl := dp_non hd
        refine ⟨_, rfl, rfl, _, rfl, ite2 (fun _ => ?_) (fun h => absurd rfl h)⟩
        have e : Str.ofString "none" = S (tx .none) := by decide +kernel
        show Q (.str (Str.ofString "none")) H
        rw [e]
        exact q _ (Same.refl _)
      | .str z, hd, hp, hn, hl, q =>
        obtain rfl := dp_str hd
        refine ⟨_, rfl, rfl, _, rfl, ite2 (fun h => (nomatch h)) (fun _ => ?_)⟩
        refine ⟨_, rfl, _, .ty "str", .type "str", .type "str", true, rfl, .ty _, .base (.str _), kit_ty (by decide +kernel), true, rfl, ite2 (fun _ => ?_) (fun h => absurd rfl h)⟩
        have hz : z.length + 2 ≤ 60000 := by
          have : (34 :: (z.cps.toList ++ [34])).length ≤ 60000 := hl
          rw [List.length_cons, List.length_append, List.length_singleton] at this
          show z.cps.size + 2 ≤ 60000
          rw [← Array.length_toList]
          omega
        have e1 : Str.ofString "\"" ++ z ++ Str.ofString "\"" = S (tx (.str z)) := by
          rw [eQ, ← S_tl z, S_app, S_app]
          rfl
        refine ⟨_, rfl, _, _, rfl, rfl, ?_, _, _, rfl, rfl, ?_, ?_⟩
        · rw [eQ, S_len]
          show 1 + _ ≤ _
          exact line5 (by omega)
        · rw [eQ, ← S_tl z, S_app, S_len, S_len]
          show (34 :: z.cps.toList).length + 1 ≤ _
          rw [List.length_cons, Array.length_toList]
          exact line5 (by show z.length + 1 + 1 ≤ _; omega)
        · rw [e1]
          exact q _ (Same.refl _)
      | .int i, hd, hp, hn, hl, q =>
        obtain rfl := dp_int hd
        refine ⟨_, rfl, rfl, _, rfl, ite2 (fun h => (nomatch h)) (fun _ => ?_)⟩
        refine ⟨_, rfl, _, .ty "str", .type "int", .type "str", false, rfl, .ty _, .base (.int _), kit_ty (by decide +kernel), false, rfl, ite2 (fun h => (nomatch h)) (fun _ => ?_)⟩
        refine ⟨_, rfl, _, .ty "tuple", .type "int", .type "tuple", false, rfl, .ty _, .base (.int _), kit_ty (by decide +kernel), false, rfl, ite2 (fun h => (nomatch h)) (fun _ => ?_)⟩
        refine ⟨_, rfl, i, rfl, log_small (of_decide_eq_true hp), ?_⟩
        rw [num_i]
        exact q _ (Same.refl _)
      | .tuple ds, hd, hp, hn, hl, q =>
        obtain ⟨p, xs, rfl, hpx, hA⟩ := dp_tup hd
        refine ⟨_, rfl, rfl, _, rfl, ite2 (fun h => (nomatch h)) (fun _ => ?_)⟩
        refine ⟨_, rfl, _, .ty "str", .type "tuple", .type "str", false, rfl, .ty _, sqt_ty hpx, kit_ty (by decide +kernel), false, rfl, ite2 (fun h => (nomatch h)) (fun _ => ?_)⟩
        refine ⟨_, rfl, _, .ty "tuple", .type "tuple", .type "tuple", true, rfl, .ty _, sqt_ty hpx, kit_ty (by decide +kernel), true, rfl, ite2 (fun _ => ?_) (fun h => absurd rfl h)⟩
        have xl := dpA_len hA
        have hl2 : (txs ds).length + 2 ≤ 60000 := by
          have : (40 :: (txs ds ++ [41])).length ≤ 60000 := hl
          rw [List.length_cons, List.length_append, List.length_singleton] at this
          omega
        have hr2 := txr_len ds
        have hsum := sum_txs ds
        have hdd : deps ds < n := by
          have : deps ds + 1 < n + 1 := hn
          omega
        refine ⟨⟨_, rfl⟩, _, rfl, p, rfl, ⟨_, hpx⟩, fun L hL => lc_tup (K := K) (a := p) (xs := xs) (fun i H' => Same H H' ∧ H' L = some (.lst (((ds.take i).map fun d => S (tx d)).map V.str))) ⟨same_new hL, upd_same⟩ (fun i H' _ e => same_t e.1 hpx) ?_ ?_⟩
        · rintro i x H1 hi ⟨s1, hL1⟩
          obtain ⟨d, hdi, hx⟩ := dpA_at hA hi
          have hm := List.mem_of_getElem? hdi
          have hi2 := (List.getElem?_eq_some_iff.mp hdi).1
          have h3 := tx_mem hm
          have h4 := deps_mem hm
          refine ⟨rfl, _, rfl, x, d, rfl, dp_same s1 _ _ hx, pvs_mem hp hm, by omega, by omega, fun H2 s2 => ⟨_, s2 _ _ hL1, by rw [List.length_map, List.length_map, List.length_take]; exact line6 (by omega), same_mut (s1.trans s2) hL, ?_⟩⟩
          rw [upd_same, take_snoc hdi, List.map_append, List.map_append]
          rfl
        · rintro H1 ⟨s1, hL1⟩
          rw [List.take_of_length_le (by omega)] at hL1
          have e0 : Str.ofString "(" = S [40] := by decide +kernel
          have e1 : Str.ofString ")" = S [41] := by decide +kernel
          have e2 : Str.ofString "," = S [44] := by decide +kernel
          refine ⟨_, L, ds.map fun d => S (tx d), rfl, rfl, .inl (SqL.of hL1), ?_, ?_⟩
          · have e3 : (ds.map fun d => S (tx d)).map (fun x => x.length) = (ds.map tx).map List.length := by
              rw [List.map_map, List.map_map]
              exact List.map_congr_left fun d _ => S_len _
            rw [e3, List.length_map]
            show _ + ds.length * 1 ≤ _
            omega
          · rw [e2, join_S, e0, e1]
            refine ⟨_, _, rfl, rfl, ?_, _, _, rfl, rfl, ?_, ?_⟩
            · rw [S_len, S_len]
              show 1 + _ ≤ _
              exact line5 (by omega)
            · rw [S_app, S_len, S_len]
              show (40 :: txs ds).length + 1 ≤ _
              rw [List.length_cons]
              exact line5 (by omega)
            · rw [S_app, S_app]
              exact q _ s1
      | .bool _, _, hp, _, _, _ => nomatch hp
      | .list _, _, hp, _, _, _ => nomatch hp
      | .dict _, _, hp, _, _, _ => nomatch hp
end
end Mt
namespace Mt
open PySem PySem.Spec PyProof.Rows L2 SX
section
variable {P : Program} {w : World} {K : PySem.W.Frag} {mg : Str → Option Value} {base : Heap}
theorem pt_ok (T : Txt K mg) : ∀ (n : Nat) {f : Addr} {fd : FuncData}, FnP K "_law_pv_text" s__law_pv_text f fd → mg "_law_pv_text" = some (.ref f) → Binds K fd ["value"] [] → FnOk P w K mg base CX0 (n + 1) f fd ["value"] (spWr K n)
  | 0, f, fd, F, hg, hb => F.ok sc__law_pv_text (fun vs H Q E h => by
      obtain ⟨v, d, rfl, _⟩ := h
      rfl) (fun cdv A outer s H vs Q E hr h => by
      obtain ⟨v, d, rfl, _, _, h, _⟩ := h
      exact absurd h (Nat.not_lt_zero _))
  | n + 1, f, fd, F, hg, hb => by
    have D__law_pv_text : Kept P w K mg base (n + 1) "_law_pv_text" ["value"] (spWr K n) := ⟨f, fd, pt_ok T n F hg hb, hg, F.kp, hb⟩
    refine F.ok sc__law_pv_text (fun vs H Q E h => ?_) (fun cdv A outer s H vs Q E hr h => ?_)
    · obtain ⟨v, d, rfl, _⟩ := h
      rfl
    · obtain ⟨v, d, rfl, hd, hp, hn, hl, q⟩ := h
      refine ⟨_, PSs.nox (pss_cons (ps_if (pt_cmpR op_isN (pv 0) pe_non (nomark _)) (pss_one (ps_ret pe_str)) pss_nil)
      (pss_cons (ps_if (pt_val (pe_callB call_isi (by rfl) T.b_isinstance (by decide +kernel) (pa_cons (pv 0) (pa_cons (pe_bltn (v := .ty "str") (u := .type "str") (by rfl) T.b_str (by decide +kernel) rfl) pa_nil)))) (pss_one (ps_ret (pe_op op_add_str (pe_op op_add_str pe_str (pv 0)) pe_str))) pss_nil)
      (pss_cons (ps_if (pt_val (pe_callB call_isi (by rfl) T.b_isinstance (by decide +kernel) (pa_cons (pv 0) (pa_cons (pe_bltn (v := .ty "tuple") (u := .type "tuple") (by rfl) T.b_tuple (by decide +kernel) rfl) pa_nil)))) (pss_cons (ps_set (i := 1) sc__law_pv_text.nd rfl (Or.inl rfl) pe_str)
      (pss_cons (ps_for PassesOwn.never rfl (pi_tup (pv 0)) (pg_name (i := 2) sc__law_pv_text.nd rfl (Or.inl rfl)) (pss_one (ps_set (i := 1) sc__law_pv_text.nd rfl (Or.inl rfl) (pe_op op_add_str (pe_op op_add_str (pv 1) pe_str) (pe_d D__law_pv_text (hr.mono (by omega)) (by rfl) (pa_cons (pv 2) pa_nil))))))
      (pss_one (ps_ret (pe_op op_add_str (pe_op op_add_str pe_str (pe_slice sl_str (pv 1) (po_some pe_int) po_none)) pe_str))))) pss_nil)
      (pss_one (ps_ret (pe_callTy call_str_int (by rfl) T.b_str (by decide +kernel) (pa_cons (pv 0) pa_nil))))))), ?_⟩
      have eQ : Str.ofString "\"" = S [34] := by decide +kernel
      have step : ∀ (x : V) (r : Bool), x = v → True := fun _ _ _ => trivial
      clear step
      match d, hd, hp, hn, hl, q with
      | .none, hd, hp, hn, hl, q =>
        obtain rfl := dp_non hd
        refine ⟨_, rfl, rfl, _, rfl, ite2 (fun _ => ?_) (fun h => absurd rfl h)⟩
        have e : Str.ofString "none" = S (tx .none) := by decide +kernel
        show Q (.str (Str.ofString "none")) H
        rw [e]
        exact q _ (Same.refl _)
      | .str z, hd, hp, hn, hl, q =>
        obtain rfl := dp_str hd
        refine ⟨_, rfl, rfl, _, rfl, ite2 (fun h => (nomatch h)) (fun _ => ?_)⟩
        refine ⟨_, rfl, _, .ty "str", .type "str", .type "str", true, rfl, .ty _, .base (.str _), kit_ty (by decide +kernel), true, rfl, ite2 (fun _ => ?_) (fun h => absurd rfl h)⟩
        have hz : z.length + 2 ≤ 60000 := by
          have : (34 :: (z.cps.toList ++ [34])).length ≤ 60000 := hl
          rw [List.length_cons, List.length_append, List.length_singleton] at this
          show z.cps.size + 2 ≤ 60000
          rw [← Array.length_toList]
          omega
        have e1 : Str.ofString "\"" ++ z ++ Str.ofString "\"" = S (tx (.str z)) := by
          rw [eQ, ← S_tl z, S_app, S_app]
          rfl
        refine ⟨_, rfl, _, _, rfl, rfl, ?_, _, _, rfl, rfl, ?_, ?_⟩
        · rw [eQ, S_len]
          show 1 + _ ≤ _
          exact line5 (by omega)
        · rw [eQ, ← S_tl z, S_app, S_len, S_len]
          show (34 :: z.cps.toList).length + 1 ≤ _
          rw [List.length_cons, Array.length_toList]
          exact line5 (by show z.length + 1 + 1 ≤ _; omega)
        · rw [e1]
          exact q _ (Same.refl _)
      | .int i, hd, hp, hn, hl, q =>
        obtain rfl := dp_int hd
        refine ⟨_, rfl, rfl, _, rfl, ite2 (fun h => (nomatch h)) (fun _ => ?_)⟩
        refine ⟨_, rfl, _, .ty "str", .type "int", .type "str", false, rfl, .ty _, .base (.int _), kit_ty (by decide +kernel), false, rfl, ite2 (fun h => (nomatch h)) (fun _ => ?_)⟩
        refine ⟨_, rfl, _, .ty "tuple", .type "int", .type "tuple", false, rfl, .ty _, .base (.int _), kit_ty (by decide +kernel), false, rfl, ite2 (fun h => (nomatch h)) (fun _ => ?_)⟩
        refine ⟨_, rfl, i, rfl, log_small (of_decide_eq_true hp), ?_⟩
        rw [num_i]
        exact q _ (Same.refl _)
      | .tuple ds, hd, hp, hn, hl, q =>
        obtain ⟨p, xs, rfl, hpx, hA⟩ := dp_tup hd
        refine ⟨_, rfl, rfl, _, rfl, ite2 (fun h => (nomatch h)) (fun _ => ?_)⟩
        refine ⟨_, rfl, _, .ty "str", .type "tuple", .type "str", false, rfl, .ty _, sqt_ty hpx, kit_ty (by decide +kernel), false, rfl, ite2 (fun h => (nomatch h)) (fun _ => ?_)⟩
        refine ⟨_, rfl, _, .ty "tuple", .type "tuple", .type "tuple", true, rfl, .ty _, sqt_ty hpx, kit_ty (by decide +kernel), true, rfl, ite2 (fun _ => ?_) (fun h => absurd rfl h)⟩
        have xl := dpA_len hA
        have hl2 : (txs ds).length + 2 ≤ 60000 := by
          have : (40 :: (txs ds ++ [41])).length ≤ 60000 := hl
          rw [List.length_cons, List.length_append, List.length_singleton] at this
          omega
        have hr2 := txr_len ds
        have hsum := sum_txs ds
        have hdd : deps ds < n := by
          have : deps ds + 1 < n + 1 := hn
          omega
        have e0 : Str.ofString "(" = S [40] := by decide +kernel
        have e1 : Str.ofString ")" = S [41] := by decide +kernel
        have e2 : Str.ofString "," = S [44] := by decide +kernel
        have e3 : Str.ofString "" = S [] := by decide +kernel
        refine ⟨_, rfl, p, rfl, ⟨_, hpx⟩, for_tup (K := K) (a := p) (xs := xs) (fun i σ H' => ∃ y : Option V, σ = [some (.ref p), some (.str (S (txr (ds.take i)))), y] ∧ Same H H') ⟨_, by rw [show List.take 0 ds = [] from rfl]; show _ = [some (V.ref p), some (V.str (S [])), none]; rw [← e3]; rfl, Same.refl _⟩ (fun i σ H' _ e => by
          obtain ⟨_, _, s1⟩ := e
          exact same_t s1 hpx) ?_ ?_⟩
        · rintro i x σ H1 hi ⟨y, rfl, s1⟩
          obtain ⟨d, hdi, hx⟩ := dpA_at hA hi
          have hm := List.mem_of_getElem? hdi
          have hi2 := (List.getElem?_eq_some_iff.mp hdi).1
          have h3 := tx_mem hm
          have h4 := deps_mem hm
          have h5 : (txr (ds.take i)).length + (txr (ds.drop i)).length = (txr ds).length := by
            rw [← List.length_append, ← txr_app, List.take_append_drop]
          have h6 : (txr (ds.take (i + 1))) = txr (ds.take i) ++ (44 :: tx d) := by
            rw [take_snoc hdi, txr_app]
            show _ ++ (44 :: (tx d ++ [])) = _
            rw [List.append_nil]
          have h7 : (txr (ds.take i) ++ (44 :: tx d)).length ≤ (txr ds).length := by
            rw [← h6]
            have : (txr (ds.take (i + 1))).length + (txr (ds.drop (i + 1))).length = (txr ds).length := by
              rw [← List.length_append, ← txr_app, List.take_append_drop]
            omega
          rw [List.length_append, List.length_cons] at h7
          refine ⟨_, rfl, _, _, rfl, rfl, ?_, _, rfl, x, d, rfl, dp_same s1 _ _ hx, pvs_mem hp hm, by omega, by omega, fun H2 s2 => ⟨_, _, rfl, rfl, ?_, ?_⟩⟩
          · rw [e2, S_len, S_len]
            show _ + 1 ≤ _
            exact line5 (by omega)
          · rw [e2, S_app, S_len, S_len, List.length_append]
            show _ + 1 + _ ≤ _
            exact line5 (by omega)
          · refine ⟨some x, ?_, s1.trans s2⟩
            rw [e2, S_app, S_app, h6, List.append_assoc]
            rfl
        · rintro σ H1 ⟨y, rfl, s1⟩
          rw [List.take_of_length_le (by omega)]
          have e4 : cutS (S (txr ds)) (some 1) none = S (txs ds) := by
            rw [← txr_drop ds]
            rw [C8.cutS_slice, slice_from (by decide)]
            rfl
          refine ⟨_, rfl, _, rfl, _, rfl, ?_, ?_⟩
          · rw [S_len]
            exact line5 (by omega)
          · rw [e4, e0, e1]
            refine ⟨_, _, rfl, rfl, ?_, _, _, rfl, rfl, ?_, ?_⟩
            · rw [S_len, S_len]
              show 1 + _ ≤ _
              exact line5 (by omega)
            · rw [S_app, S_len, S_len]
              show (40 :: txs ds).length + 1 ≤ _
              rw [List.length_cons]
              exact line5 (by omega)
            · rw [S_app, S_app]
              exact q _ s1
      | .bool _, _, hp, _, _, _ => nomatch hp
      | .list _, _, hp, _, _, _ => nomatch hp
      | .dict _, _, hp, _, _, _ => nomatch hp
end
end Mt
namespace Mt
open PySem PySem.Spec PyProof.Rows L2 SX
def spSm (K : PySem.W.Frag) (n : Nat) : Sp := fun vs H Q _ => ∃ (t u : V) (d : PyData), vs = [t, u] ∧ Dp K H t d ∧ Dp K H u d ∧ pvB d = true ∧ dep d < n ∧ (tx d).length ≤ 60000 ∧ ∀ H', Same H H' → Q (.bl true) H'
section
variable {P : Program} {w : World} {K : PySem.W.Frag} {mg : Str → Option Value} {base : Heap}
theorem sm_ok (T : Txt K mg) (D__law_is_int : Kept P w K mg base 1 "_law_is_int" ["thing"] spIsInt) : ∀ (n : Nat) {f : Addr} {fd : FuncData}, FnP K "_law_pv_same" s__law_pv_same f fd → mg "_law_pv_same" = some (.ref f) → Binds K fd ["told", "due"] [] → FnOk P w K mg base CX0 (n + 2) f fd ["told", "due"] (spSm K n)
  | 0, f, fd, F, hg, hb => F.ok (k := 1) sc__law_pv_same (fun vs H Q E h => by
      obtain ⟨t, u, d, rfl, _⟩ := h
      rfl) (fun cdv A outer s H vs Q E hr h => by
      obtain ⟨t, u, d, rfl, _, _, _, h, _⟩ := h
      exact absurd h (Nat.not_lt_zero _))
  | n + 1, f, fd, F, hg, hb => by
    have D__law_pv_same : Kept P w K mg base (n + 2) "_law_pv_same" ["told", "due"] (spSm K n) := ⟨f, fd, sm_ok T D__law_is_int n F hg hb, hg, F.kp, hb⟩
    refine F.ok (k := n + 2) sc__law_pv_same (fun vs H Q E h => ?_) (fun cdv A outer s H vs Q E hr h => ?_)
    · obtain ⟨t, u, d, rfl, _⟩ := h
      rfl
    · obtain ⟨t, u, d, rfl, ht, hu, hp, hn, hl, q⟩ := h
      refine ⟨_, PSs.nox (pss_cons (ps_if (pt_cmpR op_isN (pv 1) pe_non (nomark _)) (pss_one (ps_ret (pe_cmpR op_isN (pv 0) pe_non (nomark _)))) pss_nil)
      (pss_cons (ps_if (pt_val (pe_callB call_isi (by rfl) T.b_isinstance (by decide +kernel) (pa_cons (pv 1) (pa_cons (pe_bltn (v := .ty "str") (u := .type "str") (by rfl) T.b_str (by decide +kernel) rfl) pa_nil)))) (pss_one (ps_ret (pe_and (pe_callB call_isi (by rfl) T.b_isinstance (by decide +kernel) (pa_cons (pv 0) (pa_cons (pe_bltn (v := .ty "str") (u := .type "str") (by rfl) T.b_str (by decide +kernel) rfl) pa_nil))) (pe_one (pe_cmpR op_eq (pv 0) (pv 1) (nomark _)))))) pss_nil)
      (pss_cons (ps_if (pt_val (pe_callB call_isi (by rfl) T.b_isinstance (by decide +kernel) (pa_cons (pv 1) (pa_cons (pe_bltn (v := .ty "tuple") (u := .type "tuple") (by rfl) T.b_tuple (by decide +kernel) rfl) pa_nil)))) (pss_cons (ps_if (PW.pt (pw_or (pt_not (pt_val (pe_callB call_isi (by rfl) T.b_isinstance (by decide +kernel) (pa_cons (pv 0) (pa_cons (pe_bltn (v := .ty "tuple") (u := .type "tuple") (by rfl) T.b_tuple (by decide +kernel) rfl) pa_nil))))) (pw_or1 (pt_cmpR op_ne (pe_callB call_len (by rfl) T.b_len (by decide +kernel) (pa_cons (pv 0) pa_nil)) (pe_callB call_len (by rfl) T.b_len (by decide +kernel) (pa_cons (pv 1) pa_nil)) (nomark _))))) (pss_one (ps_ret pe_bl)) pss_nil)
      (pss_one (ps_ret (pe_callB (cr_all rfl) (by rfl) T.b_all (by decide +kernel) (pa_cons (pe_lc (own := [("k", 2)]) (g := (gName 2)) (tt := tYes) rfl sc__law_pv_same.nd (pi_range1 (by rfl) T.b_range (pa_cons (pe_callB call_len (by rfl) T.b_len (by decide +kernel) (pa_cons (pv 1) pa_nil)) pa_nil)) (blkOk_by (N := N__law_pv_same) (sc := defScope s__law_pv_same) (by decide +kernel)) (fun _ _ _ _ _ => (pg_name (i := 2) sc__law_pv_same.nd rfl (Or.inl rfl))) (fun _ _ _ _ _ => pts_nil) (fun _ _ _ _ _ => (pe_d D__law_pv_same (hr.mono (by omega)) (by rfl) (pa_cons (pe_ix (ixT (K := K) rfl) (pv 0) (pv 2) (fun _ _ => rfl)) (pa_cons (pe_ix (ixT (K := K) rfl) (pv 1) (pv 2) (fun _ _ => rfl)) pa_nil))))) pa_nil))))) pss_nil)
      (pss_one (ps_ret (pe_and (pe_d D__law_is_int (hr.mono (by omega)) (by rfl) (pa_cons (pv 0) pa_nil)) (pe_one (pe_cmpR op_eq (pv 0) (pv 1) (nomark _))))))))), ?_⟩
      match d, ht, hu, hp, hn, hl, q with
      | .none, ht, hu, hp, hn, hl, q =>
        obtain rfl := dp_non ht
        obtain rfl := dp_non hu
        refine ⟨_, rfl, rfl, _, rfl, ite2 (fun _ => ?_) (fun h => absurd rfl h)⟩
        exact ⟨_, rfl, rfl, q _ (Same.refl _)⟩
      | .str z, ht, hu, hp, hn, hl, q =>
        obtain rfl := dp_str ht
        obtain rfl := dp_str hu
        refine ⟨_, rfl, rfl, _, rfl, ite2 (fun h => (nomatch h)) (fun _ => ?_)⟩
        refine ⟨_, rfl, _, .ty "str", .type "str", .type "str", true, rfl, .ty _, .base (.str _), kit_ty (by decide +kernel), true, rfl, ite2 (fun _ => ?_) (fun h => absurd rfl h)⟩
        refine ⟨_, rfl, _, .ty "str", .type "str", .type "str", true, rfl, .ty _, .base (.str _), kit_ty (by decide +kernel), true, rfl, ite2 (fun _ => ?_) (fun h => absurd rfl h)⟩
        refine ⟨_, rfl, _, rfl, rfl, ?_⟩
        rw [decide_eq_true rfl]
        exact q _ (Same.refl _)

      | .int i, ht, hu, hp, hn, hl, q =>
        obtain rfl := dp_int ht
        obtain rfl := dp_int hu
        refine ⟨_, rfl, rfl, _, rfl, ite2 (fun h => (nomatch h)) (fun _ => ?_)⟩
        refine ⟨_, rfl, _, .ty "str", .type "int", .type "str", false, rfl, .ty _, .base (.int _), kit_ty (by decide +kernel), false, rfl, ite2 (fun h => (nomatch h)) (fun _ => ?_)⟩
        refine ⟨_, rfl, _, .ty "tuple", .type "int", .type "tuple", false, rfl, .ty _, .base (.int _), kit_ty (by decide +kernel), false, rfl, ite2 (fun h => (nomatch h)) (fun _ => ?_)⟩
        refine ⟨_, rfl, i, rfl, true, rfl, ite2 (fun _ => ?_) (fun h => absurd rfl h)⟩
        refine ⟨_, rfl, _, rfl, rfl, ?_⟩
        rw [decide_eq_true rfl]
        exact q _ (Same.refl _)

      | .tuple ds, ht, hu, hp, hn, hl, q =>
        obtain ⟨pt, xs, rfl, hpt, hA⟩ := dp_tup ht
        obtain ⟨pu, ys, rfl, hpu, hB⟩ := dp_tup hu
        have xl := dpA_len hA
        have yl := dpA_len hB
        refine ⟨_, rfl, rfl, _, rfl, ite2 (fun h => (nomatch h)) (fun _ => ?_)⟩
        refine ⟨_, rfl, _, .ty "str", .type "tuple", .type "str", false, rfl, .ty _, sqt_ty hpu, kit_ty (by decide +kernel), false, rfl, ite2 (fun h => (nomatch h)) (fun _ => ?_)⟩
        refine ⟨_, rfl, _, .ty "tuple", .type "tuple", .type "tuple", true, rfl, .ty _, sqt_ty hpu, kit_ty (by decide +kernel), true, rfl, ite2 (fun _ => ?_) (fun h => absurd rfl h)⟩
        have hl2 : (txs ds).length + 2 ≤ 60000 := by
          have : (40 :: (txs ds ++ [41])).length ≤ 60000 := hl
          rw [List.length_cons, List.length_append, List.length_singleton] at this
          omega
        have hr2 := txr_len ds
        have hsum := sum_txs ds
        have hdd : deps ds < n := by
          have : deps ds + 1 < n + 1 := hn
          omega
        refine ⟨_, rfl, _, .ty "tuple", .type "tuple", .type "tuple", true, rfl, .ty _, sqt_ty hpt, kit_ty (by decide +kernel), true, rfl, ite2 (fun h => (nomatch (show false = true from h))) (fun _ => ?_)⟩
        refine ⟨_, rfl, _, _, rfl, .inr ⟨_, hpt, rfl⟩, _, rfl, _, _, rfl, .inr ⟨_, hpu, rfl⟩, rfl, ?_⟩
        rw [xl, yl, decide_eq_true rfl]
        refine ⟨_, rfl, ite2 (fun h => (nomatch (show false = true from h))) (fun _ => ?_)⟩
        refine ⟨_, rfl, _, _, rfl, .inr ⟨_, hpu, rfl⟩, _, rfl, by omega, by omega, fun L hL => lc_range (lo := 0) (n := ys.length) (fun i H' => Same H H' ∧ H' L = some (.lst ((List.replicate i true).map V.bl))) ⟨same_new hL, upd_same⟩ ?_ ?_⟩
        · rintro i H1 hi ⟨s1, hL1⟩
          have hi' : i < ds.length := by omega
          have hdi : ds[i]? = some ds[i] := List.getElem?_eq_getElem hi'
          generalize ds[i] = d at hdi
          have hm := List.mem_of_getElem? hdi
          have h3 := tx_mem hm
          have h4 := deps_mem hm
          have ex : xs[i]? = some (xs[i]'(by omega)) := List.getElem?_eq_getElem _
          have ey : ys[i]? = some (ys[i]'(by omega)) := List.getElem?_eq_getElem _
          generalize xs[i]'(by omega) = x at ex
          generalize ys[i]'(by omega) = y at ey
          obtain ⟨d1, hd1, hx⟩ := dpA_at hA ex
          obtain ⟨d2, hd2, hy⟩ := dpA_at hB ey
          rw [hdi] at hd1 hd2
          cases hd1
          cases hd2
          refine ⟨rfl, _, rfl, _, rfl, pt, _, _, _, rfl, rfl, same_t s1 hpt, (by rw [Int.zero_add]; exact atI_nat ex), _, rfl, _, rfl, pu, _, _, _, rfl, rfl, same_t s1 hpu, (by rw [Int.zero_add]; exact atI_nat ey), x, y, d, rfl, dp_same s1 _ _ hx, dp_same s1 _ _ hy, pvs_mem hp hm, by omega, by omega, fun H2 s2 => ⟨_, s2 _ _ hL1, by rw [List.length_map, List.length_replicate]; exact line6 (by omega), same_mut (s1.trans s2) hL, ?_⟩⟩
          rw [upd_same, List.replicate_succ', List.map_append]
          rfl
        · rintro H1 ⟨s1, hL1⟩
          refine ⟨L, List.replicate ys.length true, rfl, SqL.of hL1, ?_⟩
          rw [show (List.replicate ys.length true).all id = true from by simp]
          exact q _ s1
      | .bool _, _, _, hp, _, _, _ => nomatch hp
      | .list _, _, _, hp, _, _, _ => nomatch hp
      | .dict _, _, _, hp, _, _, _ => nomatch hp
end
end Mt
namespace Mt
open PySem PySem.Spec PyProof.Rows L2 SX
/-! ### methods of a class, called by name -/
def MetP (P : Program) (w : World) (K : PySem.W.Frag) (mg : Str → Option Value) (base : Heap) (k : Nat) (C : Addr) (m : Str) (ps : List Str) (sp : Sp) : Prop :=
  ∃ f fd, Cls K C ∧ Meth K C m f ∧ FnOk P w K mg base CX0 k f fd ps sp ∧ Binds K fd ps []
section
variable {X : Cx} {k : Nat} {C : Addr} {m : Str} {ps : List Str} {sp : Sp} {o e : Expr} {es : List Expr} {ta : TE} {t : TA} {apos pos : Pos}
theorem pe_o {pl : Sem Bool} (M : MetP X.prog X.w X.K X.mg X.base k C m ps sp) (hr : Room k X.A) (he : PE X o ta) (ha : L2.PA X (e :: es) t)
    (hst : starEach (e :: es) X.env = (false, eval e X.env) :: starEach es X.env := by rfl) (hpl : (backTo pos (starEach es X.env)).any (·.1) = false := by rfl)
    (ht : eval (.Call (.Attribute o m apos) (e :: es) [] pos) X.env = (do
      let ov ← eval o X.env
      standAt apos.atName
      let (f, first) ← holding [ov] (getMethod ov m pl)
      callWith pos f first (backTo pos (starEach (e :: es) X.env)) (backToKw pos (keywordEach [] X.env))) := by rfl) :
    PE X (.Call (.Attribute o m apos) (e :: es) [] pos) (tMeth C m sp [] E0 ta t) := by
  obtain ⟨f, fd, c, hm, F, b⟩ := M
  exact pe_meth (pl := pl) he c hm F hr b .nil pass0 ha hst hpl ht
theorem pe_o0 {pl : Sem Bool} (M : MetP X.prog X.w X.K X.mg X.base k C m ps sp) (hr : Room k X.A) (he : PE X o ta)
    (ht : eval (.Call (.Attribute o m apos) [] [] pos) X.env = (do
      let ov ← eval o X.env
      standAt apos.atName
      let (f, first) ← holding [ov] (getMethod ov m pl)
      callWith pos f first (backTo pos (starEach [] X.env)) (backToKw pos (keywordEach [] X.env))) := by rfl) :
    PE X (.Call (.Attribute o m apos) [] [] pos) (tMeth C m sp [] E0 ta tNil) := by
  obtain ⟨f, fd, c, hm, F, b⟩ := M
  exact pe_meth0 (pl := pl) he c hm F hr b .nil pass0 ht
end
abbrev FnM (K : PySem.W.Frag) (x q : Str) (st : Stmt) (f : Addr) (fd : FuncData) : Prop := FunD K x q (defArgs st) (defBody st) (defScope st) [] [] f fd
theorem nt_ins (C dx : Addr) (fs : List (Str × V)) : NT (.ins C dx fs) := ⟨fun _ e => (nomatch e), fun _ _ e => (nomatch e)⟩
/-! ### the reader: its class's defs -/
abbrev s_r0 : Stmt := inClass (topS 6) 0
abbrev s_r1 : Stmt := inClass (topS 6) 1
abbrev s_r2 : Stmt := inClass (topS 6) 2
abbrev s_r3 : Stmt := inClass (topS 6) 3
abbrev s_r4 : Stmt := inClass (topS 6) 4
abbrev s_r6 : Stmt := inClass (topS 6) 6
abbrev s_r9 : Stmt := inClass (topS 6) 9
theorem sc_r0 : FnScope ["self", "tokens"] ["self", "tokens"] (defScope s_r0) := ⟨rfl, rfl, rfl, by decide +kernel, rfl, by decide +kernel, by decide +kernel⟩
theorem sc_r1 : FnScope ["self"] ["self"] (defScope s_r1) := ⟨rfl, rfl, rfl, by decide +kernel, rfl, by decide +kernel, by decide +kernel⟩
theorem sc_r2 : FnScope ["self", "token"] ["self"] (defScope s_r2) := ⟨rfl, rfl, rfl, by decide +kernel, rfl, by decide +kernel, by decide +kernel⟩
theorem sc_r3 : FnScope ["self", "word"] ["self", "word"] (defScope s_r3) := ⟨rfl, rfl, rfl, by decide +kernel, rfl, by decide +kernel, by decide +kernel⟩
theorem sc_r4 : FnScope ["self", "word"] ["self", "word"] (defScope s_r4) := ⟨rfl, rfl, rfl, by decide +kernel, rfl, by decide +kernel, by decide +kernel⟩
theorem sc_r6 : FnScope ["self"] ["self"] (defScope s_r6) := ⟨rfl, rfl, rfl, by decide +kernel, rfl, by decide +kernel, by decide +kernel⟩
theorem sc_r9 : FnScope ["self"] ["self"] (defScope s_r9) := ⟨rfl, rfl, rfl, by decide +kernel, rfl, by decide +kernel, by decide +kernel⟩
theorem n_ta : ¬ ("tokens" : Str) = "at" := by decide +kernel
theorem b_at : (("at" : Str) == "tokens") = false := by decide +kernel
def rf (T : List Nat) (a : Nat) : List (Str × V) := [("tokens", .str (S T)), ("at", .int (a : Int))]
theorem rf_t (T : List Nat) (a : Nat) : (rf T a).lookup ("tokens" : Str) = some (.str (S T)) := by
  unfold rf
  simp [List.lookup]
theorem rf_a (T : List Nat) (a : Nat) : (rf T a).lookup ("at" : Str) = some (.int (a : Int)) := by
  unfold rf
  simp [List.lookup, b_at]
theorem rf_set (T : List Nat) (a : Nat) (b : Int) : putF "at" (.int b) (rf T a) = ([("tokens", .str (S T)), ("at", .int b)] : List (Str × V)) := by
  unfold rf
  simp [putF, n_ta]
theorem rf_step (T : List Nat) (a : Nat) : putF "at" (.int ((a : Int) + 1)) (rf T a) = rf T (a + 1) := by
  rw [rf_set]
  unfold rf
  rw [show (a : Int) + 1 = ((a + 1 : Nat) : Int) by omega]
theorem rf_no {m : Str} (T : List Nat) (a : Nat) (h1 : (m == ("tokens" : Str)) = false) (h2 : (m == ("at" : Str)) = false) : (rf T a).lookup m = none := by
  unfold rf
  simp [List.lookup, h1, h2]
theorem no_ah (T : List Nat) (a : Nat) : (rf T a).lookup ("ahead" : Str) = none := rf_no T a (by decide +kernel) (by decide +kernel)
theorem rf_init (T : List Nat) : putF "at" (.int 0) (putF "tokens" (.str (S T)) []) = rf T 0 := by
  simp [putF, n_ta]
  rfl
theorem S_inj {a b : List Nat} (h : S a = S b) : a = b := by
  have := congrArg (fun z : Str => z.cps.toList) h
  exact this
/-- the sign ahead, or none -/
def chA (T : List Nat) (a : Nat) : List Nat := (T.drop a).take 1
theorem chA_at {T : List Nat} {a c : Nat} (h : T[a]? = some c) : chA T a = [c] := by
  obtain ⟨hl, e⟩ := List.getElem?_eq_some_iff.mp h
  unfold chA
  rw [List.drop_eq_getElem_cons hl, e]
  rfl
theorem chA_end {T : List Nat} {a : Nat} (h : T.length ≤ a) : chA T a = [] := by
  unfold chA
  rw [List.drop_of_length_le h]
  rfl
def isDg : List Nat → Bool
  | [c] => decide (48 ≤ c) && decide (c ≤ 57)
  | _ => false
theorem digs (c : Nat) : decide (c ∈ (Str.ofString "0123456789").cps.toList) = isDg [c] := by
  rw [show (Str.ofString "0123456789").cps.toList = [48, 49, 50, 51, 52, 53, 54, 55, 56, 57] by decide +kernel]
  show _ = (decide (48 ≤ c) && decide (c ≤ 57))
  rw [Bool.eq_iff_iff, Bool.and_eq_true, decide_eq_true_eq, decide_eq_true_eq, decide_eq_true_eq]
  simp only [List.mem_cons, List.not_mem_nil, or_false]
  omega
structure RTx (K : PySem.W.Frag) (C : Addr) : Prop where
  cl : Cls K C
  nT : NoAttr K C "tokens"
  nA : NoAttr K C "at"
def spR0 (C : Addr) : Sp := fun vs H Q _ => ∃ (p dx : Addr) (T : List Nat), vs = [.ref p, .str (S T)] ∧ H p = some (.ins C dx []) ∧ ∀ H', Keep p H H' → H' p = some (.ins C dx (rf T 0)) → Q .non H'
def spR1 (C : Addr) : Sp := fun vs H Q _ => ∃ (p dx : Addr) (T : List Nat) (a : Nat), vs = [.ref p] ∧ H p = some (.ins C dx (rf T a)) ∧ T.length ≤ 60000 ∧ Q (.str (S (chA T a))) H
def spR2 (C : Addr) : Sp := fun vs H Q _ => ∃ (p dx : Addr) (T : List Nat) (a : Nat), vs = [.ref p] ∧ H p = some (.ins C dx (rf T a)) ∧ T.length ≤ 60000 ∧ Q (.str (S (chA T a))) (upd H p (.ins C dx (rf T (a + 1))))
def spR3 (C : Addr) : Sp := fun vs H Q _ => ∃ (p dx : Addr) (T : List Nat) (a : Nat), vs = [.ref p, .str (S (chA T a))] ∧ H p = some (.ins C dx (rf T a)) ∧ T.length ≤ 60000 ∧ Q .non (upd H p (.ins C dx (rf T (a + 1))))
def spR4 (C : Addr) : Sp := fun vs H Q _ => ∃ (p dx : Addr) (T : List Nat) (a : Nat) (c : List Nat), vs = [.ref p, .str (S c)] ∧ H p = some (.ins C dx (rf T a)) ∧ T.length ≤ 60000 ∧ (chA T a = c → Q (.bl true) (upd H p (.ins C dx (rf T (a + 1))))) ∧ (chA T a ≠ c → Q (.bl false) H)
def spR6 (C : Addr) : Sp := fun vs H Q _ => ∃ (p dx : Addr) (T : List Nat) (a : Nat), vs = [.ref p] ∧ H p = some (.ins C dx (rf T a)) ∧ T.length ≤ 60000 ∧ Q (.bl (isDg (chA T a))) H
def spR9 (C : Addr) : Sp := fun vs H Q _ => ∃ (p dx : Addr) (T : List Nat) (a : Nat), vs = [.ref p] ∧ H p = some (.ins C dx (rf T a)) ∧ T.length ≤ 60000 ∧ T.length ≤ a ∧ Q .non H
section
variable {P : Program} {w : World} {K : PySem.W.Frag} {mg : Str → Option Value} {base : Heap} {C : Addr}
theorem ok_r0 (X : RTx K C) {f : Addr} {fd : FuncData} (F : FnM K "__init__" "Reader.__init__" s_r0 f fd) : FnOk P w K mg base CX0 1 f fd ["self", "tokens"] (spR0 C) := by
  refine F.ok sc_r0 (fun vs H Q E h => ?_) (fun cdv A outer s H vs Q E hr h => ?_)
  · obtain ⟨p, dx, T, rfl, _⟩ := h
    rfl
  · obtain ⟨p, dx, T, rfl, hp, q⟩ := h
    refine ⟨_, pss_cons (ps_fld (pv 0) (pv 1) rfl) (pss_one (ps_fld (pv 0) pe_int rfl)), ?_⟩
    refine ⟨_, rfl, _, rfl, p, C, dx, [], rfl, hp, X.cl, X.nT, by show 0 < 1000; decide, ?_⟩
    refine ⟨_, rfl, p, C, dx, _, rfl, upd_same, X.cl, X.nA, by show 1 < 1000; decide, ?_⟩
    refine q _ (fun x o e n => ?_) ?_
    · rw [upd_ne n, upd_ne n]
      exact e
    · rw [upd_same, rf_init]
theorem ok_r1 (T : Txt K mg) (X : RTx K C) {f : Addr} {fd : FuncData} (F : FnM K "ahead" "Reader.ahead" s_r1 f fd) : FnOk P w K mg base CX0 1 f fd ["self"] (spR1 C) := by
  refine F.ok sc_r1 (fun vs H Q E h => ?_) (fun cdv A outer s H vs Q E hr h => ?_)
  · obtain ⟨p, dx, T, a, rfl, _⟩ := h
    rfl
  · obtain ⟨p, dx, t, a, rfl, hp, tl, q⟩ := h
    refine ⟨_, PSs.nox (pss_cons (ps_if (pt_cmpR op_lt (pe_fld (pv 0) rfl) (pe_callB call_len (by rfl) T.b_len (by decide +kernel) (pa_cons (pe_fld (pv 0) rfl) pa_nil)) (nomark _)) (pss_one (ps_ret (pe_ix ix_str (pe_fld (pv 0) rfl) (pe_fld (pv 0) rfl) (fun _ _ => rfl)))) pss_nil) (pss_one (ps_ret pe_str))), ?_⟩
    have len : (S t).length = t.length := S_len t
    refine ⟨_, rfl, p, C, dx, _, _, rfl, hp, X.cl, X.nA, rf_a _ _, _, rfl, p, C, dx, _, _, rfl, hp, X.cl, X.nT, rf_t _ _, _, (S t).length, rfl, ⟨by rw [len]; exact line5 (by omega), rfl⟩, ?_⟩
    rw [len]
    refine ⟨_, _, rfl, rfl, _, rfl, ite2 (fun h => ?_) (fun h => ?_)⟩
    · have ha : a < t.length := by
        have := of_decide_eq_true h
        omega
      have e : t[a]? = some t[a] := List.getElem?_eq_getElem ha
      generalize t[a] = c at e
      rw [chA_at e] at q
      exact ⟨_, rfl, p, C, dx, _, _, rfl, hp, X.cl, X.nT, rf_t _ _, _, rfl, p, C, dx, _, _, rfl, hp, X.cl, X.nA, rf_a _ _, S t, a, c, rfl, rfl, by rw [len]; exact line5 (by omega), atI_nat e, q⟩
    · have ha : t.length ≤ a := by
        have := of_decide_eq_false (Bool.eq_false_iff.mpr h)
        omega
      rw [chA_end ha] at q
      show Q (.str (Str.ofString "")) H
      rw [show Str.ofString "" = S [] by decide +kernel]
      exact q
theorem ok_r2 (X : RTx K C) (M1 : MetP P w K mg base 1 C "ahead" ["self"] (spR1 C)) {f : Addr} {fd : FuncData} (F : FnM K "read_any" "Reader.read_any" s_r2 f fd) : FnOk P w K mg base CX0 2 f fd ["self"] (spR2 C) := by
  refine F.ok sc_r2 (fun vs H Q E h => ?_) (fun cdv A outer s H vs Q E hr h => ?_)
  · obtain ⟨p, dx, T, a, rfl, _⟩ := h
    rfl
  · obtain ⟨p, dx, t, a, rfl, hp, tl, q⟩ := h
    refine ⟨_, PSs.nox (pss_cons (ps_set (i := 1) sc_r2.nd rfl (Or.inl rfl) (pe_o0 M1 hr (pv 0))) (pss_cons (ps_fldaug (pv 0) pe_int in_add) (pss_one (ps_ret (pv 1))))), ?_⟩
    refine ⟨_, rfl, p, dx, _, rfl, hp, no_ah _ _, p, dx, t, a, rfl, hp, tl, ?_⟩
    refine ⟨_, rfl, p, C, dx, _, _, rfl, hp, X.cl, X.nA, rf_a _ _, _, _, rfl, rfl, dx, _, hp, by show 2 < 1000; decide, ?_⟩
    rw [rf_step]
    exact ⟨_, rfl, q⟩
theorem ok_r3 (X : RTx K C) (M1 : MetP P w K mg base 1 C "ahead" ["self"] (spR1 C)) {f : Addr} {fd : FuncData} (F : FnM K "expect" "Reader.expect" s_r3 f fd) : FnOk P w K mg base CX0 2 f fd ["self", "word"] (spR3 C) := by
  refine F.ok sc_r3 (fun vs H Q E h => ?_) (fun cdv A outer s H vs Q E hr h => ?_)
  · obtain ⟨p, dx, T, a, rfl, _⟩ := h
    rfl
  · obtain ⟨p, dx, t, a, rfl, hp, tl, q⟩ := h
    refine ⟨_, PSs.nox (pss_cons (ps_if (pt_cmpR op_ne (pe_o0 M1 hr (pv 0)) (pv 1) (nomark _)) (pss_one ps_never) pss_nil) (pss_one (ps_fldaug (pv 0) pe_int in_add))), ?_⟩
    refine ⟨_, rfl, p, dx, _, rfl, hp, no_ah _ _, p, dx, t, a, rfl, hp, tl, _, rfl, rfl, ?_⟩
    rw [decide_eq_true rfl]
    refine ⟨_, rfl, ite2 (fun h => (nomatch (show false = true from h))) (fun _ => ?_)⟩
    refine ⟨_, rfl, p, C, dx, _, _, rfl, hp, X.cl, X.nA, rf_a _ _, _, _, rfl, rfl, dx, _, hp, by show 2 < 1000; decide, ?_⟩
    rw [rf_step]
    exact q
theorem ok_r4 (X : RTx K C) (M1 : MetP P w K mg base 1 C "ahead" ["self"] (spR1 C)) {f : Addr} {fd : FuncData} (F : FnM K "accept" "Reader.accept" s_r4 f fd) : FnOk P w K mg base CX0 2 f fd ["self", "word"] (spR4 C) := by
  refine F.ok sc_r4 (fun vs H Q E h => ?_) (fun cdv A outer s H vs Q E hr h => ?_)
  · obtain ⟨p, dx, T, a, c, rfl, _⟩ := h
    rfl
  · obtain ⟨p, dx, t, a, c, rfl, hp, tl, q1, q2⟩ := h
    refine ⟨_, PSs.nox (pss_cons (ps_if (pt_cmpR op_ne (pe_o0 M1 hr (pv 0)) (pv 1) (nomark _)) (pss_one (ps_ret pe_bl)) pss_nil) (pss_cons (ps_fldaug (pv 0) pe_int in_add) (pss_one (ps_ret pe_bl)))), ?_⟩
    refine ⟨_, rfl, p, dx, _, rfl, hp, no_ah _ _, p, dx, t, a, rfl, hp, tl, _, rfl, rfl, ?_⟩
    by_cases e : chA t a = c
    · subst e
      rw [decide_eq_true rfl]
      refine ⟨_, rfl, ite2 (fun h => (nomatch (show false = true from h))) (fun _ => ?_)⟩
      refine ⟨_, rfl, p, C, dx, _, _, rfl, hp, X.cl, X.nA, rf_a _ _, _, _, rfl, rfl, dx, _, hp, by show 2 < 1000; decide, ?_⟩
      rw [rf_step]
      exact q1 rfl
    · have e2 : ¬ (V.str (S (chA t a)) = V.str (S c)) := fun h => e (S_inj (V.str.inj h))
      rw [decide_eq_false e2]
      exact ⟨_, rfl, ite2 (fun _ => q2 e) (fun h => absurd rfl h)⟩
theorem ok_r6 (T : Txt K mg) (M1 : MetP P w K mg base 1 C "ahead" ["self"] (spR1 C)) {f : Addr} {fd : FuncData} (F : FnM K "is_at_number" "Reader.is_at_number" s_r6 f fd) : FnOk P w K mg base CX0 2 f fd ["self"] (spR6 C) := by
  refine F.ok sc_r6 (fun vs H Q E h => ?_) (fun cdv A outer s H vs Q E hr h => ?_)
  · obtain ⟨p, dx, T, a, rfl, _⟩ := h
    rfl
  · obtain ⟨p, dx, t, a, rfl, hp, tl, q⟩ := h
    refine ⟨_, PSs.nox (pss_one (ps_ret (pe_and (pe_cmpR op_eq (pe_callB call_len (by rfl) T.b_len (by decide +kernel) (pa_cons (pe_o0 M1 hr (pv 0)) pa_nil)) pe_int (nomark _)) (pe_one (pe_cmpR op_in_sign (pe_o0 M1 hr (pv 0)) (pe_gs T.g_DIGITS (by rfl)) (by rfl)))))), ?_⟩
    refine ⟨_, rfl, p, dx, _, rfl, hp, no_ah _ _, p, dx, t, a, rfl, hp, tl, ?_⟩
    have cl : (chA t a).length ≤ 1 := by
      unfold chA
      rw [List.length_take]
      exact Nat.min_le_left _ _
    refine ⟨_, (S (chA t a)).length, rfl, ⟨by rw [S_len]; exact line5 (by omega), rfl⟩, rfl, ?_⟩
    rw [S_len]
    by_cases ha : a < t.length
    · have e : t[a]? = some t[a] := List.getElem?_eq_getElem ha
      generalize t[a] = c at e
      have hc := chA_at e
      have h1 : V.int (((chA t a).length : Nat) : Int) = V.int 1 := by
        rw [hc]
        rfl
      rw [decide_eq_true h1]
      refine ⟨_, rfl, iteT ?_⟩
      refine ⟨_, rfl, p, dx, _, rfl, hp, no_ah _ _, p, dx, t, a, rfl, hp, tl, ?_⟩
      rw [hc] at q ⊢
      refine ⟨c, _, rfl, rfl, ?_⟩
      rw [digs c]
      exact q
    · have hc := chA_end (Nat.le_of_not_lt ha)
      have h1 : ¬ V.int (((chA t a).length : Nat) : Int) = V.int 1 := by
        rw [hc]
        decide
      rw [decide_eq_false h1]
      refine ⟨_, rfl, iteF ?_⟩
      rw [hc] at q
      exact q
theorem ok_r9 (T : Txt K mg) (X : RTx K C) {f : Addr} {fd : FuncData} (F : FnM K "finish" "Reader.finish" s_r9 f fd) : FnOk P w K mg base CX0 1 f fd ["self"] (spR9 C) := by
  refine F.ok sc_r9 (fun vs H Q E h => ?_) (fun cdv A outer s H vs Q E hr h => ?_)
  · obtain ⟨p, dx, T, a, rfl, _⟩ := h
    rfl
  · obtain ⟨p, dx, t, a, rfl, hp, tl, e, q⟩ := h
    refine ⟨_, PSs.nox (pss_one (ps_if (pt_cmpR op_lt (pe_fld (pv 0) rfl) (pe_callB call_len (by rfl) T.b_len (by decide +kernel) (pa_cons (pe_fld (pv 0) rfl) pa_nil)) (nomark _)) (pss_one ps_never) pss_nil)), ?_⟩
    have len : (S t).length = t.length := S_len t
    refine ⟨_, rfl, p, C, dx, _, _, rfl, hp, X.cl, X.nA, rf_a _ _, _, rfl, p, C, dx, _, _, rfl, hp, X.cl, X.nT, rf_t _ _, _, (S t).length, rfl, ⟨by rw [len]; exact line5 (by omega), rfl⟩, ?_⟩
    rw [len]
    refine ⟨_, _, rfl, rfl, _, rfl, ite2 (fun h => ?_) (fun h => q)⟩
    have := of_decide_eq_true h
    omega
end
end Mt
namespace Mt
open PySem PySem.Spec PyProof.Rows L2 SX
/-- what the top tells of the reader -/
structure Rdr (P : Program) (w : World) (K : PySem.W.Frag) (mg : Str → Option Value) (base : Heap) (C fI : Addr) (fdI : FuncData) : Prop where
  mgC : mg "Reader" = some (.ref C)
  mk_ : Mk K C fI
  fI_ : FnOk P w K mg base CX0 1 fI fdI ["self", "tokens"] (spR0 C)
  bI : Binds K fdI ["self", "tokens"] []
  m_ahead : MetP P w K mg base 1 C "ahead" ["self"] (spR1 C)
  m_read_any : MetP P w K mg base 2 C "read_any" ["self"] (spR2 C)
  m_expect : MetP P w K mg base 2 C "expect" ["self", "word"] (spR3 C)
  m_accept : MetP P w K mg base 2 C "accept" ["self", "word"] (spR4 C)
  m_is_at_number : MetP P w K mg base 2 C "is_at_number" ["self"] (spR6 C)
  m_finish : MetP P w K mg base 1 C "finish" ["self"] (spR9 C)
theorem no_an (T : List Nat) (a : Nat) : (rf T a).lookup ("read_any" : Str) = none := rf_no T a (by decide +kernel) (by decide +kernel)
theorem no_ex (T : List Nat) (a : Nat) : (rf T a).lookup ("expect" : Str) = none := rf_no T a (by decide +kernel) (by decide +kernel)
theorem no_ac (T : List Nat) (a : Nat) : (rf T a).lookup ("accept" : Str) = none := rf_no T a (by decide +kernel) (by decide +kernel)
theorem no_nu (T : List Nat) (a : Nat) : (rf T a).lookup ("is_at_number" : Str) = none := rf_no T a (by decide +kernel) (by decide +kernel)
theorem no_fi (T : List Nat) (a : Nat) : (rf T a).lookup ("finish" : Str) = none := rf_no T a (by decide +kernel) (by decide +kernel)
/-- the text at a reads l -/
def AtT (T : List Nat) (a : Nat) (l : List Nat) : Prop := ∃ r, T.drop a = l ++ r
theorem AtT.cons {T : List Nat} {a c : Nat} {l : List Nat} (h : AtT T a (c :: l)) : chA T a = [c] ∧ AtT T (a + 1) l ∧ a < T.length := by
  obtain ⟨r, e⟩ := h
  refine ⟨?_, ⟨r, ?_⟩, ?_⟩
  · unfold chA
    rw [e]
    rfl
  · rw [← List.drop_drop, e]
    rfl
  · have := congrArg List.length e
    rw [List.length_drop, List.cons_append, List.length_cons] at this
    omega
theorem AtT.app {T : List Nat} {a : Nat} {l m : List Nat} (h : AtT T a (l ++ m)) : AtT T a l ∧ AtT T (a + l.length) m := by
  obtain ⟨r, e⟩ := h
  refine ⟨⟨m ++ r, by rw [e, List.append_assoc]⟩, ⟨r, ?_⟩⟩
  rw [← List.drop_drop, e, List.append_assoc, List.drop_left]
theorem AtT.get {T : List Nat} {a i c : Nat} {l : List Nat} (h : AtT T a l) (e : l[i]? = some c) : chA T (a + i) = [c] := by
  obtain ⟨r, e2⟩ := h
  refine chA_at ?_
  have : (T.drop a)[i]? = some c := by
    rw [e2, List.getElem?_append_left (List.getElem?_eq_some_iff.mp e).1]
    exact e
  rwa [List.getElem?_drop] at this
theorem join_signs : ∀ z : List Nat, TL.joinL [] (z.map fun c => [c]) = z
  | [] => rfl
  | [c] => rfl
  | c :: d :: r => by
    show [c] ++ ([] ++ TL.joinL [] ((d :: r).map fun c => [c])) = c :: d :: r
    rw [join_signs (d :: r)]
    rfl
theorem join_S1 (z : List Nat) : Txt.join (S []) (z.map fun c => S [c]) = S z := TL.ext_tl (by
  rw [TL.join_eq, TL.tl_join, List.map_map]
  exact join_signs z)
theorem sum1 : ∀ z : List Nat, (z.map fun _ => 1).sum = z.length
  | [] => rfl
  | _ :: r => by
    rw [List.map_cons, List.sum_cons, sum1 r, List.length_cons]
    omega
def spStr (C : Addr) : Sp := fun vs H Q _ => ∃ (p dx : Addr) (T : List Nat) (a : Nat) (z : List Nat), vs = [.ref p] ∧ H p = some (.ins C dx (rf T a)) ∧ T.length ≤ 60000 ∧ AtT T a (34 :: (z ++ [34])) ∧ (∀ c ∈ z, 32 ≤ c ∧ c ≤ 126 ∧ c ≠ 34) ∧
  ∀ H', Keep p H H' → H' p = some (.ins C dx (rf T (a + (z.length + 2)))) → Q (.str (S z)) H'
theorem iv_str (c : Nat) : (!decide ((S [c]).cps.toList < (S [32]).cps.toList)) = decide (32 ≤ c) ∧ (!decide ((Str.ofString "~").cps.toList < (S [c]).cps.toList)) = decide (c ≤ 126) := by
  rw [show (Str.ofString "~").cps.toList = [126] by decide +kernel]
  refine ⟨?_, ?_⟩
  · show (!decide ([c] < [32])) = _
    rw [show decide (([c] : List Nat) < [32]) = decide (c < 32) from ?_]
    · by_cases h : c < 32
      · rw [decide_eq_true h, decide_eq_false (by omega)]
        rfl
      · rw [decide_eq_false h, decide_eq_true (by omega)]
        rfl
    · rw [Bool.eq_iff_iff, decide_eq_true_eq, decide_eq_true_eq, List.cons_lt_cons_iff]
      simp
  · show (!decide (([126] : List Nat) < [c])) = _
    rw [show decide (([126] : List Nat) < [c]) = decide (126 < c) from ?_]
    · by_cases h : 126 < c
      · rw [decide_eq_true h, decide_eq_false (by omega)]
        rfl
      · rw [decide_eq_false h, decide_eq_true (by omega)]
        rfl
    · rw [Bool.eq_iff_iff, decide_eq_true_eq, decide_eq_true_eq, List.cons_lt_cons_iff]
      simp
section
variable {P : Program} {w : World} {K : PySem.W.Frag} {mg : Str → Option Value} {base : Heap} {C fI : Addr} {fdI : FuncData}
theorem ok_read_string (T : Txt K mg) (Rd : Rdr P w K mg base C fI fdI) {f : Addr} {fd : FuncData} (F : FnP K "read_string" s_read_string f fd) : FnOk P w K mg base CX0 3 f fd ["reader"] (spStr C) := by
  refine F.ok sc_read_string (fun vs H Q E h => ?_) (fun cdv A outer s H vs Q E hr h => ?_)
  · obtain ⟨p, dx, t, a, z, rfl, _⟩ := h
    rfl
  · obtain ⟨p, dx, t, a, z, rfl, hp, tl, hat, hz, q⟩ := h
    refine ⟨_, PSs.nox (pss_cons (ps_expr (pe_o Rd.m_expect (hr.mono (by decide)) (pv 0) (pa_cons (pe_gs T.g_QUOTE (by rfl)) pa_nil)))
      (pss_cons (ps_set (i := 1) sc_read_string.nd rfl (Or.inl rfl) (pe_lst pa_nil))
      (pss_cons (ps_while PassesOwn.never (PW.pt (pw_and (pt_chain op_le_str op_le_str pe_str (pe_o0 Rd.m_ahead (hr.mono (by decide)) (pv 0)) pe_str) (pw_and1 (pt_cmpR op_ne (pe_o0 Rd.m_ahead (hr.mono (by decide)) (pv 0)) (pe_gs T.g_QUOTE (by rfl)) (nomark _))))) (pss_one (ps_expr (pe_bm PySem.F.plainAttrs_list PySem.F.slot_list_append PySem.F.type_list_append mt_append (pv 1) (pa_cons (pe_o0 Rd.m_read_any (hr.mono (by decide)) (pv 0)) pa_nil)))))
      (pss_cons (ps_expr (pe_o Rd.m_expect (hr.mono (by decide)) (pv 0) (pa_cons (pe_gs T.g_QUOTE (by rfl)) pa_nil)))
      (pss_one (ps_ret (pe_join pe_str (pv 1)))))))), ?_⟩
    have eQ : Str.ofString "\"" = S [34] := by decide +kernel
    have eB : Str.ofString " " = S [32] := by decide +kernel
    have eE : Str.ofString "" = S [] := by decide +kernel
    obtain ⟨c0, h1, a1⟩ := hat.cons
    obtain ⟨hz1, hz2⟩ := h1.app
    obtain ⟨c2, _, a2⟩ := hz2.cons
    rw [eQ, eB, eE]
    refine ⟨_, rfl, p, dx, _, rfl, hp, no_ex _ _, p, dx, t, a, by rw [c0]; rfl, hp, tl, ?_⟩
    have hp1 := upd_same (H := H) (a := p) (o := .ins C dx (rf t (a + 1)))
    have kp1 : Keep p H (upd H p (.ins C dx (rf t (a + 1)))) := Keep.refl.set
    generalize upd H p (.ins C dx (rf t (a + 1))) = H1 at hp1 kp1
    refine ⟨Nat.zero_le _, fun L hL => ?_⟩
    have Lp : L ≠ p := fun e => by
      rw [e, hp1] at hL
      cases hL
    have L0 : H L = none := by
      cases e : H L with
      | none => rfl
      | some o =>
        rw [kp1 L o e Lp] at hL
        cases hL
    refine ⟨fun m σ H' => ∃ i : Nat, i ≤ z.length ∧ m = z.length - i ∧ σ = [some (.ref p), some (.ref L)] ∧ Keep p H H' ∧ H' p = some (.ins C dx (rf t (a + 1 + i))) ∧ H' L = some (.lst ((z.take i).map fun c => V.str (S [c]))), ⟨_, 0, Nat.zero_le _, rfl, rfl, kp1.trans (Keep.new hL), by rw [upd_ne Lp.symm]; exact hp1, upd_same⟩, ?_⟩
    rintro m σ H2 ⟨i, hi, rfl, rfl, k2, hp2, hL2⟩
    have hc' : ∃ c : Nat, chA t (a + 1 + i) = [c] ∧ 32 ≤ c ∧ c ≤ 126 ∧ (c ≠ 34 → z[i]? = some c ∧ i < z.length) ∧ (c = 34 → i = z.length) := by
      by_cases hi2 : i < z.length
      · have e : z[i]? = some z[i] := List.getElem?_eq_getElem hi2
        generalize z[i] = c at e
        have := hz c (List.mem_of_getElem? e)
        exact ⟨c, hz1.get e, this.1, this.2.1, fun _ => ⟨e, hi2⟩, fun k => absurd k this.2.2⟩
      · have e : i = z.length := by omega
        subst e
        exact ⟨34, c2, by decide, by decide, fun k => absurd rfl k, fun _ => rfl⟩
    obtain ⟨c, hc, c32, c126, cz, ce⟩ := hc'
    refine ⟨_, rfl, p, dx, _, rfl, hp2, no_ah _ _, p, dx, t, _, rfl, hp2, tl, ?_⟩
    rw [hc]
    refine ⟨_, _, rfl, rfl, ?_⟩
    rw [(iv_str c).1, decide_eq_true c32]
    refine ⟨_, rfl, ite2 (fun _ => ?_) (fun h => absurd rfl h)⟩
    refine ⟨_, _, rfl, rfl, ?_⟩
    rw [(iv_str c).2, decide_eq_true c126]
    refine ⟨_, rfl, ite2 (fun _ => ?_) (fun h => absurd rfl h)⟩
    refine ⟨_, rfl, p, dx, _, rfl, hp2, no_ah _ _, p, dx, t, _, rfl, hp2, tl, rfl, ?_⟩
    rw [hc]
    by_cases c34 : c = 34
    · have ei := ce c34
      subst c34
      subst ei
      rw [decide_eq_true rfl]
      refine ⟨_, rfl, ite2 (fun h => (nomatch (show false = true from h))) (fun _ => ?_)⟩
      refine ⟨_, rfl, p, dx, _, rfl, hp2, no_ex _ _, p, dx, t, _, by rw [c2]; rfl, hp2, tl, ?_⟩
      have hp3 := upd_same (H := H2) (a := p) (o := .ins C dx (rf t (a + 1 + z.length + 1)))
      have k3 : Keep p H (upd H2 p (.ins C dx (rf t (a + 1 + z.length + 1)))) := k2.set
      have hL3 : (upd H2 p (.ins C dx (rf t (a + 1 + z.length + 1)))) L = some (.lst ((z.take z.length).map fun c => V.str (S [c]))) := by
        rw [upd_ne Lp]
        exact hL2
      generalize upd H2 p (.ins C dx (rf t (a + 1 + z.length + 1))) = H3 at hp3 k3 hL3
      rw [List.take_length] at hL3
      refine ⟨⟨_, rfl⟩, _, rfl, _, L, z.map fun c => S [c], rfl, rfl, .inl (SqL.of (by rw [hL3, List.map_map]; rfl)), ?_, ?_⟩
      · rw [List.map_map, List.length_map]
        have : (z.map ((fun x => x.length) ∘ fun c => S [c])).sum = z.length := by
          exact sum1 z
        rw [this]
        show z.length + z.length * 0 ≤ _
        omega
      · rw [join_S1]
        refine q _ k3 ?_
        rw [hp3, show a + 1 + z.length + 1 = a + (z.length + 2) by omega]
    · obtain ⟨e, hi2⟩ := cz c34
      have ne : ¬ (V.str (S [c]) = V.str (S [34])) := fun h => c34 (List.cons.inj (S_inj (V.str.inj h))).1
      rw [decide_eq_false ne]
      refine ⟨_, rfl, ite2 (fun _ => ?_) (fun h => absurd rfl h)⟩
      refine ⟨fun σ' H' => σ' = [some (.ref p), some (.ref L)] ∧ Keep p H H' ∧ H' p = some (.ins C dx (rf t (a + 1 + (i + 1)))) ∧ H' L = some (.lst ((z.take (i + 1)).map fun c => V.str (S [c]))), fun σ' H' ⟨e, k, g1, g2⟩ => ⟨z.length - (i + 1), by omega, i + 1, by omega, rfl, e, k, g1, g2⟩, ?_⟩
      have hL3 : (upd H2 p (.ins C dx (rf t (a + 1 + i + 1)))) L = some (.lst ((z.take i).map fun c => V.str (S [c]))) := by
        rw [upd_ne Lp]
        exact hL2
      refine ⟨_, rfl, .inl ⟨rfl, _, SqL.of hL2⟩, _, rfl, p, dx, _, rfl, hp2, no_an _ _, p, dx, t, _, rfl, hp2, tl, L, _, _, rfl, rfl, hL3, by rw [List.length_map, List.length_take]; exact line6 (by omega), rfl, ?_, ?_, ?_⟩
      · intro b o hb nb
        rw [upd_ne (ne_of_none hb L0), upd_ne nb]
        exact k2 b o hb nb
      · rw [upd_ne Lp.symm, upd_same]
        rfl
      · rw [upd_same, take_snoc e, List.map_append, hc]
        rfl
end
end Mt
namespace Mt
open PySem PySem.Spec PyProof.Rows L2 SX
theorem num_head : ∀ n : Nat, 0 < n → ∃ c r, TL.numL n = c :: r ∧ 49 ≤ c ∧ c ≤ 57 := by
  intro n
  induction n using Nat.strongRecOn with
  | _ n ih =>
    intro h
    by_cases k : n < 10
    · exact ⟨48 + n, [], TL.numL_lt k, by omega, by omega⟩
    · obtain ⟨c, r, e, h1, h2⟩ := ih (n / 10) (by omega) (by omega)
      exact ⟨c, r ++ [48 + n % 10], by rw [TL.numL_step (by omega), e]; rfl, h1, h2⟩
theorem num_dg {n i c : Nat} (h : (TL.numL n)[i]? = some c) : isDg [c] = true := by
  obtain ⟨h1, h2⟩ := TL.numL_digits n c (List.mem_of_getElem? h)
  show (decide (48 ≤ c) && decide (c ≤ 57)) = true
  rw [decide_eq_true h1, decide_eq_true h2]
  rfl
theorem int_numL {n : Nat} (h : n < 10 ^ 40) : intText? (S (TL.numL n)) = some (n : Int) ∧ (S (TL.numL n)).length ≤ 640 := by
  have hl := TL.numL_len (k := 40) (by decide) h
  refine ⟨?_, by rw [S_len]; omega⟩
  rw [int_S (List.all_eq_true.mpr fun c hc => ?_) (TL.numL_ne n) (by omega), TL.numL_val]
  obtain ⟨h1, h2⟩ := TL.numL_digits n c hc
  rw [decide_eq_true h1, decide_eq_true h2]
  rfl
def spInt (C : Addr) : Sp := fun vs H Q _ => ∃ (p dx : Addr) (T : List Nat) (a : Nat) (i : Int), vs = [.ref p] ∧ H p = some (.ins C dx (rf T a)) ∧ T.length ≤ 60000 ∧ AtT T a (tx (.int i)) ∧ isDg (chA T (a + (tx (.int i)).length)) = false ∧ i.natAbs < 10 ^ 40 ∧
  ∀ H', Keep p H H' → H' p = some (.ins C dx (rf T (a + (tx (.int i)).length))) → Q (.int i) H'
section
variable {P : Program} {w : World} {K : PySem.W.Frag} {mg : Str → Option Value} {base : Heap} {C fI : Addr} {fdI : FuncData}
theorem ok_read_integer (T : Txt K mg) (Rd : Rdr P w K mg base C fI fdI) {f : Addr} {fd : FuncData} (F : FnP K "read_integer" s_read_integer f fd) : FnOk P w K mg base CX0 3 f fd ["reader"] (spInt C) := by
  refine F.ok sc_read_integer (fun vs H Q E h => ?_) (fun cdv A outer s H vs Q E hr h => ?_)
  · obtain ⟨p, dx, t, a, i, rfl, _⟩ := h
    rfl
  · obtain ⟨p, dx, t, a, i, rfl, hp, tl, hat, hnx, hi, q⟩ := h
    refine ⟨_, PSs.nox (pss_cons (ps_if (pt_val (pe_o Rd.m_accept (hr.mono (by decide)) (pv 0) (pa_cons pe_str pa_nil))) (pss_one (ps_ret pe_int)) pss_nil)
      (pss_cons (ps_set (i := 1) sc_read_integer.nd rfl (Or.inl rfl) (pe_ifExp (pt_val (pe_o Rd.m_accept (hr.mono (by decide)) (pv 0) (pa_cons pe_str pa_nil))) (pe_un un_neg pe_int) pe_int))
      (pss_cons (ps_if (PW.pt (pw_or (pt_cmpR op_eq (pe_o0 Rd.m_ahead (hr.mono (by decide)) (pv 0)) pe_str (nomark _)) (pw_or1 (pt_cmpR op_notIn_sign (pe_o0 Rd.m_ahead (hr.mono (by decide)) (pv 0)) (pe_gs T.g_FIRST_FIGURES (by rfl)) (by rfl))))) (pss_one ps_never) pss_nil)
      (pss_cons (ps_set (i := 2) sc_read_integer.nd rfl (Or.inl rfl) (pe_lst pa_nil))
      (pss_cons (ps_while PassesOwn.never (pt_val (pe_o0 Rd.m_is_at_number (hr.mono (by decide)) (pv 0))) (pss_one (ps_expr (pe_bm PySem.F.plainAttrs_list PySem.F.slot_list_append PySem.F.type_list_append mt_append (pv 2) (pa_cons (pe_o0 Rd.m_read_any (hr.mono (by decide)) (pv 0)) pa_nil)))))
      (pss_one (ps_ret (pe_op op_mul (pv 1) (pe_callTy call_int_str (by rfl) T.b_int (by decide +kernel) (pa_cons (pe_join pe_str (pv 2)) pa_nil)))))))))), ?_⟩
    have eZ : Str.ofString "0" = S [48] := by decide +kernel
    have eM : Str.ofString "-" = S [45] := by decide +kernel
    have eE : Str.ofString "" = S [] := by decide +kernel
    have eF : (Str.ofString "123456789").cps.toList = [49, 50, 51, 52, 53, 54, 55, 56, 57] := by decide +kernel
    rw [eZ, eM, eE]
    -- what stands ahead
    have sh : (i = 0 ∧ tx (.int i) = [48]) ∨ (∃ (fac : Int) (pre : List Nat) (c : Nat) (r : List Nat), tx (.int i) = pre ++ TL.numL i.natAbs ∧ TL.numL i.natAbs = c :: r ∧ 49 ≤ c ∧ c ≤ 57 ∧ i = fac * (i.natAbs : Int) ∧ ((fac = 1 ∧ pre = []) ∨ (fac = -1 ∧ pre = [45]))) := by
      by_cases h0 : i = 0
      · subst h0
        exact .inl ⟨rfl, by decide⟩
      · obtain ⟨c, r, e, h1, h2⟩ := num_head i.natAbs (by omega)
        refine .inr ?_
        by_cases hn : i < 0
        · refine ⟨-1, [45], c, r, ?_, e, h1, h2, by omega, .inr ⟨rfl, rfl⟩⟩
          show (if i < 0 then _ else _) = _
          rw [if_pos hn]
          rfl
        · refine ⟨1, [], c, r, ?_, e, h1, h2, by omega, .inl ⟨rfl, rfl⟩⟩
          show (if i < 0 then _ else _) = _
          rw [if_neg hn]
          rfl
    refine ⟨_, rfl, p, dx, _, rfl, hp, no_ac _ _, p, dx, t, a, [48], rfl, hp, tl, fun e0 => ⟨_, rfl, ite2 (fun _ => ?_) (fun h => absurd rfl h)⟩, fun e0 => ⟨_, rfl, ite2 (fun h => (nomatch h)) (fun _ => ?_)⟩⟩
    · rcases sh with ⟨rfl, ei⟩ | ⟨fac, pre, c, r, ei, en, c1, c2, ef, hf⟩
      · rw [ei] at q
        exact q _ Keep.refl.set upd_same
      · exfalso
        rw [ei] at hat
        rcases hf with ⟨_, rfl⟩ | ⟨_, rfl⟩
        · rw [en] at hat
          have := hat.cons.1
          rw [this] at e0
          have := (List.cons.inj e0).1
          omega
        · have := (AtT.cons (l := TL.numL i.natAbs) hat).1
          rw [this] at e0
          have := (List.cons.inj e0).1
          omega
    · rcases sh with ⟨rfl, ei⟩ | ⟨fac, pre, c, r, ei, en, c1, c2, ef, hf⟩
      · rw [ei] at hat
        exact absurd hat.cons.1 e0
      rw [ei] at hat hnx q
      obtain ⟨hat1, hat2⟩ := hat.app
      rw [List.length_append] at hnx q
      have q' : ∀ H', Keep p H H' → H' p = some (.ins C dx (rf t (a + (pre.length + (TL.numL i.natAbs).length)))) → Q (V.int (fac * (i.natAbs : Int))) H' := fun H' k h => by
        have := q H' k h
        rw [ef] at this
        exact this
      refine ⟨_, rfl, p, dx, _, rfl, hp, no_ac _ _, p, dx, t, a, [45], rfl, hp, tl, fun em => ⟨_, rfl, ite2 (fun _ => ?_) (fun h => absurd rfl h)⟩, fun em => ⟨_, rfl, ite2 (fun h => (nomatch h)) (fun _ => ?_)⟩⟩
      · rcases hf with ⟨rfl, rfl⟩ | ⟨rfl, rfl⟩
        · exfalso
          rw [en] at hat2
          have := hat2.cons.1
          rw [show a + [].length = a from rfl, em] at this
          have := (List.cons.inj this).1
          omega
        refine ⟨_, rfl, ?_⟩
        have kb : Keep p H (upd H p (.ins C dx (rf t (a + 1)))) := Keep.refl.set
        have hpb := upd_same (H := H) (a := p) (o := .ins C dx (rf t (a + 1)))
        generalize upd H p (.ins C dx (rf t (a + 1))) = Hb at kb hpb
        have hat2 : AtT t (a + 1) (TL.numL i.natAbs) := hat2
        have ea : a + ([45].length + (TL.numL i.natAbs).length) = a + 1 + (TL.numL i.natAbs).length := by
          show a + (1 + _) = _
          omega
        rw [ea] at hnx q'
        obtain ⟨hc0, _, _⟩ := (en ▸ hat2 : AtT t (a + 1) (c :: r)).cons
        refine ⟨_, rfl, p, dx, _, rfl, hpb, no_ah _ _, p, dx, t, _, rfl, hpb, tl, rfl, ?_⟩
        rw [hc0]
        have ne : ¬ (V.str (S [c]) = V.str (S [])) := fun h => (nomatch (S_inj (V.str.inj h)))
        rw [decide_eq_false ne]
        refine ⟨_, rfl, ite2 (fun h => (nomatch h)) (fun _ => ?_)⟩
        refine ⟨_, rfl, p, dx, _, rfl, hpb, no_ah _ _, p, dx, t, _, rfl, hpb, tl, ?_⟩
        rw [hc0]
        refine ⟨c, _, rfl, rfl, ?_⟩
        rw [eF, decide_eq_true (by simp only [List.mem_cons, List.not_mem_nil, or_false]; omega)]
        refine ⟨_, rfl, ite2 (fun h => (nomatch (show false = true from h))) (fun _ => ?_)⟩
        refine ⟨Nat.zero_le _, fun L hL => ?_⟩
        have Lp : L ≠ p := fun e => by
          rw [e, hpb] at hL
          cases hL
        have L0 : H L = none := by
          cases e : H L with
          | none => rfl
          | some o =>
            rw [kb L o e Lp] at hL
            cases hL
        refine ⟨fun m σ H' => ∃ j : Nat, j ≤ (TL.numL i.natAbs).length ∧ m = (TL.numL i.natAbs).length - j ∧ σ = [some (.ref p), some (.int (-1)), some (.ref L)] ∧ Keep p H H' ∧ H' p = some (.ins C dx (rf t (a + 1 + j))) ∧ H' L = some (.lst (((TL.numL i.natAbs).take j).map fun c => V.str (S [c]))), ⟨_, 0, Nat.zero_le _, rfl, rfl, kb.trans (Keep.new hL), by rw [upd_ne Lp.symm]; exact hpb, upd_same⟩, ?_⟩
        rintro m σ H2 ⟨j, hj, rfl, rfl, k2, hp2, hL2⟩
        refine ⟨_, rfl, p, dx, _, rfl, hp2, no_nu _ _, p, dx, t, _, rfl, hp2, tl, ?_⟩
        by_cases hj2 : j < (TL.numL i.natAbs).length
        · have e : (TL.numL i.natAbs)[j]? = some ((TL.numL i.natAbs)[j]) := List.getElem?_eq_getElem hj2
          generalize (TL.numL i.natAbs)[j] = g at e
          have hcg := hat2.get e
          have hcg : chA t (a + 1 + j) = [g] := hcg
          rw [hcg, num_dg e]
          refine ⟨_, rfl, ite2 (fun _ => ?_) (fun h => absurd rfl h)⟩
          refine ⟨fun σ' H' => σ' = [some (.ref p), some (.int (-1)), some (.ref L)] ∧ Keep p H H' ∧ H' p = some (.ins C dx (rf t (a + 1 + (j + 1)))) ∧ H' L = some (.lst (((TL.numL i.natAbs).take (j + 1)).map fun c => V.str (S [c]))), fun σ' H' ⟨e, k, g1, g2⟩ => ⟨(TL.numL i.natAbs).length - (j + 1), by omega, j + 1, by omega, rfl, e, k, g1, g2⟩, ?_⟩
          have hL3 : (upd H2 p (.ins C dx (rf t (a + 1 + j + 1)))) L = some (.lst (((TL.numL i.natAbs).take j).map fun c => V.str (S [c]))) := by
            rw [upd_ne Lp]
            exact hL2
          have lenN := TL.numL_len (k := 40) (by decide) hi
          refine ⟨_, rfl, .inl ⟨rfl, _, SqL.of hL2⟩, _, rfl, p, dx, _, rfl, hp2, no_an _ _, p, dx, t, _, rfl, hp2, tl, L, _, _, rfl, rfl, hL3, by rw [List.length_map, List.length_take]; exact line6 (by omega), rfl, ?_, ?_, ?_⟩
          · intro b o hb nb
            rw [upd_ne (ne_of_none hb L0), upd_ne nb]
            exact k2 b o hb nb
          · rw [upd_ne Lp.symm, upd_same]
            rfl
          · rw [upd_same, take_snoc e, List.map_append, hcg]
            rfl
        · have ej : j = (TL.numL i.natAbs).length := by omega
          subst ej
          rw [hnx]
          refine ⟨_, rfl, ite2 (fun h => (nomatch h)) (fun _ => ?_)⟩
          rw [List.take_length] at hL2
          have lenN := TL.numL_len (k := 40) (by decide) hi
          obtain ⟨i1, i2⟩ := int_numL hi
          refine ⟨_, rfl, ⟨_, rfl⟩, _, rfl, _, L, (TL.numL i.natAbs).map fun c => S [c], rfl, rfl, .inl (SqL.of (by rw [hL2, List.map_map]; rfl)), ?_, ?_⟩
          · rw [List.map_map, List.length_map]
            have : ((TL.numL i.natAbs).map ((fun x => x.length) ∘ fun c => S [c])).sum = (TL.numL i.natAbs).length := sum1 _
            rw [this]
            show (TL.numL i.natAbs).length + (TL.numL i.natAbs).length * 0 ≤ _
            omega
          · rw [join_S1]
            refine ⟨_, _, rfl, i1, i2, _, _, rfl, rfl, .inl ⟨by decide, by decide⟩, ?_⟩
            exact q' _ k2 hp2
      · rcases hf with ⟨rfl, rfl⟩ | ⟨rfl, rfl⟩
        case inr => exact absurd hat1.cons.1 em
        have kb : Keep p H H := Keep.refl
        have hpb := hp
        have hat2 : AtT t a (TL.numL i.natAbs) := hat2
        have ea : a + (([] : List Nat).length + (TL.numL i.natAbs).length) = a + (TL.numL i.natAbs).length := by
          show a + (0 + _) = _
          omega
        rw [ea] at hnx q'
        obtain ⟨hc0, _, _⟩ := (en ▸ hat2 : AtT t (a) (c :: r)).cons
        refine ⟨_, rfl, p, dx, _, rfl, hpb, no_ah _ _, p, dx, t, _, rfl, hpb, tl, rfl, ?_⟩
        rw [hc0]
        have ne : ¬ (V.str (S [c]) = V.str (S [])) := fun h => (nomatch (S_inj (V.str.inj h)))
        rw [decide_eq_false ne]
        refine ⟨_, rfl, ite2 (fun h => (nomatch h)) (fun _ => ?_)⟩
        refine ⟨_, rfl, p, dx, _, rfl, hpb, no_ah _ _, p, dx, t, _, rfl, hpb, tl, ?_⟩
        rw [hc0]
        refine ⟨c, _, rfl, rfl, ?_⟩
        rw [eF, decide_eq_true (by simp only [List.mem_cons, List.not_mem_nil, or_false]; omega)]
        refine ⟨_, rfl, ite2 (fun h => (nomatch (show false = true from h))) (fun _ => ?_)⟩
        refine ⟨Nat.zero_le _, fun L hL => ?_⟩
        have Lp : L ≠ p := fun e => by
          rw [e, hpb] at hL
          cases hL
        have L0 : H L = none := by
          cases e : H L with
          | none => rfl
          | some o =>
            rw [kb L o e Lp] at hL
            cases hL
        refine ⟨fun m σ H' => ∃ j : Nat, j ≤ (TL.numL i.natAbs).length ∧ m = (TL.numL i.natAbs).length - j ∧ σ = [some (.ref p), some (.int 1), some (.ref L)] ∧ Keep p H H' ∧ H' p = some (.ins C dx (rf t (a + j))) ∧ H' L = some (.lst (((TL.numL i.natAbs).take j).map fun c => V.str (S [c]))), ⟨_, 0, Nat.zero_le _, rfl, rfl, kb.trans (Keep.new hL), by rw [upd_ne Lp.symm]; exact hpb, upd_same⟩, ?_⟩
        rintro m σ H2 ⟨j, hj, rfl, rfl, k2, hp2, hL2⟩
        refine ⟨_, rfl, p, dx, _, rfl, hp2, no_nu _ _, p, dx, t, _, rfl, hp2, tl, ?_⟩
        by_cases hj2 : j < (TL.numL i.natAbs).length
        · have e : (TL.numL i.natAbs)[j]? = some ((TL.numL i.natAbs)[j]) := List.getElem?_eq_getElem hj2
          generalize (TL.numL i.natAbs)[j] = g at e
          have hcg := hat2.get e
          have hcg : chA t (a + j) = [g] := hcg
          rw [hcg, num_dg e]
          refine ⟨_, rfl, ite2 (fun _ => ?_) (fun h => absurd rfl h)⟩
          refine ⟨fun σ' H' => σ' = [some (.ref p), some (.int 1), some (.ref L)] ∧ Keep p H H' ∧ H' p = some (.ins C dx (rf t (a + (j + 1)))) ∧ H' L = some (.lst (((TL.numL i.natAbs).take (j + 1)).map fun c => V.str (S [c]))), fun σ' H' ⟨e, k, g1, g2⟩ => ⟨(TL.numL i.natAbs).length - (j + 1), by omega, j + 1, by omega, rfl, e, k, g1, g2⟩, ?_⟩
          have hL3 : (upd H2 p (.ins C dx (rf t (a + j + 1)))) L = some (.lst (((TL.numL i.natAbs).take j).map fun c => V.str (S [c]))) := by
            rw [upd_ne Lp]
            exact hL2
          have lenN := TL.numL_len (k := 40) (by decide) hi
          refine ⟨_, rfl, .inl ⟨rfl, _, SqL.of hL2⟩, _, rfl, p, dx, _, rfl, hp2, no_an _ _, p, dx, t, _, rfl, hp2, tl, L, _, _, rfl, rfl, hL3, by rw [List.length_map, List.length_take]; exact line6 (by omega), rfl, ?_, ?_, ?_⟩
          · intro b o hb nb
            rw [upd_ne (ne_of_none hb L0), upd_ne nb]
            exact k2 b o hb nb
          · rw [upd_ne Lp.symm, upd_same]
            rfl
          · rw [upd_same, take_snoc e, List.map_append, hcg]
            rfl
        · have ej : j = (TL.numL i.natAbs).length := by omega
          subst ej
          rw [hnx]
          refine ⟨_, rfl, ite2 (fun h => (nomatch h)) (fun _ => ?_)⟩
          rw [List.take_length] at hL2
          have lenN := TL.numL_len (k := 40) (by decide) hi
          obtain ⟨i1, i2⟩ := int_numL hi
          refine ⟨_, rfl, ⟨_, rfl⟩, _, rfl, _, L, (TL.numL i.natAbs).map fun c => S [c], rfl, rfl, .inl (SqL.of (by rw [hL2, List.map_map]; rfl)), ?_, ?_⟩
          · rw [List.map_map, List.length_map]
            have : ((TL.numL i.natAbs).map ((fun x => x.length) ∘ fun c => S [c])).sum = (TL.numL i.natAbs).length := sum1 _
            rw [this]
            show (TL.numL i.natAbs).length + (TL.numL i.natAbs).length * 0 ≤ _
            omega
          · rw [join_S1]
            refine ⟨_, _, rfl, i1, i2, _, _, rfl, rfl, .inl ⟨by decide, by decide⟩, ?_⟩
            exact q' _ k2 hp2
end
end Mt
namespace Mt
open PySem PySem.Spec PyProof.Rows L2 SX
theorem keepP_T {p C dx : Addr} {fs : List (Str × V)} {H H' : Hp} (h : H p = some (.ins C dx fs)) (k : Keep p H H') : KeepT H H' := fun q xs r => by
  rcases r with r | ⟨o, r⟩
  · have ne : q ≠ p := fun f => by
      rw [f, h] at r
      cases r
    exact .inl (k q _ r ne)
  · have ne : q ≠ p := fun f => by
      rw [f, h] at r
      cases r
    exact .inr ⟨o, k q _ r ne⟩
theorem keep_free {p L : Addr} {H H' : Hp} (k : Keep p H H') (h : H' L = none) (ne : L ≠ p) : H L = none := by
  cases e : H L with
  | none => rfl
  | some o =>
    rw [k L o e ne] at h
    cases h
theorem AtT.len {T : List Nat} {a : Nat} {l : List Nat} (h : AtT T a l) : l.length ≤ T.length := by
  obtain ⟨r, e⟩ := h
  have := congrArg List.length e
  rw [List.length_drop, List.length_append] at this
  omega
theorem pvs_all : ∀ {l : List PyData}, (∀ x ∈ l, pvB x = true) → pvBs l = true
  | [], _ => rfl
  | x :: r, h => by
    show (pvB x && pvBs r) = true
    rw [h x List.mem_cons_self, pvs_all fun y hy => h y (List.mem_cons_of_mem _ hy)]
    rfl
theorem pvs_take : ∀ {d : PyData} {r : List PyData}, pvBs (d :: r) = true → ∀ i, pvBs (d :: r.take i) = true := fun {d r} h i => by
  obtain ⟨h1, h2⟩ := Bool.and_eq_true_iff.mp (show (pvB d && pvBs r) = true from h)
  show (pvB d && pvBs (r.take i)) = true
  rw [h1, pvs_all fun x hx => pvs_mem h2 (List.mem_of_mem_take hx)]
  rfl
theorem tx_head : ∀ d : PyData, pvB d = true → ∃ c r, tx d = c :: r ∧ c ≠ 41
  | .none, _ => ⟨110, _, rfl, by decide⟩
  | .str z, _ => ⟨34, _, rfl, by decide⟩
  | .int i, _ => by
    show ∃ c r, (if i < 0 then 45 :: TL.numL i.natAbs else TL.numL i.natAbs) = c :: r ∧ c ≠ 41
    by_cases h : i < 0
    · rw [if_pos h]
      exact ⟨45, _, rfl, by decide⟩
    · rw [if_neg h]
      cases e : TL.numL i.natAbs with
      | nil => exact absurd e (TL.numL_ne _)
      | cons c r =>
        refine ⟨c, r, rfl, fun k => ?_⟩
        exact TL.numL_free (n := i.natAbs) (s := 41) (by omega) (by rw [e, k]; exact List.mem_cons_self)
  | .tuple _, _ => ⟨40, _, rfl, by decide⟩
  | .bool _, h => nomatch h
  | .list _, h => nomatch h
  | .dict _, h => nomatch h
def spIn (K : PySem.W.Frag) (C : Addr) (n : Nat) : Sp := fun vs H Q _ => ∃ (p dx : Addr) (T : List Nat) (a : Nat) (d : PyData), vs = [.ref p] ∧ H p = some (.ins C dx (rf T a)) ∧ T.length ≤ 60000 ∧ AtT T a (tx d) ∧ pvB d = true ∧ dep d < n ∧ isDg (chA T (a + (tx d).length)) = false ∧
  ∀ (H' : Hp) (v : V), Keep p H H' → H' p = some (.ins C dx (rf T (a + (tx d).length))) → Dp K H' v d → Q v H'
def spTu (K : PySem.W.Frag) (C : Addr) (n : Nat) : Sp := fun vs H Q _ => ∃ (p dx : Addr) (T : List Nat) (a : Nat) (ds : List PyData), vs = [.ref p] ∧ H p = some (.ins C dx (rf T a)) ∧ T.length ≤ 60000 ∧ AtT T a (tx (.tuple ds)) ∧ pvBs ds = true ∧ deps ds < n ∧
  ∀ (H' : Hp) (v : V), Keep p H H' → H' p = some (.ins C dx (rf T (a + (tx (.tuple ds)).length))) → Dp K H' v (.tuple ds) → Q v H'
section
variable {P : Program} {w : World} {K : PySem.W.Frag} {mg : Str → Option Value} {base : Heap} {C fI : Addr} {fdI : FuncData}
theorem tu_ok (T : Txt K mg) (Rd : Rdr P w K mg base C fI fdI) {n : Nat} (D_read_inner : Kept P w K mg base (2 * n + 5) "read_inner" ["reader"] (spIn K C n)) {f : Addr} {fd : FuncData} (F : FnP K "read_tuple" s_read_tuple f fd) : FnOk P w K mg base CX0 (2 * n + 6) f fd ["reader"] (spTu K C n) := by
  refine F.ok (k := 2 * n + 5) sc_read_tuple (fun vs H Q E h => ?_) (fun cdv A outer s H vs Q E hr h => ?_)
  · obtain ⟨p, dx, t, a, ds, rfl, _⟩ := h
    rfl
  · obtain ⟨p, dx, t, a, ds, rfl, hp, tl, hat, hpv, hdp, q⟩ := h
    refine ⟨_, PSs.nox (pss_cons (ps_expr (pe_o Rd.m_expect (hr.mono (by omega)) (pv 0) (pa_cons pe_str pa_nil)))
      (pss_cons (ps_if (pt_val (pe_o Rd.m_accept (hr.mono (by omega)) (pv 0) (pa_cons pe_str pa_nil))) (pss_one (ps_ret (pe_tup pa_nil))) pss_nil)
      (pss_cons (ps_set (i := 1) sc_read_tuple.nd rfl (Or.inl rfl) (pe_lst (pa_cons (pe_d D_read_inner (hr.mono (by omega)) (by rfl) (pa_cons (pv 0) pa_nil)) pa_nil)))
      (pss_cons (ps_while PassesOwn.never (pt_not (pt_val (pe_o Rd.m_accept (hr.mono (by omega)) (pv 0) (pa_cons pe_str pa_nil)))) (pss_cons (ps_expr (pe_o Rd.m_expect (hr.mono (by omega)) (pv 0) (pa_cons pe_str pa_nil)))
      (pss_one (ps_expr (pe_bm PySem.F.plainAttrs_list PySem.F.slot_list_append PySem.F.type_list_append mt_append (pv 1) (pa_cons (pe_d D_read_inner (hr.mono (by omega)) (by rfl) (pa_cons (pv 0) pa_nil)) pa_nil))))))
      (pss_one (ps_ret (pe_callTy call_tuple_of (by rfl) T.b_tuple (by decide +kernel) (pa_cons (pv 1) pa_nil)))))))), ?_⟩
    have e1 : Str.ofString "(" = S [40] := by decide +kernel
    have e2 : Str.ofString ")" = S [41] := by decide +kernel
    have e3 : Str.ofString "," = S [44] := by decide +kernel
    rw [e1, e2, e3]
    obtain ⟨c0, at1, _⟩ := (hat : AtT t a (40 :: (txs ds ++ [41]))).cons
    refine ⟨_, rfl, p, dx, _, rfl, hp, no_ex _ _, p, dx, t, a, by rw [c0]; rfl, hp, tl, ?_⟩
    have hp1 := upd_same (H := H) (a := p) (o := .ins C dx (rf t (a + 1)))
    have k1 : Keep p H (upd H p (.ins C dx (rf t (a + 1)))) := Keep.refl.set
    generalize upd H p (.ins C dx (rf t (a + 1))) = H1 at hp1 k1
    refine ⟨_, rfl, p, dx, _, rfl, hp1, no_ac _ _, p, dx, t, _, [41], rfl, hp1, tl, fun e0 => ⟨_, rfl, ite2 (fun _ => ?_) (fun h => absurd rfl h)⟩, fun e0 => ⟨_, rfl, ite2 (fun h => (nomatch h)) (fun _ => ?_)⟩⟩
    · -- nothing in it
      cases ds with
      | cons d r =>
        exfalso
        obtain ⟨c, r', e, ne⟩ := tx_head d (pvs_mem hpv List.mem_cons_self)
        have : AtT t (a + 1) (c :: (r' ++ txr r ++ [41])) := by
          have h : AtT t (a + 1) ((tx d ++ txr r) ++ [41]) := at1
          rw [e] at h
          exact h
        rw [this.cons.1] at e0
        exact ne (List.cons.inj e0).1
      | nil =>
        refine ⟨Nat.zero_le _, fun p0 hp0 => ?_⟩
        have hp2 := upd_same (H := H1) (a := p) (o := .ins C dx (rf t (a + 1 + 1)))
        have n0 : p0 ≠ p := fun e => by
          rw [e, hp2] at hp0
          cases hp0
        refine q _ _ (k1.set.trans (Keep.new hp0)) ?_ (.tup (SqT.of upd_same) .nil)
        rw [upd_ne n0.symm, hp2]
        rfl
    · cases ds with
      | nil => exact absurd (AtT.cons (l := []) at1).1 e0
      | cons d r =>
        have at2 : AtT t (a + 1) (tx d ++ (txr r ++ [41])) := by
          rw [← List.append_assoc]
          exact at1
        obtain ⟨atd, atr⟩ := at2.app
        have dd : dep d < n := Nat.lt_of_le_of_lt (deps_mem List.mem_cons_self) hdp
        -- what stands behind part i
        have nx : ∀ i, i ≤ r.length → AtT t (a + 1 + (tx d).length + (txr (r.take i)).length) (txr (r.drop i) ++ [41]) := fun i hi => by
          have h : AtT t (a + 1 + (tx d).length) (txr (r.take i) ++ (txr (r.drop i) ++ [41])) := by
            rw [← List.append_assoc, ← txr_app, List.take_append_drop]
            exact atr
          exact h.app.2
        have ng : ∀ {b : Nat} {l : List PyData}, AtT t b (txr l ++ [41]) → isDg (chA t b) = false := fun {b l} h => by
          cases l with
          | nil =>
            rw [(AtT.cons (l := []) h).1]
            rfl
          | cons x y =>
            rw [(AtT.cons (c := 44) (l := tx x ++ txr y ++ [41]) (by
              have : AtT t b ((44 :: (tx x ++ txr y)) ++ [41]) := h
              exact this)).1]
            rfl
        refine ⟨_, rfl, p, dx, t, a + 1, d, rfl, hp1, tl, atd, pvs_mem hpv List.mem_cons_self, dd, ng (nx 0 (Nat.zero_le _)), fun H2 v0 k2 hp2 hv0 => ⟨z1, fun L hL => ?_⟩⟩
        have Lp : L ≠ p := fun e => by
          rw [e, hp2] at hL
          cases hL
        have L0 : H L = none := keep_free (k1.trans k2) hL Lp
        have rl : r.length ≤ 60000 := by
          have h1 := sum_txs r
          have h2 := atr.len
          rw [List.length_append, List.length_singleton] at h2
          omega
        have hL3 := upd_same (H := H2) (a := L) (o := .lst [v0])
        have hp3 : (upd H2 L (.lst [v0])) p = some (.ins C dx (rf t (a + 1 + (tx d).length))) := by
          rw [upd_ne Lp.symm]
          exact hp2
        have k3 : Keep p H (upd H2 L (.lst [v0])) := (k1.trans k2).trans (Keep.new hL)
        have hv3 := dp_same (same_new (o := .lst [v0]) hL) _ _ hv0
        generalize upd H2 L (.lst [v0]) = H3 at hL3 hp3 k3 hv3
        refine ⟨fun m σ H' => ∃ (i : Nat) (zs : List V), i ≤ r.length ∧ m = r.length - i ∧ σ = [some (.ref p), some (.ref L)] ∧ Keep p H H' ∧ H' p = some (.ins C dx (rf t (a + 1 + (tx d).length + (txr (r.take i)).length))) ∧ H' L = some (.lst zs) ∧ DpAll K H' zs (d :: r.take i), ⟨_, 0, [v0], Nat.zero_le _, rfl, rfl, k3, hp3, hL3, .cons hv3 .nil⟩, ?_⟩
        rintro m σ H4 ⟨i, zs, hi, rfl, rfl, k4, hp4, hL4, hA⟩
        have zl := dpA_len hA
        rw [List.length_cons, List.length_take] at zl
        have nxi := nx i hi
        refine ⟨_, rfl, p, dx, _, rfl, hp4, no_ac _ _, p, dx, t, _, [41], rfl, hp4, tl, fun e0 => ⟨_, rfl, ite2 (fun h => (nomatch (show false = true from h))) (fun _ => ?_)⟩, fun e0 => ⟨_, rfl, ite2 (fun _ => ?_) (fun h => absurd rfl h)⟩⟩
        · have hir : i = r.length := by
            cases e : r.drop i with
            | nil =>
              have := List.drop_eq_nil_iff.mp e
              omega
            | cons x y =>
              rw [e] at nxi
              have h : AtT t (a + 1 + (tx d).length + (txr (r.take i)).length) (44 :: (tx x ++ txr y ++ [41])) := nxi
              rw [h.cons.1] at e0
              exact absurd (List.cons.inj e0).1 (by decide)
          subst hir
          rw [List.take_length] at hA hp4 e0
          have hp5 := upd_same (H := H4) (a := p) (o := .ins C dx (rf t (a + 1 + (tx d).length + (txr r).length + 1)))
          have k5 : Keep p H (upd H4 p (.ins C dx (rf t (a + 1 + (tx d).length + (txr r).length + 1)))) := k4.set
          have hL5 : (upd H4 p (.ins C dx (rf t (a + 1 + (tx d).length + (txr r).length + 1)))) L = some (.lst zs) := by
            rw [upd_ne Lp]
            exact hL4
          have hA5 := dpA_keep (keepT_nt (o := .ins C dx (rf t (a + 1 + (tx d).length + (txr r).length + 1))) (nt_ins _ _ _) hp4) _ _ (pvs_noL _ hpv) hA
          rw [List.take_length]
          generalize upd H4 p (.ins C dx (rf t (a + 1 + (tx d).length + (txr r).length + 1))) = H5 at hp5 k5 hL5 hA5
          refine ⟨_, rfl, L, zs, rfl, .inl ⟨SqL.of hL5, fun pt hpt => ?_⟩⟩
          have n0 : pt ≠ p := fun e => by
            rw [e, hp5] at hpt
            cases hpt
          refine q _ _ (k5.trans (Keep.new hpt)) ?_ (.tup (SqT.of upd_same) (dpA_same (same_new hpt) _ _ hA5))
          rw [upd_ne n0.symm, hp5]
          have : (tx (.tuple (d :: r))).length = 1 + ((tx d).length + (txr r).length) + 1 := by
            show (40 :: ((tx d ++ txr r) ++ [41])).length = _
            rw [List.length_cons, List.length_append, List.length_append, List.length_singleton]
            omega
          rw [this, show a + (1 + ((tx d).length + (txr r).length) + 1) = a + 1 + (tx d).length + (txr r).length + 1 by omega]
        · have hir : i < r.length := by
            rcases Nat.lt_or_ge i r.length with h | h
            · exact h
            · rw [List.drop_of_length_le h] at nxi
              exact absurd (AtT.cons (l := []) nxi).1 e0
          have er : r[i]? = some r[i] := List.getElem?_eq_getElem hir
          have ed : r.drop i = r[i] :: r.drop (i + 1) := List.drop_eq_getElem_cons hir
          rw [ed] at nxi
          generalize r[i] = x at er nxi
          have hmx : x ∈ d :: r := List.mem_cons_of_mem _ (List.mem_of_getElem? er)
          have dx' : dep x < n := Nat.lt_of_le_of_lt (deps_mem hmx) hdp
          have at5 : AtT t (a + 1 + (tx d).length + (txr (r.take i)).length) (44 :: (tx x ++ (txr (r.drop (i + 1)) ++ [41]))) := by
            have h : AtT t (a + 1 + (tx d).length + (txr (r.take i)).length) ((44 :: (tx x ++ txr (r.drop (i + 1)))) ++ [41]) := nxi
            rw [List.cons_append, List.append_assoc] at h
            exact h
          obtain ⟨c5, at6, _⟩ := at5.cons
          obtain ⟨at7, at8⟩ := at6.app
          refine ⟨fun σ' H' => ∃ zs : List V, σ' = [some (.ref p), some (.ref L)] ∧ Keep p H H' ∧ H' p = some (.ins C dx (rf t (a + 1 + (tx d).length + (txr (r.take (i + 1))).length))) ∧ H' L = some (.lst zs) ∧ DpAll K H' zs (d :: r.take (i + 1)), fun σ' H' ⟨zs, e, k, g1, g2, g3⟩ => ⟨r.length - (i + 1), by omega, i + 1, zs, by omega, rfl, e, k, g1, g2, g3⟩, ?_⟩
          refine ⟨_, rfl, p, dx, _, rfl, hp4, no_ex _ _, p, dx, t, _, by rw [c5]; rfl, hp4, tl, ?_⟩
          have hp5 := upd_same (H := H4) (a := p) (o := .ins C dx (rf t (a + 1 + (tx d).length + (txr (r.take i)).length + 1)))
          have k5 : Keep p H (upd H4 p (.ins C dx (rf t (a + 1 + (tx d).length + (txr (r.take i)).length + 1)))) := k4.set
          have hL5 : (upd H4 p (.ins C dx (rf t (a + 1 + (tx d).length + (txr (r.take i)).length + 1)))) L = some (.lst zs) := by
            rw [upd_ne Lp]
            exact hL4
          have nlA : noLs (d :: r.take i) = true := pvs_noL _ (pvs_take hpv i)
          have hA5 := dpA_keep (keepT_nt (o := .ins C dx (rf t (a + 1 + (tx d).length + (txr (r.take i)).length + 1))) (nt_ins _ _ _) hp4) _ _ nlA hA
          generalize upd H4 p (.ins C dx (rf t (a + 1 + (tx d).length + (txr (r.take i)).length + 1))) = H5 at hp5 k5 hL5 hA5
          refine ⟨_, rfl, .inl ⟨rfl, _, SqL.of hL5⟩, _, rfl, p, dx, t, _, x, rfl, hp5, tl, at7, pvs_mem hpv hmx, dx', ng at8, fun H6 v6 k6 hp6 hv6 => ?_⟩
          have hL6 := k6 _ _ hL5 Lp
          have hA6 := dpA_keep (keepP_T hp5 k6) _ _ nlA hA5
          have kL := keepT_nt (o := .lst (zs ++ [v6])) (nt_lst _) hL6
          refine ⟨L, zs, _, rfl, rfl, hL6, line6 (by omega), zs ++ [v6], rfl, ?_, ?_, upd_same, ?_⟩
          · intro b o hb nb
            rw [upd_ne (ne_of_none hb L0)]
            exact k6 b o (k5 b o hb nb) nb
          · rw [upd_ne Lp.symm, hp6, take_snoc er, txr_app]
            have : (txr [x]).length = (tx x).length + 1 := by
              show (44 :: (tx x ++ [])).length = _
              rw [List.append_nil, List.length_cons]
            rw [List.length_append, this, show a + 1 + (tx d).length + (txr (r.take i)).length + 1 + (tx x).length = a + 1 + (tx d).length + ((txr (r.take i)).length + ((tx x).length + 1)) by omega]
          · rw [take_snoc er]
            exact dpA_snoc (dpA_keep kL _ _ nlA hA6) (dp_keep kL _ _ (pv_noL _ (pvs_mem hpv hmx)) hv6)
end
end Mt
namespace Mt
open PySem PySem.Spec PyProof.Rows L2 SX
theorem int_head (i : Int) : ∃ c r, tx (.int i) = c :: r ∧ c ≠ 40 ∧ c ≠ 34 ∧ c ≠ 110 := by
  show ∃ c r, (if i < 0 then 45 :: TL.numL i.natAbs else TL.numL i.natAbs) = c :: r ∧ c ≠ 40 ∧ c ≠ 34 ∧ c ≠ 110
  by_cases h : i < 0
  · rw [if_pos h]
    exact ⟨45, _, rfl, by decide, by decide, by decide⟩
  · rw [if_neg h]
    cases e : TL.numL i.natAbs with
    | nil => exact absurd e (TL.numL_ne _)
    | cons c r =>
      have fr : ∀ s, s < 48 ∨ 57 < s → c ≠ s := fun s hs k => TL.numL_free (n := i.natAbs) hs (by rw [e, k]; exact List.mem_cons_self)
      exact ⟨c, r, rfl, fr 40 (by omega), fr 34 (by omega), fr 110 (by omega)⟩
section
variable {P : Program} {w : World} {K : PySem.W.Frag} {mg : Str → Option Value} {base : Heap} {C fI : Addr} {fdI : FuncData}
theorem in_ok (T : Txt K mg) (Rd : Rdr P w K mg base C fI fdI) (D_read_string : Kept P w K mg base 3 "read_string" ["reader"] (spStr C)) (D_read_integer : Kept P w K mg base 3 "read_integer" ["reader"] (spInt C))
    {ft : Addr} {fdt : FuncData} (Ft : FnP K "read_tuple" s_read_tuple ft fdt) (gt : mg "read_tuple" = some (.ref ft)) (bt : Binds K fdt ["reader"] []) :
    ∀ (n : Nat) {f : Addr} {fd : FuncData}, FnP K "read_inner" s_read_inner f fd → mg "read_inner" = some (.ref f) → Binds K fd ["reader"] [] → FnOk P w K mg base CX0 (2 * n + 5) f fd ["reader"] (spIn K C n)
  | 0, f, fd, F, hg, hb => F.ok (k := 4) sc_read_inner (fun vs H Q E h => by
      obtain ⟨p, dx, t, a, d, rfl, _⟩ := h
      rfl) (fun cdv A outer s H vs Q E hr h => by
      obtain ⟨p, dx, t, a, d, rfl, _, _, _, _, h, _⟩ := h
      exact absurd h (Nat.not_lt_zero _))
  | n + 1, f, fd, F, hg, hb => by
    have D_read_inner : Kept P w K mg base (2 * n + 5) "read_inner" ["reader"] (spIn K C n) := ⟨f, fd, in_ok T Rd D_read_string D_read_integer Ft gt bt n F hg hb, hg, F.kp, hb⟩
    have D_read_tuple : Kept P w K mg base (2 * n + 6) "read_tuple" ["reader"] (spTu K C n) := ⟨ft, fdt, tu_ok T Rd D_read_inner Ft, gt, Ft.kp, bt⟩
    rw [show 2 * (n + 1) + 5 = 2 * n + 6 + 1 by omega]
    refine F.ok (k := 2 * n + 6) sc_read_inner (fun vs H Q E h => ?_) (fun cdv A outer s H vs Q E hr h => ?_)
    · obtain ⟨p, dx, t, a, d, rfl, _⟩ := h
      rfl
    · obtain ⟨p, dx, t, a, d, rfl, hp, tl, hat, hpv, hdp, hnx, q⟩ := h
      refine ⟨_, PSs.nox (pss_cons (ps_set (i := 1) sc_read_inner.nd rfl (Or.inl rfl) (pe_o0 Rd.m_ahead (hr.mono (by omega)) (pv 0)))
      (pss_cons (ps_if (pt_cmpR op_eq (pv 1) pe_str (nomark _)) (pss_one (ps_ret (pe_d D_read_tuple (hr.mono (by omega)) (by rfl) (pa_cons (pv 0) pa_nil)))) pss_nil)
      (pss_cons (ps_if (pt_cmpR op_eq (pv 1) (pe_gs T.g_QUOTE (by rfl)) (nomark _)) (pss_one (ps_ret (pe_d D_read_string (hr.mono (by omega)) (by rfl) (pa_cons (pv 0) pa_nil)))) pss_nil)
      (pss_cons (ps_if (pt_cmpR op_eq (pv 1) pe_str (nomark _)) (pss_cons (ps_for PassesOwn.never rfl (pi_str pe_str) (pg_name (i := 2) sc_read_inner.nd rfl (Or.inl rfl)) (pss_one (ps_expr (pe_o Rd.m_expect (hr.mono (by omega)) (pv 0) (pa_cons (pv 2) pa_nil)))))
      (pss_one (ps_ret pe_non))) pss_nil)
      (pss_one (ps_ret (pe_d D_read_integer (hr.mono (by omega)) (by rfl) (pa_cons (pv 0) pa_nil)))))))), ?_⟩
      have e1 : Str.ofString "(" = S [40] := by decide +kernel
      have e2 : Str.ofString "\"" = S [34] := by decide +kernel
      have e3 : Str.ofString "n" = S [110] := by decide +kernel
      rw [e1, e2, e3]
      have sne : ∀ {x y : Nat}, x ≠ y → ¬ (V.str (S [x]) = V.str (S [y])) := fun ne h => ne (List.cons.inj (S_inj (V.str.inj h))).1
      refine ⟨_, rfl, p, dx, _, rfl, hp, no_ah _ _, p, dx, t, a, rfl, hp, tl, ?_⟩
      match d, hat, hpv, hdp, hnx, q with
      | .none, hat, hpv, hdp, hnx, q =>
        have hat : AtT t a [110, 111, 110, 101] := hat
        obtain ⟨c0, at1, _⟩ := hat.cons
        obtain ⟨c1, at2, _⟩ := at1.cons
        obtain ⟨c2, at3, _⟩ := at2.cons
        obtain ⟨c3, _, _⟩ := at3.cons
        rw [c0]
        refine ⟨_, rfl, rfl, ?_⟩
        rw [decide_eq_false (sne (by decide))]
        refine ⟨_, rfl, ite2 (fun h => (nomatch h)) (fun _ => ?_)⟩
        refine ⟨_, rfl, rfl, ?_⟩
        rw [decide_eq_false (sne (by decide))]
        refine ⟨_, rfl, ite2 (fun h => (nomatch h)) (fun _ => ?_)⟩
        refine ⟨_, rfl, rfl, ?_⟩
        rw [decide_eq_true rfl]
        refine ⟨_, rfl, ite2 (fun _ => ?_) (fun h => absurd rfl h)⟩
        have eN : Str.ofString "none" = S [110, 111, 110, 101] := by decide +kernel
        rw [eN]
        refine ⟨_, rfl, for_it walk_str (fun i σ H' => ∃ y : Option V, σ = [some (.ref p), some (.str (S [110])), y] ∧ Keep p H H' ∧ H' p = some (.ins C dx (rf t (a + i)))) ⟨_, rfl, Keep.refl, hp⟩ (fun _ _ _ _ _ => trivial) ?_ ?_⟩
        · rintro i x σ H1 H1' hi ⟨y, rfl, k, hp1⟩ ⟨rfl, c, hc, rfl⟩
          have hc' : ([110, 111, 110, 101] : List Nat)[i]? = some c := by
            rw [← List.getElem?_toArray]
            exact hc
          refine ⟨_, rfl, p, dx, _, rfl, hp1, no_ex _ _, _, rfl, p, dx, t, _, by rw [hat.get hc']; rfl, hp1, tl, ?_⟩
          exact ⟨_, rfl, k.set, upd_same⟩
        · rintro σ H1 ⟨y, rfl, k, hp1⟩
          exact q H1 _ k hp1 .non
      | .str z, hat, hpv, hdp, hnx, q =>
        have hat : AtT t a (34 :: (z.cps.toList ++ [34])) := hat
        obtain ⟨c0, at1, _⟩ := hat.cons
        rw [c0]
        refine ⟨_, rfl, rfl, ?_⟩
        rw [decide_eq_false (sne (by decide))]
        refine ⟨_, rfl, ite2 (fun h => (nomatch h)) (fun _ => ?_)⟩
        refine ⟨_, rfl, rfl, ?_⟩
        rw [decide_eq_true rfl]
        refine ⟨_, rfl, ite2 (fun _ => ?_) (fun h => absurd rfl h)⟩
        have ln : (tx (.str z)).length = z.cps.toList.length + 2 := by
          show (34 :: (z.cps.toList ++ [34])).length = _
          rw [List.length_cons, List.length_append, List.length_singleton]
        rw [ln] at q
        refine ⟨_, rfl, p, dx, t, a, z.cps.toList, rfl, hp, tl, hat, fun c hc => ?_, fun H' k h => ?_⟩
        · have h := List.all_eq_true.mp (show (z.cps.toList.all fun c => decide (32 ≤ c) && (decide (c ≤ 126) && decide (c ≠ 34))) = true from hpv) c hc
          rw [Bool.and_eq_true, Bool.and_eq_true, decide_eq_true_eq, decide_eq_true_eq, decide_eq_true_eq] at h
          exact h
        · rw [S_tl]
          exact q H' _ k h (.str _)
      | .int i, hat, hpv, hdp, hnx, q =>
        obtain ⟨c, r, e, n1, n2, n3⟩ := int_head i
        have c0 : chA t a = [c] := (e ▸ hat : AtT t a (c :: r)).cons.1
        rw [c0]
        refine ⟨_, rfl, rfl, ?_⟩
        rw [decide_eq_false (sne n1)]
        refine ⟨_, rfl, ite2 (fun h => (nomatch h)) (fun _ => ?_)⟩
        refine ⟨_, rfl, rfl, ?_⟩
        rw [decide_eq_false (sne n2)]
        refine ⟨_, rfl, ite2 (fun h => (nomatch h)) (fun _ => ?_)⟩
        refine ⟨_, rfl, rfl, ?_⟩
        rw [decide_eq_false (sne n3)]
        refine ⟨_, rfl, ite2 (fun h => (nomatch h)) (fun _ => ?_)⟩
        exact ⟨_, rfl, p, dx, t, a, i, rfl, hp, tl, hat, hnx, of_decide_eq_true hpv, fun H' k h => q H' _ k h (.int i)⟩
      | .tuple ds, hat, hpv, hdp, hnx, q =>
        have c0 : chA t a = [40] := (hat : AtT t a (40 :: (txs ds ++ [41]))).cons.1
        rw [c0]
        refine ⟨_, rfl, rfl, ?_⟩
        rw [decide_eq_true rfl]
        refine ⟨_, rfl, ite2 (fun _ => ?_) (fun h => absurd rfl h)⟩
        have hdd : deps ds < n := by
          have : deps ds + 1 < n + 1 := hdp
          omega
        exact ⟨_, rfl, p, dx, t, a, ds, rfl, hp, tl, hat, hpv, hdd, q⟩
      | .bool _, _, hp, _, _, _ => nomatch hp
      | .list _, _, hp, _, _, _ => nomatch hp
      | .dict _, _, hp, _, _, _ => nomatch hp
end
end Mt
namespace Mt
open PySem PySem.Spec PyProof.Rows L2 SX
def spRV (K : PySem.W.Frag) : Sp := fun vs H Q _ => ∃ (d : PyData), vs = [.str (S (tx d))] ∧ pvB d = true ∧ dep d < 42 ∧ (tx d).length ≤ 60000 ∧ ∀ (H' : Hp) (v : V), Same H H' → Dp K H' v d → Q v H'
def spPI : Sp := fun vs H Q _ => ∃ (Sa D : Addr), vs = [.ref D, .int 40] ∧ DrawAt Sa D H ∧ ∀ (H' : Hp) (z : Int), Go Sa D H H' → z.natAbs < 10 ^ 40 → Q (.int z) H'
def spPS : Sp := fun vs H Q _ => ∃ (Sa D : Addr), vs = [.ref D] ∧ DrawAt Sa D H ∧ ∀ (H' : Hp) (z : Str), Go Sa D H H' → strB z = true → z.length ≤ 40 → Q (.str z) H'
section
variable {P : Program} {w : World} {K : PySem.W.Frag} {mg : Str → Option Value} {base : Heap} {C fI : Addr} {fdI : FuncData}
theorem ok_read_value (T : Txt K mg) (Rd : Rdr P w K mg base C fI fdI) (D_read_inner : Kept P w K mg base 89 "read_inner" ["reader"] (spIn K C 42)) {f : Addr} {fd : FuncData} (F : FnP K "read_value" s_read_value f fd) : FnOk P w K mg base CX0 90 f fd ["text"] (spRV K) := by
  refine F.ok (k := 89) sc_read_value (fun vs H Q E h => ?_) (fun cdv A outer s H vs Q E hr h => ?_)
  · obtain ⟨d, rfl, _⟩ := h
    rfl
  · obtain ⟨d, rfl, pvd, hdp, hl, q⟩ := h
    refine ⟨_, PSs.nox (pss_cons (ps_set (i := 1) sc_read_value.nd rfl (Or.inl rfl) (pe_make Rd.mk_ Rd.fI_ (hr.mono (by decide)) (by rfl) Rd.mgC Rd.bI .nil pass0 (pa_cons (pv 0) pa_nil)))
      (pss_cons (ps_set (i := 2) sc_read_value.nd rfl (Or.inl rfl) (pe_d D_read_inner (hr.mono (by decide)) (by rfl) (pa_cons (pv 1) pa_nil)))
      (pss_cons (ps_expr (pe_o0 Rd.m_finish (hr.mono (by decide)) (pv 1)))
      (pss_one (ps_ret (pv 2)))))), ?_⟩
    refine ⟨_, rfl, fun p dx hp hdx ne => ?_⟩
    have s2 : Same H (upd (upd H dx (.own p)) p (.ins C dx [])) := same_mut (same_new hdx) hp
    refine ⟨p, dx, tx d, rfl, upd_same, fun H2 k2 hp2 => ⟨rfl, ?_⟩⟩
    have s12 : Same H H2 := fun x o e => k2 x o (s2 x o e) (ne_of_none e hp)
    have e0 : chA (tx d) (0 + (tx d).length) = [] := chA_end (by omega)
    refine ⟨_, rfl, p, dx, tx d, 0, d, rfl, hp2, hl, ⟨[], by rw [List.append_nil]; rfl⟩, pvd, hdp, by rw [e0]; rfl, fun H3 v k3 hp3 hv => ?_⟩
    refine ⟨_, rfl, p, dx, _, rfl, hp3, no_fi _ _, p, dx, tx d, _, rfl, hp3, hl, by omega, _, rfl, ?_⟩
    exact q H3 v (fun x o e => k3 x o (s12 x o e) (ne_of_none e hp)) hv
theorem ok__law_pv_int (T : Txt K mg) (D__law_draw : Kept P w K mg base 1 "_law_draw" ["d", "many"] spDraw) (D__law_pick : Kept P w K mg base 2 "_law_pick" ["d", "row"] (spPick K)) {f : Addr} {fd : FuncData} (F : FnP K "_law_pv_int" s__law_pv_int f fd) : FnOk P w K mg base CX0 3 f fd ["d", "most"] spPI := by
  refine F.ok sc__law_pv_int (fun vs H Q E h => ?_) (fun cdv A outer s H vs Q E hr h => ?_)
  · obtain ⟨Sa, D, rfl, _⟩ := h
    rfl
  · obtain ⟨Sa, D, rfl, d, q⟩ := h
    refine ⟨_, PSs.nox (pss_cons (ps_set (i := 2) sc__law_pv_int.nd rfl (Or.inl rfl) (pe_d D__law_pick (hr.mono (by decide)) (by rfl) (pa_cons (pv 0) (pa_cons (pe_lst (pa_cons pe_int (pa_cons pe_int (pa_cons pe_int (pa_cons pe_int (pa_cons (pv 1) (pa_cons (pe_op op_add pe_int (pe_d D__law_draw (hr.mono (by decide)) (by rfl) (pa_cons (pv 0) (pa_cons (pv 1) pa_nil)))) pa_nil))))))) pa_nil))))
      (pss_cons (ps_set (i := 3) sc__law_pv_int.nd rfl (Or.inl rfl) pe_int)
      (pss_cons (ps_for PassesOwn.never rfl (pi_range1 (by rfl) T.b_range (pa_cons (pv 2) pa_nil)) (pg_name (i := 4) sc__law_pv_int.nd rfl (Or.inl rfl)) (pss_one (ps_set (i := 3) sc__law_pv_int.nd rfl (Or.inl rfl) (pe_op op_add (pe_op op_mul (pv 3) pe_int) (pe_d D__law_draw (hr.mono (by decide)) (by rfl) (pa_cons (pv 0) (pa_cons pe_int pa_nil)))))))
      (pss_one (ps_ret (pe_op op_mul (pv 3) (pe_d D__law_pick (hr.mono (by decide)) (by rfl) (pa_cons (pv 0) (pa_cons (pe_lst (pa_cons pe_int (pa_cons pe_int (pa_cons (pe_un un_neg pe_int) pa_nil)))) pa_nil))))))))), ?_⟩
    refine ⟨_, rfl, _, rfl, _, rfl, _, rfl, Sa, D, 40, rfl, divW_of (by decide) (by decide), d, fun H1 v v0 v1 g1 => ⟨_, _, rfl, rfl, by show 6 ≤ sizeLine; decide, fun l hl => ?_⟩⟩
    have lD := (g1.1.free hl).1
    have el := upd_same (H := H1) (a := l) (o := .lst [.int 1, .int 1, .int 2, .int 3, .int 40, .int (1 + v)])
    have g2 := g1.trans (Go.new (o := .lst [.int 1, .int 1, .int 2, .int 3, .int 40, .int (1 + v)]) g1.1 hl)
    refine ⟨Sa, D, .ref l, [.int 1, .int 1, .int 2, .int 3, .int 40, .int (1 + v)], rfl, g2.1, fun H' g => .inr (.inl ⟨l, rfl, SqL.of (g.2 _ _ el lD)⟩), by show 0 < 6; decide, by show 6 ≤ 100000; decide, fun H3 x hx g3 => ?_⟩
    obtain ⟨m, rfl, m1, m40⟩ : ∃ m : Int, x = V.int m ∧ 1 ≤ m ∧ m ≤ 40 := by
      simp only [List.mem_cons, List.not_mem_nil, or_false] at hx
      rcases hx with h | h | h | h | h | h <;> exact ⟨_, h, by omega, by omega⟩
    have g03 := g2.trans g3
    refine ⟨_, rfl, _, rfl, by omega, by omega, for_range (lo := 0) (n := m.toNat) (fun i σ H' => ∃ (z : Int) (y4 : Option V), σ = [some (.ref D), some (.int 40), some (.int m), some (.int z), y4] ∧ Go Sa D H H' ∧ 0 ≤ z ∧ z < 10 ^ i) ⟨0, _, rfl, g03, by decide, by decide⟩ ?_ ?_⟩
    · rintro i σ H4 hi ⟨z, y4, rfl, g4, z0, z1'⟩
      refine ⟨_, rfl, _, _, rfl, rfl, .inr ⟨by decide, by decide⟩, _, rfl, Sa, D, 10, rfl, divW_of (by decide) (by decide), g4.1, fun H5 u u0 u1 g5 => ⟨_, _, rfl, rfl, z * 10 + u, _, rfl, g4.trans g5, by omega, ?_⟩⟩
      rw [Int.pow_succ]
      omega
    · rintro σ H4 ⟨z, y4, rfl, g4, z0, z1'⟩
      refine ⟨_, rfl, _, rfl, _, rfl, by show 3 ≤ sizeLine; decide, fun l2 hl2 => ?_⟩
      have lD2 := (g4.1.free hl2).1
      have el2 := upd_same (H := H4) (a := l2) (o := .lst [.int 1, .int 1, .int (-1)])
      have g6 := g4.trans (Go.new (o := .lst [.int 1, .int 1, .int (-1)]) g4.1 hl2)
      refine ⟨Sa, D, .ref l2, [.int 1, .int 1, .int (-1)], rfl, g6.1, fun H' g => .inr (.inl ⟨l2, rfl, SqL.of (g.2 _ _ el2 lD2)⟩), by show 0 < 3; decide, by show 3 ≤ 100000; decide, fun H7 x hx g7 => ?_⟩
      obtain ⟨e, rfl, he⟩ : ∃ e : Int, x = V.int e ∧ (e = 1 ∨ e = -1) := by
        simp only [List.mem_cons, List.not_mem_nil, or_false] at hx
        rcases hx with h | h | h
        · exact ⟨_, h, .inl rfl⟩
        · exact ⟨_, h, .inl rfl⟩
        · exact ⟨_, h, .inr rfl⟩
      have b1 : z < 10 ^ 40 := Int.lt_of_lt_of_le z1' (by
        have : (10 : Nat) ^ m.toNat ≤ 10 ^ 40 := Nat.pow_le_pow_right (by decide) (by omega)
        have h2 : (((10 : Nat) ^ m.toNat : Nat) : Int) ≤ (((10 : Nat) ^ 40 : Nat) : Int) := Int.ofNat_le.mpr this
        rw [Int.natCast_pow, Int.natCast_pow] at h2
        exact h2)
      refine ⟨_, _, rfl, rfl, .inr ?_, q H7 _ (g6.trans g7) ?_⟩
      · rcases he with rfl | rfl <;> exact ⟨by decide, by decide⟩
      · rcases he with rfl | rfl
        · have : z * 1 = z := Int.mul_one z
          rw [this]
          omega
        · have : z * -1 = -z := by omega
          rw [this]
          omega
theorem ok__law_pv_string (T : Txt K mg) (D__law_draw : Kept P w K mg base 1 "_law_draw" ["d", "many"] spDraw) (D__law_pick : Kept P w K mg base 2 "_law_pick" ["d", "row"] (spPick K)) {f : Addr} {fd : FuncData} (F : FnP K "_law_pv_string" s__law_pv_string f fd) : FnOk P w K mg base CX0 3 f fd ["d"] spPS := by
  refine F.ok sc__law_pv_string (fun vs H Q E h => ?_) (fun cdv A outer s H vs Q E hr h => ?_)
  · obtain ⟨Sa, D, rfl, _⟩ := h
    rfl
  · obtain ⟨Sa, D, rfl, d, q⟩ := h
    refine ⟨_, PSs.nox (pss_cons (ps_set (i := 1) sc__law_pv_string.nd rfl (Or.inl rfl) pe_str)
      (pss_cons (ps_set (i := 1) sc__law_pv_string.nd rfl (Or.inl rfl) (pe_op op_add_str (pv 1) pe_str))
      (pss_cons (ps_if (pt_cmpR op_eq (pe_d D__law_draw (hr.mono (by decide)) (by rfl) (pa_cons (pv 0) (pa_cons pe_int pa_nil))) pe_int (nomark _)) (pss_one (ps_ret (pe_d D__law_pick (hr.mono (by decide)) (by rfl) (pa_cons (pv 0) (pa_cons (pe_lst (pa_cons pe_str (pa_cons pe_str (pa_cons pe_str (pa_cons pe_str (pa_cons pe_str (pa_cons pe_str (pa_cons pe_str (pa_cons pe_str (pa_cons pe_str (pa_cons pe_str pa_nil))))))))))) pa_nil))))) pss_nil)
      (pss_cons (ps_set (i := 2) sc__law_pv_string.nd rfl (Or.inl rfl) pe_str)
      (pss_cons (ps_for PassesOwn.never rfl (pi_range1 (by rfl) T.b_range (pa_cons (pe_d D__law_draw (hr.mono (by decide)) (by rfl) (pa_cons (pv 0) (pa_cons pe_int pa_nil))) pa_nil)) (pg_name (i := 3) sc__law_pv_string.nd rfl (Or.inl rfl)) (pss_one (ps_set (i := 2) sc__law_pv_string.nd rfl (Or.inl rfl) (pe_op op_add_str (pv 2) (pe_d D__law_pick (hr.mono (by decide)) (by rfl) (pa_cons (pv 0) (pa_cons (pv 1) pa_nil)))))))
      (pss_one (ps_ret (pv 2)))))))), ?_⟩
    have b0 : (Str.ofString " !#$&'()*+,-./0123456789:;<=>?@ABCDEFGHIJKLMNOPQRSTUVWXYZ[\\]^_`").length + (Str.ofString "abcdefghijklmnopqrstuvwxyz{|}~").length ≤ sizeLine := by decide +kernel
    refine ⟨_, rfl, _, _, rfl, rfl, b0, ?_⟩
    have s0 : strB (Str.ofString " !#$&'()*+,-./0123456789:;<=>?@ABCDEFGHIJKLMNOPQRSTUVWXYZ[\\]^_`" ++ Str.ofString "abcdefghijklmnopqrstuvwxyz{|}~") = true := by decide +kernel
    have s1 : 0 < (Str.ofString " !#$&'()*+,-./0123456789:;<=>?@ABCDEFGHIJKLMNOPQRSTUVWXYZ[\\]^_`" ++ Str.ofString "abcdefghijklmnopqrstuvwxyz{|}~").cps.toList.length := by decide +kernel
    have s2 : (Str.ofString " !#$&'()*+,-./0123456789:;<=>?@ABCDEFGHIJKLMNOPQRSTUVWXYZ[\\]^_`" ++ Str.ofString "abcdefghijklmnopqrstuvwxyz{|}~").cps.toList.length ≤ 100000 := by decide +kernel
    generalize Str.ofString " !#$&'()*+,-./0123456789:;<=>?@ABCDEFGHIJKLMNOPQRSTUVWXYZ[\\]^_`" ++ Str.ofString "abcdefghijklmnopqrstuvwxyz{|}~" = sg at s0 s1 s2
    refine ⟨_, rfl, Sa, D, 3, rfl, divW_of (by decide) (by decide), d, fun H1 v v0 v1 g1 => ⟨rfl, _, rfl, ite2 (fun _ => ?_) (fun _ => ?_)⟩⟩
    · refine ⟨_, rfl, by show 10 ≤ sizeLine; decide, fun l hl => ?_⟩
      have lD := (g1.1.free hl).1
      have el := upd_same (H := H1) (a := l) (o := .lst ((([("" : Str), "none", "(1,2)", "-5", ",", "0", " ", "a b", ")", "()"] : List Str)).map V.str))
      have g2 := g1.trans (Go.new (o := .lst ((([("" : Str), "none", "(1,2)", "-5", ",", "0", " ", "a b", ")", "()"] : List Str)).map V.str)) g1.1 hl)
      refine ⟨Sa, D, .ref l, (([("" : Str), "none", "(1,2)", "-5", ",", "0", " ", "a b", ")", "()"] : List Str)).map V.str, rfl, g2.1, fun H' g => .inr (.inl ⟨l, rfl, SqL.of (g.2 _ _ el lD)⟩), by show 0 < 10; decide, by show 10 ≤ 100000; decide, fun H3 x hx g3 => ?_⟩
      obtain ⟨z, hz, rfl⟩ := List.mem_map.mp hx
      have ok : ((([("" : Str), "none", "(1,2)", "-5", ",", "0", " ", "a b", ")", "()"] : List Str)).all fun z => strB z && decide (z.length ≤ 40)) = true := by decide +kernel
      have h := List.all_eq_true.mp ok z hz
      rw [Bool.and_eq_true, decide_eq_true_eq] at h
      exact q _ z (g2.trans g3) h.1 h.2
    · have e0 : strB (Str.ofString "") = true := by decide +kernel
      have e1 : (Str.ofString "").length ≤ 0 := by decide +kernel
      refine ⟨_, rfl, Sa, D, 9, rfl, divW_of (by decide) (by decide), g1.1, fun H2 m m0 m1 g2 => ⟨_, rfl, by omega, by omega, for_range (lo := 0) (n := m.toNat) (fun i σ H' => ∃ (z : Str) (y3 : Option V), σ = [some (.ref D), some (.str sg), some (.str z), y3] ∧ Go Sa D H H' ∧ strB z = true ∧ z.length ≤ i) ⟨_, _, rfl, g1.trans g2, e0, e1⟩ ?_ ?_⟩⟩
      · rintro i σ H3 hi ⟨z, y3, rfl, g3, hz, zl⟩
        refine ⟨_, rfl, _, rfl, _, rfl, Sa, D, .str sg, sg.cps.toList.map fun c => .str ⟨#[c]⟩, rfl, g3.1, fun H' g => .inl ⟨sg, rfl, rfl⟩, by rw [List.length_map]; exact s1, by rw [List.length_map]; exact s2, fun H4 x hx g4 => ?_⟩
        obtain ⟨c, hc, rfl⟩ := List.mem_map.mp hx
        have lc : (⟨#[c]⟩ : Str).length = 1 := rfl
        have la : (z ++ (⟨#[c]⟩ : Str)).length = z.length + 1 := by
          show (z.cps ++ #[c]).size = z.cps.size + 1
          rw [Array.size_append]
          rfl
        refine ⟨_, _, rfl, rfl, by rw [lc]; exact line5 (by omega), _, _, rfl, g3.trans g4, ?_, by omega⟩
        show ((z.cps ++ #[c]).toList.all _) = true
        rw [Array.toList_append, List.all_append, Bool.and_eq_true]
        refine ⟨hz, ?_⟩
        show (_ && true) = true
        rw [Bool.and_true]
        exact List.all_eq_true.mp (show (sg.cps.toList.all fun c => decide (32 ≤ c) && (decide (c ≤ 126) && decide (c ≠ 34))) = true from s0) c hc
      · rintro σ H3 ⟨z, y3, rfl, g3, hz, zl⟩
        exact ⟨_, rfl, q _ z g3 hz (by omega)⟩
end
end Mt
namespace Mt
open PySem PySem.Spec PyProof.Rows L2 SX
/-- the draws went on, and the counter at L -/
structure GL (Sa D L : Addr) (H H' : Hp) : Prop where
  d : DrawAt Sa D H'
  k : ∀ b o, H b = some o → b ≠ D → b ≠ L → H' b = some o
  l : ∃ z : Int, H' L = some (.lst [.int z])
section
variable {K : PySem.W.Frag} {Sa D L : Addr} {H H1 H2 : Hp}
theorem GL.refl (d : DrawAt Sa D H) {z : Int} (h : H L = some (.lst [.int z])) : GL Sa D L H H := ⟨d, fun _ _ e _ _ => e, z, h⟩
theorem GL.trans (a : GL Sa D L H H1) (b : GL Sa D L H1 H2) : GL Sa D L H H2 := ⟨b.d, fun x o e n m => b.k x o (a.k x o e n m) n m, b.l⟩
theorem GL.go (ne : L ≠ D) (a : GL Sa D L H H1) (g : Go Sa D H1 H2) : GL Sa D L H H2 := by
  obtain ⟨z, h⟩ := a.l
  exact ⟨g.1, fun x o e n m => g.2 x o (a.k x o e n m) n, z, g.2 _ _ h ne⟩
theorem GL.set (ne : L ≠ D) (ns : L ≠ Sa) (a : GL Sa D L H H1) (z : Int) : GL Sa D L H (upd H1 L (.lst [.int z])) :=
  ⟨a.d.upd ne ns, fun x o e n m => by
    rw [upd_ne m]
    exact a.k x o e n m, z, upd_same⟩
theorem GL.keepT (d : DrawAt Sa D H) {z : Int} (h : H L = some (.lst [.int z])) (a : GL Sa D L H H1) : KeepT H H1 := fun q xs r => by
  obtain ⟨_, _, _, _, hD⟩ := d.at_
  rcases r with r | ⟨o, r⟩
  · refine .inl (a.k q _ r (fun e => ?_) (fun e => ?_))
    · rw [e, hD] at r
      cases r
    · rw [e, h] at r
      cases r
  · refine .inr ⟨o, a.k q _ r (fun e => ?_) (fun e => ?_)⟩
    · rw [e, hD] at r
      cases r
    · rw [e, h] at r
      cases r
theorem GL.free (d : DrawAt Sa D H) {z : Int} (hL : H L = some (.lst [.int z])) (a : GL Sa D L H H1) {x : Addr} (h : H1 x = none) : H x = none := by
  cases e : H x with
  | none => rfl
  | some o =>
    obtain ⟨z', hl⟩ := a.l
    have n1 : x ≠ L := fun e2 => by
      rw [e2, hl] at h
      cases h
    have n2 : x ≠ D := (a.d.free h).1
    rw [a.k x o e n2 n1] at h
    cases h
end
def bnd : Nat → Nat
  | 0 => 45
  | n + 1 => 5 * (bnd n + 1) + 2
theorem bnd_pos (n : Nat) : 45 ≤ bnd n := by
  induction n with
  | zero => exact Nat.le_refl _
  | succ n ih =>
    show 45 ≤ 5 * (bnd n + 1) + 2
    omega
theorem txr_bnd {B : Nat} : ∀ {ds : List PyData}, (∀ d ∈ ds, (tx d).length ≤ B) → (txr ds).length ≤ ds.length * (B + 1)
  | [], _ => Nat.zero_le _
  | d :: r, h => by
    show (44 :: (tx d ++ txr r)).length ≤ (r.length + 1) * (B + 1)
    have h1 := h d List.mem_cons_self
    have h2 := txr_bnd (ds := r) fun x hx => h x (List.mem_cons_of_mem _ hx)
    rw [List.length_cons, List.length_append, Nat.add_mul, Nat.one_mul]
    omega
theorem deps_le {n : Nat} : ∀ {ds : List PyData}, (∀ d ∈ ds, dep d ≤ n) → deps ds ≤ n
  | [], _ => Nat.zero_le _
  | d :: r, h => Nat.max_le.mpr ⟨h d List.mem_cons_self, deps_le (ds := r) fun x hx => h x (List.mem_cons_of_mem _ hx)⟩
def spMd (K : PySem.W.Frag) (m : Nat) : Sp := fun vs H Q _ => ∃ (Sa D L : Addr) (n : Nat) (z : Int), vs = [.ref D, .int (n : Int), .ref L] ∧ n < m ∧ n < 100 ∧ DrawAt Sa D H ∧ L ≠ D ∧ L ≠ Sa ∧ H L = some (.lst [.int z]) ∧
  ∀ (H' : Hp) (v : V) (d : PyData), GL Sa D L H H' → Dp K H' v d → pvB d = true → dep d ≤ n → (tx d).length ≤ bnd n → Q v H'
section
variable {P : Program} {w : World} {K : PySem.W.Frag} {mg : Str → Option Value} {base : Heap}
theorem md_ok (T : Txt K mg) (D__law_draw : Kept P w K mg base 1 "_law_draw" ["d", "many"] spDraw) (D__law_pick : Kept P w K mg base 2 "_law_pick" ["d", "row"] (spPick K)) (D__law_pv_int : Kept P w K mg base 3 "_law_pv_int" ["d", "most"] spPI) (D__law_pv_string : Kept P w K mg base 3 "_law_pv_string" ["d"] spPS) :
    ∀ (m : Nat) {f : Addr} {fd : FuncData}, FnP K "_law_pv_made" s__law_pv_made f fd → mg "_law_pv_made" = some (.ref f) → Binds K fd ["d", "depth", "left"] [] → FnOk P w K mg base CX0 (m + 4) f fd ["d", "depth", "left"] (spMd K m)
  | 0, f, fd, F, hg, hb => F.ok (k := 3) sc__law_pv_made (fun vs H Q E h => by
      obtain ⟨Sa, D, L, n, z, rfl, _⟩ := h
      rfl) (fun cdv A outer s H vs Q E hr h => by
      obtain ⟨Sa, D, L, n, z, rfl, h, _⟩ := h
      exact absurd h (Nat.not_lt_zero _))
  | m + 1, f, fd, F, hg, hb => by
    have D__law_pv_made : Kept P w K mg base (m + 4) "_law_pv_made" ["d", "depth", "left"] (spMd K m) := ⟨f, fd, md_ok T D__law_draw D__law_pick D__law_pv_int D__law_pv_string m F hg hb, hg, F.kp, hb⟩
    refine F.ok (k := m + 4) sc__law_pv_made (fun vs H Q E h => ?_) (fun cdv A outer s H vs Q E hr h => ?_)
    · obtain ⟨Sa, D, L, n, z, rfl, _⟩ := h
      rfl
    · obtain ⟨Sa, D, L, n, z, rfl, hnm, n100, d, LD, LS, hL, q⟩ := h
      refine ⟨_, PSs.nox (pss_cons (ps_augS (pv 2) pe_int get_list pe_int ip_sub set_list)
      (pss_cons (ps_set (i := 3) sc__law_pv_made.nd rfl (Or.inl rfl) (pe_d D__law_draw (hr.mono (by omega)) (by rfl) (pa_cons (pv 0) (pa_cons pe_int pa_nil))))
      (Evl.pss_cut (ps_if (PW.pt (pw_and (pt_cmpR op_gt (pv 1) pe_int (nomark _)) (pw_and (pt_cmpR op_lt (pv 3) pe_int (nomark _)) (pw_and1 (pt_cmpR op_gt (pe_ix ix_list (pv 2) pe_int (fun _ _ => rfl)) pe_int (nomark _)))))) (pss_cons (ps_set (i := 4) sc__law_pv_made.nd rfl (Or.inl rfl) (pe_lst pa_nil))
      (pss_cons (ps_for PassesOwn.never rfl (pi_range1 (by rfl) T.b_range (pa_cons (pe_d D__law_pick (hr.mono (by omega)) (by rfl) (pa_cons (pv 0) (pa_cons (pe_lst (pa_cons pe_int (pa_cons pe_int (pa_cons pe_int (pa_cons pe_int (pa_cons pe_int pa_nil)))))) pa_nil))) pa_nil)) (pg_name (i := 5) sc__law_pv_made.nd rfl (Or.inl rfl)) (pss_one (ps_if (pt_cmpR op_gt (pe_ix ix_list (pv 2) pe_int (fun _ _ => rfl)) pe_int (nomark _)) (pss_one (ps_expr (pe_bm PySem.F.plainAttrs_list PySem.F.slot_list_append PySem.F.type_list_append mt_append (pv 4) (pa_cons (pe_d D__law_pv_made (hr.mono (by omega)) (by rfl) (pa_cons (pv 0) (pa_cons (pe_op op_sub (pv 1) pe_int) (pa_cons (pv 2) pa_nil)))) pa_nil)))) pss_nil)))
      (pss_one (ps_ret (pe_callTy call_tuple_of (by rfl) T.b_tuple (by decide +kernel) (pa_cons (pv 4) pa_nil)))))) pss_nil)
      (pss_cons (ps_if (pt_cmpR op_eq (pv 3) pe_int (nomark _)) (pss_one (ps_ret pe_non)) pss_nil)
      (pss_cons (ps_if (PW.pt (pw_or (pt_cmpR op_eq (pv 3) pe_int (nomark _)) (pw_or1 (pt_cmpR op_eq (pv 3) pe_int (nomark _))))) (pss_one (ps_ret (pe_d D__law_pv_string (hr.mono (by omega)) (by rfl) (pa_cons (pv 0) pa_nil)))) pss_nil)
      (pss_one (ps_ret (pe_d D__law_pv_int (hr.mono (by omega)) (by rfl) (pa_cons (pv 0) (pa_cons pe_int pa_nil)))))))))), ?_⟩
      refine ⟨_, rfl, L, _, _, _, rfl, rfl, SqL.of hL, atI_nat (j := 0) rfl, _, _, rfl, rfl, L, _, _, 0, rfl, rfl, hL, rfl, ?_⟩
      have gl0 : GL Sa D L H (upd H L (.lst [.int (z - 1)])) := (GL.refl d hL).set LD LS (z - 1)
      refine ⟨_, rfl, Sa, D, 8, rfl, divW_of (by decide) (by decide), gl0.d, fun H1 way w0 w1 g1 => ?_⟩
      have gl1 := gl0.go LD g1
      refine ⟨fun σ' H' => σ' = [some (.ref D), some (.int (n : Int)), some (.ref L), some (.int way), none, none] ∧ GL Sa D L H H', ?_, ?_⟩
      · refine ⟨_, rfl, _, _, rfl, rfl, _, rfl, ite2 (fun hn => ?_) (fun _ => ite2 (fun h => (nomatch (show false = true from h))) (fun _ => ⟨rfl, gl1⟩))⟩
        refine ⟨_, rfl, _, _, rfl, rfl, _, rfl, ite2 (fun _ => ?_) (fun _ => ite2 (fun h => (nomatch (show false = true from h))) (fun _ => ⟨rfl, gl1⟩))⟩
        obtain ⟨z1', hz1⟩ := gl1.l
        refine ⟨_, rfl, L, _, _, _, rfl, rfl, SqL.of hz1, atI_nat (j := 0) rfl, _, _, rfl, rfl, _, rfl, ite2 (fun _ => ?_) (fun _ => ⟨rfl, gl1⟩)⟩
        have n1 : 0 < n := by
          have := of_decide_eq_true hn
          omega
        obtain ⟨n', rfl⟩ : ∃ n', n = n' + 1 := ⟨n - 1, by omega⟩
        refine ⟨Nat.zero_le _, fun Pt hPt => ?_⟩
        have PtL : Pt ≠ L := fun e => by
          rw [e, hz1] at hPt
          cases hPt
        have PtD := (gl1.d.free hPt).1
        have PtS := (gl1.d.free hPt).2
        have P0 : H Pt = none := gl1.free d hL hPt
        have gl2 : GL Sa D L H (upd H1 Pt (.lst [])) := gl1.go LD (Go.new gl1.d hPt)
        have hPt2 := upd_same (H := H1) (a := Pt) (o := .lst [])
        generalize upd H1 Pt (.lst []) = H2 at gl2 hPt2
        refine ⟨_, rfl, by show 5 ≤ sizeLine; decide, fun l hl => ?_⟩
        have lD := (gl2.d.free hl).1
        have el := upd_same (H := H2) (a := l) (o := .lst [.int 0, .int 1, .int 2, .int 3, .int 5])
        have g3 := Go.new (o := .lst [.int 0, .int 1, .int 2, .int 3, .int 5]) gl2.d hl
        refine ⟨Sa, D, .ref l, [.int 0, .int 1, .int 2, .int 3, .int 5], rfl, g3.1, fun H' g => .inr (.inl ⟨l, rfl, SqL.of (g.2 _ _ el lD)⟩), by show 0 < 5; decide, by show 5 ≤ 100000; decide, fun H4 x hx g4 => ?_⟩
        obtain ⟨c, rfl, c0, c5⟩ : ∃ c : Int, x = V.int c ∧ 0 ≤ c ∧ c ≤ 5 := by
          simp only [List.mem_cons, List.not_mem_nil, or_false] at hx
          rcases hx with h | h | h | h | h <;> exact ⟨_, h, by decide, by decide⟩
        have gl4 := gl2.go LD (g3.trans g4)
        have hPt4 := (g3.trans g4).2 _ _ hPt2 PtD
        refine ⟨_, rfl, by omega, by omega, for_range (lo := 0) (n := c.toNat) (fun i σ H' => ∃ (zs : List V) (ds : List PyData) (y5 : Option V), σ = [some (.ref D), some (.int ((n' + 1 : Nat) : Int)), some (.ref L), some (.int way), some (.ref Pt), y5] ∧ GL Sa D L H H' ∧ H' Pt = some (.lst zs) ∧ DpAll K H' zs ds ∧ ds.length ≤ i ∧ ∀ e ∈ ds, pvB e = true ∧ dep e ≤ n' ∧ (tx e).length ≤ bnd n') ⟨[], [], _, rfl, gl4, hPt4, .nil, Nat.le_refl _, fun _ h => absurd h List.not_mem_nil⟩ ?_ ?_⟩
        · rintro i σ H5 hi ⟨zs, ds, y5, rfl, gl5, hP5, hA5, dl, hds⟩
          have zl := dpA_len hA5
          obtain ⟨z5, hz5⟩ := gl5.l
          refine ⟨_, rfl, L, _, _, _, rfl, rfl, SqL.of hz5, atI_nat (j := 0) rfl, _, _, rfl, rfl, _, rfl, ite2 (fun _ => ?_) (fun _ => ⟨zs, ds, _, rfl, gl5, hP5, hA5, by omega, hds⟩)⟩
          refine ⟨_, rfl, .inl ⟨rfl, _, SqL.of hP5⟩, _, rfl, _, rfl, _, _, rfl, rfl, _, rfl, Sa, D, L, n', z5, ?_, by omega, by omega, gl5.d, LD, LS, hz5, fun H6 v e gl6 hv pe de te => ?_⟩
          · show [V.ref D, V.int (((n' + 1 : Nat) : Int) - 1), V.ref L] = _
            rw [show ((n' + 1 : Nat) : Int) - 1 = (n' : Int) by omega]
          have hP6 := gl6.k _ _ hP5 PtD PtL
          have k6 := gl6.keepT gl5.d hz5
          have nlA : noLs ds = true := pvs_noL _ (pvs_all fun x hx => (hds x hx).1)
          have hA6 := dpA_keep k6 _ _ nlA hA5
          have kL := keepT_nt (o := .lst (zs ++ [v])) (nt_lst _) hP6
          have glx := gl5.trans gl6
          refine ⟨Pt, zs, _, rfl, rfl, hP6, line6 (by omega), zs ++ [v], ds ++ [e], _, rfl, ⟨glx.d.upd PtD PtS, fun b o hb nD nL => ?_, ?_⟩, upd_same, dpA_snoc (dpA_keep kL _ _ nlA hA6) (dp_keep kL _ _ (pv_noL _ pe) hv), by rw [List.length_append, List.length_singleton]; omega, fun x hx => ?_⟩
          · rw [upd_ne (ne_of_none hb P0)]
            exact glx.k b o hb nD nL
          · obtain ⟨z6, hz6⟩ := glx.l
            exact ⟨z6, by rw [upd_ne PtL.symm]; exact hz6⟩
          · rcases List.mem_append.mp hx with h | h
            · exact hds x h
            · rw [List.mem_singleton.mp h]
              exact ⟨pe, de, te⟩
        · rintro σ H5 ⟨zs, ds, y5, rfl, gl5, hP5, hA5, dl, hds⟩
          refine ⟨_, rfl, Pt, zs, rfl, .inl ⟨SqL.of hP5, fun pt hpt => ?_⟩⟩
          refine q _ _ (.tuple ds) (gl5.go LD (Go.new gl5.d hpt)) (.tup (SqT.of upd_same) (dpA_same (same_new hpt) _ _ hA5)) (pvs_all fun x hx => (hds x hx).1) (Nat.succ_le_succ (deps_le fun x hx => (hds x hx).2.1)) ?_
          have h1 := txr_bnd (B := bnd n') fun x hx => (hds x hx).2.2
          have h2 : ds.length * (bnd n' + 1) ≤ 5 * (bnd n' + 1) := Nat.mul_le_mul_right _ (by omega)
          have h3 : (txs ds).length ≤ (txr ds).length := by
            rw [← txr_drop, List.length_drop]
            exact Nat.sub_le _ _
          show (40 :: (txs ds ++ [41])).length ≤ 5 * (bnd n' + 1) + 2
          rw [List.length_cons, List.length_append, List.length_singleton]
          omega
      · rintro σ' H2 ⟨rfl, gl2⟩
        have bp := bnd_pos n
        have lstr : ∀ x : Str, strB x = true → x.length ≤ 40 → ∀ H', Go Sa D H2 H' → Q (.str x) H' := fun x hx lx H' g => q _ _ (.str x) (gl2.go LD g) (.str x) hx (Nat.zero_le _) (by
          show (34 :: (x.cps.toList ++ [34])).length ≤ _
          rw [List.length_cons, List.length_append, List.length_singleton, Array.length_toList]
          have : x.cps.size ≤ 40 := lx
          omega)
        refine ⟨_, rfl, rfl, _, rfl, ite2 (fun _ => ?_) (fun _ => ?_)⟩
        · exact q _ _ .none gl2 .non rfl (Nat.zero_le _) (by show 4 ≤ _; omega)
        refine ⟨_, rfl, rfl, _, rfl, ite2 (fun _ => ite2 (fun _ => ?_) (fun h => absurd rfl h)) (fun _ => ?_)⟩
        · exact ⟨_, rfl, Sa, D, rfl, gl2.d, fun H' x g hx lx => lstr x hx lx H' g⟩
        refine ⟨_, rfl, rfl, _, rfl, ite2 (fun _ => ?_) (fun _ => ?_)⟩
        · exact ⟨_, rfl, Sa, D, rfl, gl2.d, fun H' x g hx lx => lstr x hx lx H' g⟩
        · refine ⟨_, rfl, Sa, D, rfl, gl2.d, fun H' x g hx => q _ _ (.int x) (gl2.go LD g) (.int x) (decide_eq_true hx) (Nat.zero_le _) ?_⟩
          have h1 := TL.numL_len (k := 40) (by decide) hx
          show (if x < 0 then 45 :: TL.numL x.natAbs else TL.numL x.natAbs).length ≤ _
          split
          · rw [List.length_cons]
            omega
          · omega
end
end Mt
namespace Mt
open PySem PySem.Spec PyProof.Rows L2 SX
def spDp (K : PySem.W.Frag) : Sp := fun vs H Q _ => ∃ (Sa D : Addr), vs = [.ref D] ∧ DrawAt Sa D H ∧ ∀ (H' : Hp) (v : V) (d : PyData), Go Sa D H H' → Dp K H' v d → pvB d = true → dep d < 42 → (tx d).length ≤ 60000 → Q v H'
/-- a value wrapped once -/
def wr1 (e : PyData) : List PyData := [.tuple [e], .tuple [e, .none], .tuple [.int (-7), e], .tuple [.str "(", e]]
theorem wr1_ok {e x : PyData} (he : pvB e = true) (h : x ∈ wr1 e) : pvB x = true ∧ dep x ≤ dep e + 1 ∧ (tx x).length ≤ (tx e).length + 8 := by
  have t1 : ∀ (l : List Nat), (40 :: (l ++ [41])).length = l.length + 2 := fun l => by
    rw [List.length_cons, List.length_append, List.length_singleton]
  have hs : strB (Str.ofString "(") = true := by decide +kernel
  have hl : (tx (.str "(")).length = 3 := by decide +kernel
  have h7 : (tx (.int (-7))).length = 2 := by decide +kernel
  rcases List.mem_cons.mp h with rfl | h
  · refine ⟨?_, ?_, ?_⟩
    · show (pvB e && true) = true
      rw [he]
      rfl
    · show max (dep e) 0 + 1 ≤ _
      omega
    · show (40 :: ((tx e ++ []) ++ [41])).length ≤ _
      rw [t1, List.append_nil]
      omega
  rcases List.mem_cons.mp h with rfl | h
  · refine ⟨?_, ?_, ?_⟩
    · show (pvB e && (true && true)) = true
      rw [he]
      rfl
    · show max (dep e) (max 0 0) + 1 ≤ _
      omega
    · show (40 :: ((tx e ++ (44 :: (tx .none ++ []))) ++ [41])).length ≤ _
      rw [t1, List.length_append, List.append_nil, List.length_cons]
      show _ + (4 + 1) + 2 ≤ _
      omega
  rcases List.mem_cons.mp h with rfl | h
  · refine ⟨?_, ?_, ?_⟩
    · show (pvB (.int (-7)) && (pvB e && true)) = true
      rw [he]
      decide +kernel
    · show max 0 (max (dep e) 0) + 1 ≤ _
      omega
    · show (40 :: ((tx (.int (-7)) ++ (44 :: (tx e ++ []))) ++ [41])).length ≤ _
      rw [t1, List.length_append, List.append_nil, List.length_cons, h7]
      omega
  · rw [List.mem_singleton.mp h]
    refine ⟨?_, ?_, ?_⟩
    · show (strB (Str.ofString "(") && (pvB e && true)) = true
      rw [he, hs]
      rfl
    · show max 0 (max (dep e) 0) + 1 ≤ _
      omega
    · show (40 :: ((tx (.str "(") ++ (44 :: (tx e ++ []))) ++ [41])).length ≤ _
      rw [t1, List.length_append, List.append_nil, List.length_cons, hl]
      omega
section
variable {P : Program} {w : World} {K : PySem.W.Frag} {mg : Str → Option Value} {base : Heap}
theorem ok__law_pv_deep (T : Txt K mg) (D__law_draw : Kept P w K mg base 1 "_law_draw" ["d", "many"] spDraw) (D__law_pick : Kept P w K mg base 2 "_law_pick" ["d", "row"] (spPick K)) (D__law_rare : Kept P w K mg base 2 "_law_rare" ["d", "many"] spRare) (D__law_pv_made : Kept P w K mg base 9 "_law_pv_made" ["d", "depth", "left"] (spMd K 5)) {f : Addr} {fd : FuncData} (F : FnP K "_law_pv_deep" s__law_pv_deep f fd) : FnOk P w K mg base CX0 10 f fd ["d"] (spDp K) := by
  refine F.ok (k := 9) sc__law_pv_deep (fun vs H Q E h => ?_) (fun cdv A outer s H vs Q E hr h => ?_)
  · obtain ⟨S, D, rfl, _⟩ := h
    rfl
  · obtain ⟨Sa, D, rfl, d, q⟩ := h
    refine ⟨_, PSs.nox (pss_cons (ps_set (i := 1) sc__law_pv_deep.nd rfl (Or.inl rfl) (pe_d D__law_pv_made (hr.mono (by decide)) (by rfl) (pa_cons (pv 0) (pa_cons pe_int (pa_cons (pe_lst (pa_cons pe_int pa_nil)) pa_nil)))))
      (Evl.pss_cut (ps_if (pt_val (pe_d D__law_rare (hr.mono (by decide)) (by rfl) (pa_cons (pv 0) (pa_cons pe_int pa_nil)))) (pss_cons (ps_set (i := 2) sc__law_pv_deep.nd rfl (Or.inl rfl) (pe_d D__law_pick (hr.mono (by decide)) (by rfl) (pa_cons (pv 0) (pa_cons (pe_lst (pa_cons pe_int (pa_cons pe_int (pa_cons pe_int (pa_cons (pe_op op_add pe_int (pe_d D__law_draw (hr.mono (by decide)) (by rfl) (pa_cons (pv 0) (pa_cons pe_int pa_nil)))) pa_nil))))) pa_nil))))
      (pss_one (ps_for PassesOwn.never rfl (pi_range1 (by rfl) T.b_range (pa_cons (pv 2) pa_nil)) (pg_name (i := 3) sc__law_pv_deep.nd rfl (Or.inl rfl)) (pss_one (ps_set (i := 1) sc__law_pv_deep.nd rfl (Or.inl rfl) (pe_d D__law_pick (hr.mono (by decide)) (by rfl) (pa_cons (pv 0) (pa_cons (pe_lst (pa_cons (pe_tup (pa_cons (pv 1) pa_nil)) (pa_cons (pe_tup (pa_cons (pv 1) (pa_cons pe_non pa_nil))) (pa_cons (pe_tup (pa_cons (pe_un un_neg pe_int) (pa_cons (pv 1) pa_nil))) (pa_cons (pe_tup (pa_cons pe_str (pa_cons (pv 1) pa_nil))) pa_nil))))) pa_nil)))))))) pss_nil)
      (pss_one (ps_ret (pv 1))))), ?_⟩
    refine ⟨_, rfl, z1, fun L hL => ?_⟩
    have LD := (d.free hL).1
    have LS := (d.free hL).2
    refine ⟨Sa, D, L, 4, 40, rfl, by decide, by decide, d.new hL, LD, LS, upd_same, fun H1 v e gl hv pe de te => ?_⟩
    have g1 : Go Sa D H H1 := ⟨gl.d, fun b o hb nb => gl.k b o (same_new hL b o hb) nb (ne_of_none hb hL)⟩
    have te : (tx e).length ≤ 29217 := te
    refine ⟨fun σ' H' => ∃ (v : V) (e : PyData) (y2 y3 : Option V), σ' = [some (.ref D), some v, y2, y3] ∧ Go Sa D H H' ∧ Dp K H' v e ∧ pvB e = true ∧ dep e < 42 ∧ (tx e).length ≤ 60000, ?_, ?_⟩
    · refine ⟨_, rfl, Sa, D, 7, rfl, by decide, by decide, g1.1, fun H2 b g2 => ⟨_, rfl, ite2 (fun _ => ?_) (fun _ => ⟨v, e, _, _, rfl, g1.trans g2, dp_keep (Go.keepT g1.1 g2) _ _ (pv_noL _ pe) hv, pe, by omega, by omega⟩)⟩⟩
      have hv2 := dp_keep (Go.keepT g1.1 g2) _ _ (pv_noL _ pe) hv
      have g12 := g1.trans g2
      refine ⟨_, rfl, _, rfl, Sa, D, 36, rfl, divW_of (by decide) (by decide), g12.1, fun H3 u u0 u1 g3 => ⟨_, _, rfl, rfl, by show 4 ≤ sizeLine; decide, fun l hl => ?_⟩⟩
      have g13 := g12.trans g3
      have lD := (g3.1.free hl).1
      have el := upd_same (H := H3) (a := l) (o := .lst [.int 1, .int 5, .int 36, .int (1 + u)])
      have g4 := Go.new (o := .lst [.int 1, .int 5, .int 36, .int (1 + u)]) g3.1 hl
      refine ⟨Sa, D, .ref l, [.int 1, .int 5, .int 36, .int (1 + u)], rfl, g4.1, fun H' g => .inr (.inl ⟨l, rfl, SqL.of (g.2 _ _ el lD)⟩), by show 0 < 4; decide, by show 4 ≤ 100000; decide, fun H5 x hx g5 => ?_⟩
      obtain ⟨m, rfl, m1, m36⟩ : ∃ m : Int, x = V.int m ∧ 1 ≤ m ∧ m ≤ 36 := by
        simp only [List.mem_cons, List.not_mem_nil, or_false] at hx
        rcases hx with h | h | h | h <;> exact ⟨_, h, by omega, by omega⟩
      have g25 := (g3.trans g4).trans g5
      have hv5 := dp_keep (Go.keepT g12.1 g25) _ _ (pv_noL _ pe) hv2
      refine ⟨_, rfl, _, rfl, by omega, by omega, for_range (lo := 0) (n := m.toNat) (fun i σ H' => ∃ (v : V) (e : PyData) (y3 : Option V), σ = [some (.ref D), some v, some (.int m), y3] ∧ Go Sa D H H' ∧ Dp K H' v e ∧ pvB e = true ∧ dep e ≤ 4 + i ∧ (tx e).length ≤ 29217 + 8 * i) ⟨v, e, _, rfl, g12.trans g25, hv5, pe, de, te⟩ ?_ ?_⟩
      · rintro i σ H6 hi ⟨v, e, y3, rfl, g6, hv6, pe, de, te⟩
        refine ⟨_, rfl, _, rfl, z1, fun p1 h1 => ⟨_, rfl, z2, fun p2 h2 => ⟨_, rfl, _, rfl, z2, fun p3 h3 => ⟨_, rfl, z2, fun p4 h4 => ⟨by show 4 ≤ sizeLine; decide, fun lp kp => ?_⟩⟩⟩⟩⟩
        obtain ⟨s1, d1⟩ := new_tup (K := K) h1 (.cons hv6 .nil)
        obtain ⟨s2, d2⟩ := new_tup (K := K) h2 (.cons (dp_same s1 _ _ hv6) (.cons .non .nil))
        obtain ⟨s3, d3⟩ := new_tup (K := K) h3 (.cons (.int (-7)) (.cons (dp_same (s1.trans s2) _ _ hv6) .nil))
        obtain ⟨s4, d4⟩ := new_tup (K := K) h4 (.cons (.str "(") (.cons (dp_same (s1.trans (s2.trans s3)) _ _ hv6) .nil))
        have s5 := same_new (o := .lst [.ref p1, .ref p2, .ref p3, .ref p4]) kp
        have e5 := upd_same (a := lp) (o := .lst [.ref p1, .ref p2, .ref p3, .ref p4]) (H := upd (upd (upd (upd H6 p1 (.tup [v])) p2 (.tup [v, .non])) p3 (.tup [.int (-7), v])) p4 (.tup [.str "(", v]))
        have all := s1.trans (s2.trans (s3.trans (s4.trans s5)))
        have key : ∀ x ∈ [V.ref p1, .ref p2, .ref p3, .ref p4], ∃ e' ∈ wr1 e, Dp K (upd (upd (upd (upd (upd H6 p1 (.tup [v])) p2 (.tup [v, .non])) p3 (.tup [.int (-7), v])) p4 (.tup [.str "(", v])) lp (.lst [.ref p1, .ref p2, .ref p3, .ref p4])) x e' := fun x hx => by
          rcases List.mem_cons.mp hx with rfl | hx
          · exact ⟨_, List.mem_cons_self, dp_same (s2.trans (s3.trans (s4.trans s5))) _ _ d1⟩
          rcases List.mem_cons.mp hx with rfl | hx
          · exact ⟨_, List.mem_cons_of_mem _ List.mem_cons_self, dp_same (s3.trans (s4.trans s5)) _ _ d2⟩
          rcases List.mem_cons.mp hx with rfl | hx
          · exact ⟨_, List.mem_cons_of_mem _ (List.mem_cons_of_mem _ List.mem_cons_self), dp_same (s4.trans s5) _ _ d3⟩
          · rw [List.mem_singleton.mp hx]
            exact ⟨_, List.mem_cons_of_mem _ (List.mem_cons_of_mem _ (List.mem_cons_of_mem _ List.mem_cons_self)), dp_same s5 _ _ d4⟩
        have g7 := g6.trans (Go.same g6.1 all)
        have lpD := (g6.1.free ((s1.trans (s2.trans (s3.trans s4))).free kp)).1
        generalize upd (upd (upd (upd (upd H6 p1 (.tup [v])) p2 (.tup [v, .non])) p3 (.tup [.int (-7), v])) p4 (.tup [.str "(", v])) lp (.lst [.ref p1, .ref p2, .ref p3, .ref p4]) = H7 at e5 key g7
        refine ⟨Sa, D, .ref lp, [.ref p1, .ref p2, .ref p3, .ref p4], rfl, g7.1, fun H' g => .inr (.inl ⟨lp, rfl, SqL.of (g.2 _ _ e5 lpD)⟩), by show 0 < 4; decide, by show 4 ≤ 100000; decide, fun H8 x hx g8 => ?_⟩
        obtain ⟨e', he', hxe⟩ := key x hx
        obtain ⟨o1, o2, o3⟩ := wr1_ok pe he'
        exact ⟨x, e', _, rfl, g7.trans g8, dp_keep (Go.keepT g7.1 g8) _ _ (pv_noL _ o1) hxe, o1, by omega, by omega⟩
      · rintro σ H6 ⟨v, e, y3, rfl, g6, hv6, pe, de, te⟩
        exact ⟨v, e, _, _, rfl, g6, hv6, pe, by omega, by omega⟩
    · rintro σ' H2 ⟨v, e, y2, y3, rfl, g2, hv2, pe2, de2, te2⟩
      exact ⟨_, rfl, q H2 v e g2 hv2 pe2 de2 te2⟩
end
end Mt
namespace Mt
open PySem PySem.Spec PyProof.Rows L2 SX
def spBk (K : PySem.W.Frag) : Sp := fun vs H Q _ => ∃ (v : V) (d : PyData), vs = [v] ∧ Dp K H v d ∧ pvB d = true ∧ dep d < 42 ∧ (tx d).length ≤ 60000 ∧ ∀ H', Same H H' → Q (.bl true) H'
section
variable {P : Program} {w : World} {K : PySem.W.Frag} {mg : Str → Option Value} {base : Heap}
theorem ok__law_pv_back (T : Txt K mg) (D_write_value : Kept P w K mg base 43 "write_value" ["value"] (spWr K 42)) (D_read_value : Kept P w K mg base 90 "read_value" ["text"] (spRV K)) (D__law_pv_text : Kept P w K mg base 43 "_law_pv_text" ["value"] (spWr K 42)) (D__law_pv_same : Kept P w K mg base 44 "_law_pv_same" ["told", "due"] (spSm K 42)) {f : Addr} {fd : FuncData} (F : FnP K "_law_pv_back" s__law_pv_back f fd) : FnOk P w K mg base CX0 91 f fd ["value"] (spBk K) := by
  refine F.ok (k := 90) sc__law_pv_back (fun vs H Q E h => ?_) (fun cdv A outer s H vs Q E hr h => ?_)
  · obtain ⟨v, d, rfl, _⟩ := h
    rfl
  · obtain ⟨v, d, rfl, hv, hp, hd, hl, q⟩ := h
    refine ⟨_, PSs.nox (pss_cons (ps_set (i := 1) sc__law_pv_back.nd rfl (Or.inl rfl) (pe_d D__law_pv_text (hr.mono (by decide)) (by rfl) (pa_cons (pv 0) pa_nil)))
      (pss_cons (ps_set (i := 2) sc__law_pv_back.nd rfl (Or.inl rfl) (pe_d D_write_value (hr.mono (by decide)) (by rfl) (pa_cons (pv 0) pa_nil)))
      (pss_cons (ps_if (PW.pt (pw_or (pt_not (pt_val (pe_callB call_isi (by rfl) T.b_isinstance (by decide +kernel) (pa_cons (pv 2) (pa_cons (pe_bltn (v := .ty "str") (u := .type "str") (by rfl) T.b_str (by decide +kernel) rfl) pa_nil))))) (pw_or1 (pt_cmpR op_ne (pv 2) (pv 1) (nomark _))))) (pss_one (ps_ret pe_bl)) pss_nil)
      (pss_cons (ps_try_thru0 (pss_one (ps_set (i := 3) sc__law_pv_back.nd rfl (Or.inl rfl) (pe_d D_read_value (hr.mono (by decide)) (by rfl) (pa_cons (pv 1) pa_nil)))))
      (pss_one (ps_ret (pe_d D__law_pv_same (hr.mono (by decide)) (by rfl) (pa_cons (pv 3) (pa_cons (pv 0) pa_nil))))))))), ?_⟩
    refine ⟨_, rfl, v, d, rfl, hv, hp, hd, hl, fun H1 s1 => ?_⟩
    have hv1 := dp_same s1 _ _ hv
    refine ⟨_, rfl, v, d, rfl, hv1, hp, hd, hl, fun H2 s2 => ?_⟩
    have hv2 := dp_same s2 _ _ hv1
    refine ⟨_, rfl, _, .ty "str", .type "str", .type "str", true, rfl, .ty _, .base (.str _), kit_ty (by decide +kernel), true, rfl, ite2 (fun h => (nomatch (show false = true from h))) (fun _ => ?_)⟩
    refine ⟨_, rfl, _, rfl, rfl, ?_⟩
    rw [decide_eq_true rfl]
    refine ⟨_, rfl, ite2 (fun h => (nomatch (show false = true from h))) (fun _ => ?_)⟩
    refine ⟨_, rfl, d, rfl, hp, hd, hl, fun H3 u s3 hu => ?_⟩
    refine ⟨_, rfl, _, rfl, u, v, d, rfl, hu, dp_same s3 _ _ hv2, hp, hd, hl, fun H4 s4 => q _ (s1.trans (s2.trans (s3.trans s4)))⟩
theorem ok_law (T : Txt K mg) (D__law_begin : Kept P w K mg base 1 "_law_begin" ["script"] (spBegin K)) (D__law_pv_deep : Kept P w K mg base 10 "_law_pv_deep" ["d"] (spDp K)) (D__law_pv_back : Kept P w K mg base 91 "_law_pv_back" ["value"] (spBk K)) {f : Addr} {fd : FuncData} (F : FnP K "law" s_law f fd) : FnOk P w K mg base CX0 92 f fd ["script"] (spLaw K) := by
  refine F.ok (k := 91) sc_law (fun vs H Q E h => ?_) (fun cdv A outer s H vs Q E hr h => ?_)
  · obtain ⟨a, ns, rfl, _⟩ := h
    rfl
  · obtain ⟨a, ns, rfl, hS, hl, q⟩ := h
    refine ⟨_, PSs.nox (pss_cons (ps_set (i := 1) sc_law.nd rfl (Or.inr rfl) (pe_d D__law_begin (hr.mono (by decide)) (by rfl) (pa_cons (pv 0) pa_nil)))
      (pss_cons (ps_setLc (i := 2) (own := [("k", 3)]) (g := (gName 3)) (tt := tYes) rfl sc_law.nd rfl rfl (sw_true rfl rfl rfl (by decide +kernel)) (pi_range1 (by rfl) T.b_range (pa_cons pe_int pa_nil)) (blkOk_by (N := N_law) (sc := defScope s_law) (by decide +kernel)) (fun _ _ _ _ _ => (pg_name (i := 3) sc_law.nd rfl (Or.inl rfl))) (fun _ _ _ _ _ => pts_nil) (fun _ _ _ _ _ => (pe_d D__law_pv_deep (hr.mono (by decide)) (by rfl) (pa_cons (pv 1) pa_nil))))
      (pss_cons (ps_for PassesOwn.never rfl (pi_list (pe_op op_cat (pv 2) (pe_slice sl_list (pv 2) po_none (po_some pe_int)))) (pg_name (i := 4) sc_law.nd rfl (Or.inl rfl)) (pss_one (ps_if (pt_not (pt_val (pe_d D__law_pv_back (hr.mono (by decide)) (by rfl) (pa_cons (pv 4) pa_nil)))) (pss_one (ps_ret pe_bl)) pss_nil)))
      (pss_one (ps_ret pe_bl))))), ?_⟩
    refine ⟨_, rfl, a, ns, rfl, hS, hl, fun Sa D H1 s1 D0 d => ?_⟩
    refine ⟨_, rfl, by decide, by decide, fun Lv hLv => lc_range (lo := 0) (n := 3) (fun j H' => ∃ (zs : List V) (ds : List PyData), Go Sa D H1 H' ∧ H' Lv = some (.lst zs) ∧ DpAll K H' zs ds ∧ ds.length = j ∧ ∀ e ∈ ds, pvB e = true ∧ dep e < 42 ∧ (tx e).length ≤ 60000) ⟨[], [], Go.new d hLv, upd_same, .nil, rfl, fun _ h => absurd h List.not_mem_nil⟩ ?_ ?_⟩
    · rintro j H2 hj ⟨zs, ds, g2, h2, hA, dl, hds⟩
      have LD := (d.free hLv).1
      have zl := dpA_len hA
      refine ⟨rfl, _, rfl, Sa, D, rfl, g2.1, fun H3 v e g3 hv pe de te => ?_⟩
      have nlA : noLs ds = true := pvs_noL _ (pvs_all fun x hx => (hds x hx).1)
      have h3 := g3.2 _ _ h2 LD
      have kL := keepT_nt (o := .lst (zs ++ [v])) (nt_lst _) h3
      refine ⟨zs, h3, line6 (by omega), zs ++ [v], ds ++ [e], goU hLv d (g2.trans g3), upd_same, dpA_snoc (dpA_keep kL _ _ nlA (dpA_keep (Go.keepT g2.1 g3) _ _ nlA hA)) (dp_keep kL _ _ (pv_noL _ pe) hv), by rw [List.length_append, dl]; rfl, fun x hx => ?_⟩
      rcases List.mem_append.mp hx with h | h
      · exact hds x h
      · rw [List.mem_singleton.mp h]
        exact ⟨pe, de, te⟩
    · rintro H2 ⟨zs, ds, g2, h2, hA, dl, hds⟩
      have zl := dpA_len hA
      refine ⟨_, rfl, _, rfl, _, rfl, Lv, zs, rfl, SqL.of h2, fun p1 h1 => ?_⟩
      have t1 := same_new (o := .lst (cutV zs none (some 1))) h1
      have e1 := upd_same (H := H2) (a := p1) (o := .lst (cutV zs none (some 1)))
      generalize upd H2 p1 (.lst (cutV zs none (some 1))) = H3 at t1 e1
      have cl : (cutV zs none (some 1)).length ≤ zs.length := by
        unfold cutV
        rw [List.length_take, List.length_drop]
        omega
      refine ⟨Lv, p1, _, _, rfl, rfl, t1 _ _ h2, e1, line5 (by omega), fun p2 h2' => ?_⟩
      have t2 := same_new (o := .lst (zs ++ cutV zs none (some 1))) h2'
      have e2 := upd_same (H := H3) (a := p2) (o := .lst (zs ++ cutV zs none (some 1)))
      generalize upd H3 p2 (.lst (zs ++ cutV zs none (some 1))) = H4 at t2 e2
      have t12 := t1.trans t2
      have all : ∀ x ∈ zs ++ cutV zs none (some 1), ∃ e, Dp K H4 x e ∧ pvB e = true ∧ dep e < 42 ∧ (tx e).length ≤ 60000 := fun x hx => by
        have hx2 : x ∈ zs := by
          rcases List.mem_append.mp hx with h | h
          · exact h
          · unfold cutV at h
            exact List.mem_of_mem_drop (List.mem_of_mem_take h)
        obtain ⟨i, hi⟩ := List.mem_iff_getElem?.mp hx2
        obtain ⟨e, he, hxe⟩ := dpA_at hA hi
        exact ⟨e, dp_same t12 _ _ hxe, hds e (List.mem_of_getElem? he)⟩
      refine ⟨p2, rfl, ⟨_, SqL.of e2⟩, for_list (K := K) (a := p2) (xs := zs ++ cutV zs none (some 1)) (fun i σ H' => ∃ (y3 y4 : Option V), σ = [some (.ref a), some (.ref D), some (.ref Lv), y3, y4] ∧ Same H4 H') ⟨_, _, rfl, Same.refl _⟩ (fun i σ H' _ e => by
        obtain ⟨_, _, _, s⟩ := e
        exact same_l s (SqL.of e2)) ?_ ?_⟩
      · rintro i x σ H5 hi ⟨y3, y4, rfl, s5⟩
        obtain ⟨e, hx, pe, de, te⟩ := all x (List.mem_of_getElem? hi)
        exact ⟨_, rfl, x, e, rfl, dp_same s5 _ _ hx, pe, de, te, fun H6 s6 => ⟨true, rfl, ite2 (fun h => (nomatch (show false = true from h))) (fun _ => ⟨_, _, rfl, s5.trans s6⟩)⟩⟩
      · rintro σ H5 ⟨y3, y4, rfl, s5⟩
        exact q _
end
end Mt
namespace Mt
open PySem PySem.Spec PyProof.Rows L2
def dd__wall : He.DefD := ⟨("_wall", none), "_wall", "_wall", defArgs s__wall, defBody s__wall, defScope s__wall, [], []⟩
def dd_write_value : He.DefD := ⟨("write_value", none), "write_value", "write_value", defArgs s_write_value, defBody s_write_value, defScope s_write_value, [], []⟩
def dd_read_value : He.DefD := ⟨("read_value", none), "read_value", "read_value", defArgs s_read_value, defBody s_read_value, defScope s_read_value, [], []⟩
def dd_read_inner : He.DefD := ⟨("read_inner", none), "read_inner", "read_inner", defArgs s_read_inner, defBody s_read_inner, defScope s_read_inner, [], []⟩
def dd_read_tuple : He.DefD := ⟨("read_tuple", none), "read_tuple", "read_tuple", defArgs s_read_tuple, defBody s_read_tuple, defScope s_read_tuple, [], []⟩
def dd_read_string : He.DefD := ⟨("read_string", none), "read_string", "read_string", defArgs s_read_string, defBody s_read_string, defScope s_read_string, [], []⟩
def dd_read_integer : He.DefD := ⟨("read_integer", none), "read_integer", "read_integer", defArgs s_read_integer, defBody s_read_integer, defScope s_read_integer, [], []⟩
def dd__law_begin : He.DefD := ⟨("_law_begin", none), "_law_begin", "_law_begin", defArgs s__law_begin, defBody s__law_begin, defScope s__law_begin, [], []⟩
def dd__law_draw : He.DefD := ⟨("_law_draw", none), "_law_draw", "_law_draw", defArgs s__law_draw, defBody s__law_draw, defScope s__law_draw, [], []⟩
def dd__law_pick : He.DefD := ⟨("_law_pick", none), "_law_pick", "_law_pick", defArgs s__law_pick, defBody s__law_pick, defScope s__law_pick, [], []⟩
def dd__law_rare : He.DefD := ⟨("_law_rare", none), "_law_rare", "_law_rare", defArgs s__law_rare, defBody s__law_rare, defScope s__law_rare, [], []⟩
def dd__law_is_int : He.DefD := ⟨("_law_is_int", none), "_law_is_int", "_law_is_int", defArgs s__law_is_int, defBody s__law_is_int, defScope s__law_is_int, [], []⟩
def dd__law_pv_int : He.DefD := ⟨("_law_pv_int", none), "_law_pv_int", "_law_pv_int", defArgs s__law_pv_int, defBody s__law_pv_int, defScope s__law_pv_int, [], []⟩
def dd__law_pv_string : He.DefD := ⟨("_law_pv_string", none), "_law_pv_string", "_law_pv_string", defArgs s__law_pv_string, defBody s__law_pv_string, defScope s__law_pv_string, [], []⟩
def dd__law_pv_made : He.DefD := ⟨("_law_pv_made", none), "_law_pv_made", "_law_pv_made", defArgs s__law_pv_made, defBody s__law_pv_made, defScope s__law_pv_made, [], []⟩
def dd__law_pv_deep : He.DefD := ⟨("_law_pv_deep", none), "_law_pv_deep", "_law_pv_deep", defArgs s__law_pv_deep, defBody s__law_pv_deep, defScope s__law_pv_deep, [], []⟩
def dd__law_pv_text : He.DefD := ⟨("_law_pv_text", none), "_law_pv_text", "_law_pv_text", defArgs s__law_pv_text, defBody s__law_pv_text, defScope s__law_pv_text, [], []⟩
def dd__law_pv_same : He.DefD := ⟨("_law_pv_same", none), "_law_pv_same", "_law_pv_same", defArgs s__law_pv_same, defBody s__law_pv_same, defScope s__law_pv_same, [], []⟩
def dd__law_pv_back : He.DefD := ⟨("_law_pv_back", none), "_law_pv_back", "_law_pv_back", defArgs s__law_pv_back, defBody s__law_pv_back, defScope s__law_pv_back, [], []⟩
def dd_law : He.DefD := ⟨("law", none), "law", "law", defArgs s_law, defBody s_law, defScope s_law, [], []⟩
def dd_r0 : He.DefD := ⟨("Reader", some "__init__"), "__init__", "Reader.__init__", defArgs s_r0, defBody s_r0, defScope s_r0, [], []⟩
def dd_r1 : He.DefD := ⟨("Reader", some "ahead"), "ahead", "Reader.ahead", defArgs s_r1, defBody s_r1, defScope s_r1, [], []⟩
def dd_r2 : He.DefD := ⟨("Reader", some "read_any"), "read_any", "Reader.read_any", defArgs s_r2, defBody s_r2, defScope s_r2, [], []⟩
def dd_r3 : He.DefD := ⟨("Reader", some "expect"), "expect", "Reader.expect", defArgs s_r3, defBody s_r3, defScope s_r3, [], []⟩
def dd_r4 : He.DefD := ⟨("Reader", some "accept"), "accept", "Reader.accept", defArgs s_r4, defBody s_r4, defScope s_r4, [], []⟩
def dd_r6 : He.DefD := ⟨("Reader", some "is_at_number"), "is_at_number", "Reader.is_at_number", defArgs s_r6, defBody s_r6, defScope s_r6, [], []⟩
def dd_r9 : He.DefD := ⟨("Reader", some "finish"), "finish", "Reader.finish", defArgs s_r9, defBody s_r9, defScope s_r9, [], []⟩
def dds : List He.DefD := [dd__wall, dd_write_value, dd_read_value, dd_read_inner, dd_read_tuple, dd_read_string, dd_read_integer, dd__law_begin, dd__law_draw, dd__law_pick, dd__law_rare, dd__law_is_int, dd__law_pv_int, dd__law_pv_string, dd__law_pv_made, dd__law_pv_deep, dd__law_pv_text, dd__law_pv_same, dd__law_pv_back, dd_law, dd_r0, dd_r1, dd_r2, dd_r3, dd_r4, dd_r6, dd_r9]
def fas : List He.Fa := [.glo "_wall", .glo "write_value", .glo "read_value", .glo "read_inner", .glo "read_tuple", .glo "read_string", .glo "read_integer", .glo "_law_begin", .glo "_law_draw", .glo "_law_pick", .glo "_law_rare", .glo "_law_is_int", .glo "_law_pv_int", .glo "_law_pv_string", .glo "_law_pv_made", .glo "_law_pv_deep", .glo "_law_pv_text", .glo "_law_pv_same", .glo "_law_pv_back", .glo "law", .free "int", .free "abs", .free "len", .free "isinstance", .free "bool", .free "tuple", .free "range", .free "str", .free "all", .str "DIGITS" "0123456789", .str "FIRST_FIGURES" "123456789", .str "QUOTE" "\"", .glo "Reader", .cls "Reader", .noat "Reader" "tokens", .noat "Reader" "at", .mkr "Reader", .meth "Reader" "ahead", .meth "Reader" "read_any", .meth "Reader" "expect", .meth "Reader" "accept", .meth "Reader" "is_at_number", .meth "Reader" "finish"]
def exM (K : PySem.W.Frag) : Bool := true
abbrev R : PySem.W.OpenRow := PySem.W.OpenLaw.row PySem.Challenge.rw_meantrace_k46_values_written
abbrev hk : PySem.W.Hook := hookM 6 fas dds exM
def ob (s : PySem.W.SharedT) : AlM := obsM 6 fas dds exM (HandSHeadRun.getT s)
theorem ob_eq (s : PySem.W.SharedT) : ob s = hk.obs s.abs := obsM_eq (HandSHeadRun.getT_eq s)
def names : List PySem.Str := ["_wall", "MeanError", "BadText", "DIGITS", "Reader", "FIRST_FIGURES", "QUOTE", "write_value", "read_value", "read_inner", "read_tuple", "read_string", "read_integer", "_law_begin", "_law_draw", "_law_pick", "_law_rare", "_law_is_int", "_law_pv_int", "_law_pv_string", "_law_pv_made", "_law_pv_deep", "_law_pv_text", "_law_pv_same", "_law_pv_back"]
theorem run (w : World) : HandSHeadRun.RunEq R (PySem.W.view R.prog [29]) hk ob 3000 names w := by
  intro os; kernel_rfl
theorem facts {P : Program} {w : World} {K : PySem.W.Frag} {h : Heap} {mg : Str → Option Value} {f : Addr} (X : K.In h) (G : h.Ns mainGlobals mg) (hfa : mg ("law" : Str) = some (.ref f)) (c : SaysM fas dds exM K) :
    ∃ fd : FuncData, (∀ (s : Shared) (v : Value), BindsTo s fd ⟨[v], []⟩ [("script", v)]) ∧ ∀ base : Heap, K.In base → base.Ns mainGlobals mg → FnOk P w K mg base CX0 92 f fd ["script"] (spLaw K) := by
  obtain ⟨fd, F⟩ := c.1.def_ 19 (d := dd_law) rfl
  have e := hfa.symm.trans (He.glo_ok X G (c.1.fact 19 (f := .glo "law") rfl))
  cases e
  have T : Txt K mg := ⟨He.free_ok X G (c.1.fact 20 (f := .free "int") rfl), He.free_ok X G (c.1.fact 21 (f := .free "abs") rfl), He.free_ok X G (c.1.fact 22 (f := .free "len") rfl), He.free_ok X G (c.1.fact 23 (f := .free "isinstance") rfl), He.free_ok X G (c.1.fact 24 (f := .free "bool") rfl), He.free_ok X G (c.1.fact 25 (f := .free "tuple") rfl), He.free_ok X G (c.1.fact 26 (f := .free "range") rfl), He.free_ok X G (c.1.fact 27 (f := .free "str") rfl), He.free_ok X G (c.1.fact 28 (f := .free "all") rfl), He.str_ok X G (c.1.fact 29 (f := .str "DIGITS" "0123456789") rfl), He.str_ok X G (c.1.fact 30 (f := .str "FIRST_FIGURES" "123456789") rfl), He.str_ok X G (c.1.fact 31 (f := .str "QUOTE" "\"") rfl)⟩
  have b := FunD.bindsA (ps := ["script"]) F fun _ _ _ _ _ _ us hl => match us, hl with | [_], _ => rfl
  refine ⟨fd, fun s v => b s [v] rfl, fun base _ _ => ?_⟩
  have D__law_begin : Kept P w K mg base 1 "_law_begin" ["script"] (spBegin K) := kept_of (st := s__law_begin) X G (c.1.def_ 7 (d := dd__law_begin) rfl) (c.1.fact 7 (f := .glo "_law_begin") rfl) (fun _ _ _ _ _ _ us hl => match us, hl with | [_], _ => rfl) (fun f fd F => ok__law_begin T F)
  have D__law_draw : Kept P w K mg base 1 "_law_draw" ["d", "many"] spDraw := kept_of (st := s__law_draw) X G (c.1.def_ 8 (d := dd__law_draw) rfl) (c.1.fact 8 (f := .glo "_law_draw") rfl) (fun _ _ _ _ _ _ us hl => match us, hl with | [_, _], _ => rfl) (fun f fd F => ok__law_draw T F)
  have D__law_is_int : Kept P w K mg base 1 "_law_is_int" ["thing"] spIsInt := kept_of (st := s__law_is_int) X G (c.1.def_ 11 (d := dd__law_is_int) rfl) (c.1.fact 11 (f := .glo "_law_is_int") rfl) (fun _ _ _ _ _ _ us hl => match us, hl with | [_], _ => rfl) (fun f fd F => ok__law_is_int T F)
  have D__law_pick : Kept P w K mg base 2 "_law_pick" ["d", "row"] (spPick K) := kept_of (st := s__law_pick) X G (c.1.def_ 9 (d := dd__law_pick) rfl) (c.1.fact 9 (f := .glo "_law_pick") rfl) (fun _ _ _ _ _ _ us hl => match us, hl with | [_, _], _ => rfl) (fun f fd F => ok__law_pick T D__law_draw F)
  have D__law_rare : Kept P w K mg base 2 "_law_rare" ["d", "many"] spRare := kept_of (st := s__law_rare) X G (c.1.def_ 10 (d := dd__law_rare) rfl) (c.1.fact 10 (f := .glo "_law_rare") rfl) (fun _ _ _ _ _ _ us hl => match us, hl with | [_, _], _ => rfl) (fun f fd F => ok__law_rare T D__law_draw F)
  have D__law_pv_int : Kept P w K mg base 3 "_law_pv_int" ["d", "most"] spPI := kept_of (st := s__law_pv_int) X G (c.1.def_ 12 (d := dd__law_pv_int) rfl) (c.1.fact 12 (f := .glo "_law_pv_int") rfl) (fun _ _ _ _ _ _ us hl => match us, hl with | [_, _], _ => rfl) (fun f fd F => ok__law_pv_int T D__law_draw D__law_pick F)
  have D__law_pv_string : Kept P w K mg base 3 "_law_pv_string" ["d"] spPS := kept_of (st := s__law_pv_string) X G (c.1.def_ 13 (d := dd__law_pv_string) rfl) (c.1.fact 13 (f := .glo "_law_pv_string") rfl) (fun _ _ _ _ _ _ us hl => match us, hl with | [_], _ => rfl) (fun f fd F => ok__law_pv_string T D__law_draw D__law_pick F)
  have RX : RTx K (He.ga K "Reader") := ⟨He.cls_ok (c.1.fact 33 (f := .cls "Reader") rfl), He.noat_ok (c.1.fact 34 (f := .noat "Reader" "tokens") rfl), He.noat_ok (c.1.fact 35 (f := .noat "Reader" "at") rfl)⟩
  obtain ⟨fd0, F0⟩ := c.1.def_ 20 (d := dd_r0) rfl
  have b0 : Binds K fd0 ["self", "tokens"] [] := FunD.bindsN (ps := ["self", "tokens"]) F0 fun _ _ _ _ _ _ us hl => match us, hl with | [_, _], _ => rfl
  obtain ⟨fd1, F1⟩ := c.1.def_ 21 (d := dd_r1) rfl
  have b1 : Binds K fd1 ["self"] [] := FunD.bindsN (ps := ["self"]) F1 fun _ _ _ _ _ _ us hl => match us, hl with | [_], _ => rfl
  have h1 := He.meth_ok (c.1.fact 37 (f := .meth "Reader" "ahead") rfl)
  obtain ⟨fd2, F2⟩ := c.1.def_ 22 (d := dd_r2) rfl
  have b2 : Binds K fd2 ["self"] [] := FunD.bindsN (ps := ["self"]) F2 fun _ _ _ _ _ _ us hl => match us, hl with | [_], _ => rfl
  have h2 := He.meth_ok (c.1.fact 38 (f := .meth "Reader" "read_any") rfl)
  obtain ⟨fd3, F3⟩ := c.1.def_ 23 (d := dd_r3) rfl
  have b3 : Binds K fd3 ["self", "word"] [] := FunD.bindsN (ps := ["self", "word"]) F3 fun _ _ _ _ _ _ us hl => match us, hl with | [_, _], _ => rfl
  have h3 := He.meth_ok (c.1.fact 39 (f := .meth "Reader" "expect") rfl)
  obtain ⟨fd4, F4⟩ := c.1.def_ 24 (d := dd_r4) rfl
  have b4 : Binds K fd4 ["self", "word"] [] := FunD.bindsN (ps := ["self", "word"]) F4 fun _ _ _ _ _ _ us hl => match us, hl with | [_, _], _ => rfl
  have h4 := He.meth_ok (c.1.fact 40 (f := .meth "Reader" "accept") rfl)
  obtain ⟨fd6, F6⟩ := c.1.def_ 25 (d := dd_r6) rfl
  have b6 : Binds K fd6 ["self"] [] := FunD.bindsN (ps := ["self"]) F6 fun _ _ _ _ _ _ us hl => match us, hl with | [_], _ => rfl
  have h6 := He.meth_ok (c.1.fact 41 (f := .meth "Reader" "is_at_number") rfl)
  obtain ⟨fd9, F9⟩ := c.1.def_ 26 (d := dd_r9) rfl
  have b9 : Binds K fd9 ["self"] [] := FunD.bindsN (ps := ["self"]) F9 fun _ _ _ _ _ _ us hl => match us, hl with | [_], _ => rfl
  have h9 := He.meth_ok (c.1.fact 42 (f := .meth "Reader" "finish") rfl)
  have m1 : MetP P w K mg base 1 (He.ga K "Reader") "ahead" ["self"] (spR1 (He.ga K "Reader")) := ⟨_, fd1, RX.cl, h1, ok_r1 T RX F1, b1⟩
  have m2 : MetP P w K mg base 2 (He.ga K "Reader") "read_any" ["self"] (spR2 (He.ga K "Reader")) := ⟨_, fd2, RX.cl, h2, ok_r2 RX m1 F2, b2⟩
  have m3 : MetP P w K mg base 2 (He.ga K "Reader") "expect" ["self", "word"] (spR3 (He.ga K "Reader")) := ⟨_, fd3, RX.cl, h3, ok_r3 RX m1 F3, b3⟩
  have m4 : MetP P w K mg base 2 (He.ga K "Reader") "accept" ["self", "word"] (spR4 (He.ga K "Reader")) := ⟨_, fd4, RX.cl, h4, ok_r4 RX m1 F4, b4⟩
  have m6 : MetP P w K mg base 2 (He.ga K "Reader") "is_at_number" ["self"] (spR6 (He.ga K "Reader")) := ⟨_, fd6, RX.cl, h6, ok_r6 T m1 F6, b6⟩
  have m9 : MetP P w K mg base 1 (He.ga K "Reader") "finish" ["self"] (spR9 (He.ga K "Reader")) := ⟨_, fd9, RX.cl, h9, ok_r9 T RX F9, b9⟩
  have Rd : Rdr P w K mg base (He.ga K "Reader") (He.ma K (He.ga K "Reader") "__init__") fd0 := ⟨He.glo_ok X G (c.1.fact 32 (f := .glo "Reader") rfl), He.mkr_ok (c.1.fact 36 (f := .mkr "Reader") rfl), ok_r0 RX F0, b0, m1, m2, m3, m4, m6, m9⟩
  obtain ⟨fd_write_value, F_write_value⟩ := c.1.def_ 1 (d := dd_write_value) rfl
  have g_write_value := He.glo_ok X G (c.1.fact 1 (f := .glo "write_value") rfl)
  have b_write_value : Binds K fd_write_value ["value"] [] := FunD.bindsN (ps := ["value"]) F_write_value fun _ _ _ _ _ _ us hl => match us, hl with | [_], _ => rfl
  have D_write_value : Kept P w K mg base 43 "write_value" ["value"] (spWr K 42) := ⟨_, fd_write_value, wr_ok T 42 F_write_value g_write_value b_write_value, g_write_value, F_write_value.kp, b_write_value⟩
  obtain ⟨fd__law_pv_text, F__law_pv_text⟩ := c.1.def_ 16 (d := dd__law_pv_text) rfl
  have g__law_pv_text := He.glo_ok X G (c.1.fact 16 (f := .glo "_law_pv_text") rfl)
  have b__law_pv_text : Binds K fd__law_pv_text ["value"] [] := FunD.bindsN (ps := ["value"]) F__law_pv_text fun _ _ _ _ _ _ us hl => match us, hl with | [_], _ => rfl
  have D__law_pv_text : Kept P w K mg base 43 "_law_pv_text" ["value"] (spWr K 42) := ⟨_, fd__law_pv_text, pt_ok T 42 F__law_pv_text g__law_pv_text b__law_pv_text, g__law_pv_text, F__law_pv_text.kp, b__law_pv_text⟩
  obtain ⟨fd__law_pv_same, F__law_pv_same⟩ := c.1.def_ 17 (d := dd__law_pv_same) rfl
  have g__law_pv_same := He.glo_ok X G (c.1.fact 17 (f := .glo "_law_pv_same") rfl)
  have b__law_pv_same : Binds K fd__law_pv_same ["told", "due"] [] := FunD.bindsN (ps := ["told", "due"]) F__law_pv_same fun _ _ _ _ _ _ us hl => match us, hl with | [_, _], _ => rfl
  have D__law_pv_same : Kept P w K mg base 44 "_law_pv_same" ["told", "due"] (spSm K 42) := ⟨_, fd__law_pv_same, sm_ok T D__law_is_int 42 F__law_pv_same g__law_pv_same b__law_pv_same, g__law_pv_same, F__law_pv_same.kp, b__law_pv_same⟩
  obtain ⟨fd_read_string, F_read_string⟩ := c.1.def_ 5 (d := dd_read_string) rfl
  have g_read_string := He.glo_ok X G (c.1.fact 5 (f := .glo "read_string") rfl)
  have b_read_string : Binds K fd_read_string ["reader"] [] := FunD.bindsN (ps := ["reader"]) F_read_string fun _ _ _ _ _ _ us hl => match us, hl with | [_], _ => rfl
  have D_read_string : Kept P w K mg base 3 "read_string" ["reader"] (spStr (He.ga K "Reader")) := ⟨_, fd_read_string, ok_read_string T Rd F_read_string, g_read_string, F_read_string.kp, b_read_string⟩
  obtain ⟨fd_read_integer, F_read_integer⟩ := c.1.def_ 6 (d := dd_read_integer) rfl
  have g_read_integer := He.glo_ok X G (c.1.fact 6 (f := .glo "read_integer") rfl)
  have b_read_integer : Binds K fd_read_integer ["reader"] [] := FunD.bindsN (ps := ["reader"]) F_read_integer fun _ _ _ _ _ _ us hl => match us, hl with | [_], _ => rfl
  have D_read_integer : Kept P w K mg base 3 "read_integer" ["reader"] (spInt (He.ga K "Reader")) := ⟨_, fd_read_integer, ok_read_integer T Rd F_read_integer, g_read_integer, F_read_integer.kp, b_read_integer⟩
  obtain ⟨fd_read_tuple, F_read_tuple⟩ := c.1.def_ 4 (d := dd_read_tuple) rfl
  have g_read_tuple := He.glo_ok X G (c.1.fact 4 (f := .glo "read_tuple") rfl)
  have b_read_tuple : Binds K fd_read_tuple ["reader"] [] := FunD.bindsN (ps := ["reader"]) F_read_tuple fun _ _ _ _ _ _ us hl => match us, hl with | [_], _ => rfl
  obtain ⟨fd_read_inner, F_read_inner⟩ := c.1.def_ 3 (d := dd_read_inner) rfl
  have g_read_inner := He.glo_ok X G (c.1.fact 3 (f := .glo "read_inner") rfl)
  have b_read_inner : Binds K fd_read_inner ["reader"] [] := FunD.bindsN (ps := ["reader"]) F_read_inner fun _ _ _ _ _ _ us hl => match us, hl with | [_], _ => rfl
  have D_read_inner : Kept P w K mg base 89 "read_inner" ["reader"] (spIn K (He.ga K "Reader") 42) := ⟨_, fd_read_inner, in_ok T Rd D_read_string D_read_integer F_read_tuple g_read_tuple b_read_tuple 42 F_read_inner g_read_inner b_read_inner, g_read_inner, F_read_inner.kp, b_read_inner⟩
  obtain ⟨fd_read_value, F_read_value⟩ := c.1.def_ 2 (d := dd_read_value) rfl
  have g_read_value := He.glo_ok X G (c.1.fact 2 (f := .glo "read_value") rfl)
  have b_read_value : Binds K fd_read_value ["text"] [] := FunD.bindsN (ps := ["text"]) F_read_value fun _ _ _ _ _ _ us hl => match us, hl with | [_], _ => rfl
  have D_read_value : Kept P w K mg base 90 "read_value" ["text"] (spRV K) := ⟨_, fd_read_value, ok_read_value T Rd D_read_inner F_read_value, g_read_value, F_read_value.kp, b_read_value⟩
  obtain ⟨fd__law_pv_made, F__law_pv_made⟩ := c.1.def_ 14 (d := dd__law_pv_made) rfl
  have g__law_pv_made := He.glo_ok X G (c.1.fact 14 (f := .glo "_law_pv_made") rfl)
  have b__law_pv_made : Binds K fd__law_pv_made ["d", "depth", "left"] [] := FunD.bindsN (ps := ["d", "depth", "left"]) F__law_pv_made fun _ _ _ _ _ _ us hl => match us, hl with | [_, _, _], _ => rfl
  have D__law_pv_made : Kept P w K mg base 9 "_law_pv_made" ["d", "depth", "left"] (spMd K 5) := ⟨_, fd__law_pv_made, md_ok T D__law_draw D__law_pick D__law_pv_int D__law_pv_string 5 F__law_pv_made g__law_pv_made b__law_pv_made, g__law_pv_made, F__law_pv_made.kp, b__law_pv_made⟩
  have D__law_pv_deep : Kept P w K mg base 10 "_law_pv_deep" ["d"] (spDp K) := kept_of (st := s__law_pv_deep) X G (c.1.def_ 15 (d := dd__law_pv_deep) rfl) (c.1.fact 15 (f := .glo "_law_pv_deep") rfl) (fun _ _ _ _ _ _ us hl => match us, hl with | [_], _ => rfl) (fun f fd F => ok__law_pv_deep T D__law_draw D__law_pick D__law_rare D__law_pv_made F)
  have D__law_pv_back : Kept P w K mg base 91 "_law_pv_back" ["value"] (spBk K) := kept_of (st := s__law_pv_back) X G (c.1.def_ 18 (d := dd__law_pv_back) rfl) (c.1.fact 18 (f := .glo "_law_pv_back") rfl) (fun _ _ _ _ _ _ us hl => match us, hl with | [_], _ => rfl) (fun f fd F => ok__law_pv_back T D_write_value D_read_value D__law_pv_text D__law_pv_same F)
  exact ok_law T D__law_begin D__law_pv_deep D__law_pv_back F
end Mt
open PySem PySem.W PySem.Calls PyProof.Rows
set_option maxHeartbeats 0 in
theorem PySem.Challenge.cw_meantrace_k46_values_written_holds : PySem.Challenge.rw_meantrace_k46_values_written.Holds := by
  w_on; o_law
  refine HandSHeadRun.head_any (r := OpenLaw.row PySem.Challenge.rw_meantrace_k46_values_written) (q := view (OpenLaw.row PySem.Challenge.rw_meantrace_k46_values_written).prog [29]) (H := Mt.hk) (ob := Mt.ob) (M := 3000) (loose := Mt.names) (d := HandSHeadRun.topDef (OpenLaw.row PySem.Challenge.rw_meantrace_k46_values_written).prog 29) (kwd := []) Mt.ob_eq
    (by kernel_rfl) (fun s => by kernel_rfl) Mt.run (by kernel_rfl) (by kernel_rfl) (by kernel_rfl) (by rfl) (by first | assumption | decide +kernel) (by decide +kernel) ⟨rfl, rfl, rfl, rfl, rfl, by decide +kernel⟩ ?hw ?hc
  case hw => w_witness2
  case hc =>
    refine L2.walk_ofE (l := PySem.Challenge.rw_meantrace_k46_values_written) (n := 63) (k := 92) (x := "script") (CX := L2.CX0) rfl (by decide) (by kernel_rfl) ⟨rfl, by decide, by decide⟩ ?F (fun _ _ _ _ z => z)
    intro w mg fa h Y G hmg0
    obtain ⟨K, KX, c⟩ := Y
    have hmg : mg ("law" : PySem.Str) = some (.ref fa) := by
      have e : (HandSHeadRun.topDef (OpenLaw.row PySem.Challenge.rw_meantrace_k46_values_written).prog 29).name = ("law" : PySem.Str) := by kernel_rfl
      rw [← e]
      exact hmg0
    obtain ⟨fd, hb, hF⟩ := Mt.facts (P := (PySem.Challenge.rw_meantrace_k46_values_written).prog) (w := w) KX G hmg c
    exact ⟨K, fd, Mt.spLaw K, KX, hb, fun H a ns hl hO hS => ⟨a, ns, rfl, hS, hl, fun _ => rfl⟩, hF⟩