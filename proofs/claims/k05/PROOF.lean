import PyProof.Rows.All
import Wide.All
import OpenK.AllK
import Wide.FinOn
import KE.KStateDown
import HandS.ForMost
import HandS.Wide
import HandS.IsInst
import HandS.Walk
import HandS.Style
import HandS.Evl
import HandS.StrMore
import HandS.Exc
import HandS.WordsExc
import HandS.Defaults
import HandS.Head0
import HandS.Head1
import HandS.Head2
import HandS.HeadEnd
import HandS.HeadHook1
import HandS.HeadHook2
import PySem.Challenge.RW_meantrace_k05_names
set_option Elab.async false
set_option linter.all false
set_option maxRecDepth 100000
/-! Our own words over the hand layer: defs of the top by name, the draws' state, heaps that go on. -/
namespace Mt
open PySem PySem.Spec PyProof.Rows L2
section
variable {P : Program} {w : World} {K : PySem.W.Frag} {mg : Str → Option Value} {base : Heap}
abbrev FnP (K : PySem.W.Frag) (x : Str) (st : Stmt) (f : Addr) (fd : FuncData) : Prop := FunD K x x (defArgs st) (defBody st) (defScope st) [] [] f fd
/-- a def that keeps its promise -/
def Kept (P : Program) (w : World) (K : PySem.W.Frag) (mg : Str → Option Value) (base : Heap) (k : Nat) (x : Str) (ps : List Str) (sp : Sp) : Prop :=
  ∃ f fd, FnOk P w K mg base CX0 k f fd ps sp ∧ mg x = some (.ref f) ∧ PySem.W.keepIn K (.ref f) = true ∧ Binds K fd ps []
/-- what the head tells: facts by names, defs, one more word of one's own -/
abbrev AlM : Type := He.AlD × Bool
def obsM (n : Nat) (fa : List He.Fa) (fn : List He.DefD) (ex : PySem.W.Frag → Bool) (g : Addr → Option Obj) : AlM := (He.obsDG n fa fn g, ex (He.frG g (He.asD g n)))
def SaysM (fa : List He.Fa) (fn : List He.DefD) (ex : PySem.W.Frag → Bool) (K : PySem.W.Frag) : Prop := He.SaysD fa fn K ∧ ex K = true
def hookM (n : Nat) (fa : List He.Fa) (fn : List He.DefD) (ex : PySem.W.Frag → Bool) : PySem.W.Hook where
  α := AlM
  obs := fun s => obsM n fa fn ex s.heap.get?
  val := fun _ => (He.valD fn, true)
  says := fun _ h => ∃ K : PySem.W.Frag, K.In h ∧ SaysM fa fn ex K
  of := fun _ _ e => ⟨_, He.frG_in, congrArg (fun z : AlM => z.1) e, congrArg (fun z : AlM => z.2) e⟩
  keeps := fun _ _ _ ⟨K, hK, c⟩ k => ⟨K, PySem.W.Frag.In.keeps hK k, c⟩
theorem obsM_eq {n : Nat} {fa : List He.Fa} {fn : List He.DefD} {ex : PySem.W.Frag → Bool} {g : Addr → Option Obj} {s : Shared} (h : ∀ a, g a = s.heap.get? a) : obsM n fa fn ex g = (hookM n fa fn ex).obs s := by
  have e : g = s.heap.get? := funext h
  rw [e] <;> rfl
theorem kept_of {h : Heap} (X : K.In h) (G : h.Ns mainGlobals mg) {x : Str} {ps : List Str} {st : Stmt} {k : Nat} {sp : Sp}
    (hd : ∃ fd, FnP K x st (He.ga K x) fd) (hg : (He.Fa.glo x).ok K = true)
    (hb : ∀ (kV doc pm : Value) (an : Option Addr) (cdv ct : Value) (us : List Value), us.length = ps.length → bindArgs (PySem.W.fnOf x x (defArgs st) (defBody st) (defScope st) .none kV doc pm an cdv ct) ⟨us, []⟩ = pure (ps.zip us))
    (ok : ∀ f fd, FnP K x st f fd → FnOk P w K mg base CX0 k f fd ps sp) : Kept P w K mg base k x ps sp := by
  obtain ⟨fd, F⟩ := hd
  exact ⟨_, fd, ok _ fd F, He.glo_ok X G hg, F.kp, F.bindsN hb⟩
end
section
variable {X : Cx}
theorem pe_d {k : Nat} {x : Str} {ps : List Str} {sp : Sp} {e : Expr} {es : List Expr} {t : TA} {p pos : Pos} (D : Kept X.prog X.w X.K X.mg X.base k x ps sp) (hr : Room k X.A) (hg : Gl X x) (ha : PA X (e :: es) t)
    (hdb : (x == ("__debug__" : Str)) = false := by decide) (he : starEach (e :: es) X.env = (false, eval e X.env) :: starEach es X.env := by rfl) (hpl : (backTo pos (starEach es X.env)).any (·.1) = false := by rfl) :
    PE X (.Call (.Name x p) (e :: es) [] pos) (tCall sp [] E0 t) := by
  obtain ⟨f, fd, F, g, kp, b⟩ := D
  exact pe_call F hr hg g kp b .nil pass0 ha hdb he hpl
theorem pe_d0 {k : Nat} {x : Str} {ps : List Str} {sp : Sp} {p pos : Pos} (D : Kept X.prog X.w X.K X.mg X.base k x ps sp) (hr : Room k X.A) (hg : Gl X x) (hdb : (x == ("__debug__" : Str)) = false := by decide) :
    PE X (.Call (.Name x p) [] [] pos) (tCall sp [] E0 tNil) := by
  obtain ⟨f, fd, F, g, kp, b⟩ := D
  exact pe_call0 F hr hg g kp b .nil pass0 hdb
/-- a text of the module; an object of the module -/
theorem pe_gs {x z : Str} {pos : Pos} (h : ∃ t, X.mg x = some (.str z t)) (hg : Gl X x) (hd : (x == ("__debug__" : Str)) = false := by decide) : PE X (.Name x pos) (tC (.str z)) := by
  obtain ⟨t, h⟩ := h
  exact pe_glob hg h ⟨_, rfl⟩ hd
/-- xs[i] op= e reads xs[i] -/
theorem get_list : PGet X (rIxL X.K) := by
  intro pins s σ H o i ov iv Q I ro ri h
  obtain ⟨p, xs, i, z, rfl, rfl, hq, he, q⟩ := h
  cases ro
  obtain ⟨t, rfl⟩ := ri
  obtain ⟨its, r, pl, hz⟩ := I.list hq
  obtain ⟨j, h1, h2, h3, h4, h5⟩ := atI_get he
  obtain ⟨w, ew, rw'⟩ := r.get h2
  have hl := r.length
  have hn := line63
  have fin : EP X pins σ Q w s := ⟨z, H, I, rw', q⟩
  by_cases h0 : 0 ≤ i
  · have hj : i.toNat = j := by
      rw [seqIndex_of h0 h5] at h1
      exact Option.some.inj h1
    exact wpAny_mono (wpAny_getItem_list (Q := fun r s' => r = w ∧ EP X pins σ Q r s') pl.isList h0 (by omega) (by rw [hj]; simpa using ew) ⟨rfl, fin⟩) (fun _ _ q => q.2) (fun _ _ q => q)
  · have hj : (i + (its.toArray.size : Int)).toNat = j := by
      rw [seqIndex_neg (by omega) h4] at h1
      rw [List.size_toArray, ← hl]
      exact Option.some.inj h1
    exact wpAny_mono (wpAny_getItem_list_neg (Q := fun r s' => r = w ∧ EP X pins σ Q r s') pl.isList (by omega) (by rw [List.size_toArray] <;> omega) (by omega) (by rw [hj]; simpa using ew) ⟨rfl, fin⟩) (fun _ _ q => q.2) (fun _ _ q => q)
end

/-! ### the draws: [cells, place, rest, seed] at D -/
structure DrawAt (S D : Addr) (H : Hp) : Prop where
  ne : S ≠ D
  cells : ∃ cs : List Int, H S = some (.lst (cs.map V.int))
  at_ : ∃ i r c : Int, 0 ≤ i ∧ H D = some (.lst [.ref S, .int i, .int r, .int c])
/-- all else that is tracked stays -/
def Keep (D : Addr) (H H' : Hp) : Prop := ∀ b o, H b = some o → b ≠ D → H' b = some o
def Go (S D : Addr) (H H' : Hp) : Prop := DrawAt S D H' ∧ Keep D H H'
theorem Keep.refl {D : Addr} {H : Hp} : Keep D H H := fun _ _ h _ => h
theorem Keep.trans {D : Addr} {H H1 H2 : Hp} (a : Keep D H H1) (b : Keep D H1 H2) : Keep D H H2 := fun x o h n => b x o (a x o h n) n
theorem Go.trans {S D : Addr} {H H1 H2 : Hp} (a : Go S D H H1) (b : Go S D H1 H2) : Go S D H H2 := ⟨b.1, a.2.trans b.2⟩
theorem Keep.set {D : Addr} {H H' : Hp} {o : HO} (k : Keep D H H') : Keep D H (upd H' D o) := fun b u h n => by
  rw [upd_ne n]
  exact k b u h n
theorem DrawAt.set {S D : Addr} {H : Hp} (d : DrawAt S D H) {i r c : Int} (h : 0 ≤ i) : DrawAt S D (upd H D (.lst [.ref S, .int i, .int r, .int c])) :=
  ⟨d.ne, d.cells.imp fun cs h => by rw [upd_ne d.ne]; exact h, ⟨i, r, c, h, upd_same⟩⟩
theorem DrawAt.new {S D p : Addr} {H : Hp} {o : HO} (d : DrawAt S D H) (h : H p = none) : DrawAt S D (upd H p o) := by
  obtain ⟨cs, h1⟩ := d.cells
  obtain ⟨i, r, c, h0, h2⟩ := d.at_
  exact ⟨d.ne, ⟨cs, by rw [upd_ne (ne_of_none h1 h)]; exact h1⟩, ⟨i, r, c, h0, by rw [upd_ne (ne_of_none h2 h)]; exact h2⟩⟩
theorem Keep.new {D p : Addr} {H : Hp} {o : HO} (h : H p = none) : Keep D H (upd H p o) := fun b u e _ => by
  rw [upd_ne (ne_of_none e h)]
  exact e
theorem Go.new {S D p : Addr} {H : Hp} {o : HO} (d : DrawAt S D H) (h : H p = none) : Go S D H (upd H p o) := ⟨d.new h, Keep.new h⟩
theorem Go.same {S D : Addr} {H H' : Hp} (d : DrawAt S D H) (h : Same H H') : Go S D H H' := by
  obtain ⟨cs, h1⟩ := d.cells
  obtain ⟨i, r, c, h0, h2⟩ := d.at_
  exact ⟨⟨d.ne, ⟨cs, h _ _ h1⟩, ⟨i, r, c, h0, h _ _ h2⟩⟩, fun b o e _ => h b o e⟩
theorem Go.refl {S D : Addr} {H : Hp} (d : DrawAt S D H) : Go S D H H := ⟨d, Keep.refl⟩
/-- a fresh place stays fresh when looked at from behind -/
theorem DrawAt.free {S D p : Addr} {H : Hp} (d : DrawAt S D H) (h : H p = none) : p ≠ D ∧ p ≠ S := by
  obtain ⟨cs, h1⟩ := d.cells
  obtain ⟨i, r, c, h0, h2⟩ := d.at_
  exact ⟨(ne_of_none h2 h).symm, (ne_of_none h1 h).symm⟩
theorem Go.free {S D p : Addr} {H H' : Hp} (g : Go S D H H') (d : DrawAt S D H) (h : H' p = none) : H p = none := by
  cases q : H p with
  | none => rfl
  | some o =>
    by_cases e : p = D
    · exact absurd e (g.1.free h).1
    · rw [g.2 p o q e] at h
      cases h
def spDraw : Sp := fun vs H Q _ => ∃ (S D : Addr) (many : Int), vs = [.ref D, .int many] ∧ CDivW 0 many ∧ DrawAt S D H ∧ ∀ H' v, 0 ≤ v → v < many → Go S D H H' → Q (.int v) H'
end Mt
namespace Mt
open PySem PySem.Spec PyProof.Rows L2
def topS (i : Nat) : Stmt := PySem.Challenge.pw_meantrace_k05_names.main.body.getD i (.Pass ⟨0, 0, 0, 0⟩)
abbrev s_is_name : Stmt := topS 4
abbrev N_is_name : List Str := ["text", "sign"]
theorem sc_is_name : FnScope N_is_name ["text"] (defScope s_is_name) := ⟨rfl, rfl, rfl, by decide +kernel, rfl, by decide +kernel, by decide +kernel⟩
abbrev s__law_begin : Stmt := topS 6
abbrev N__law_begin : List Str := ["script", "cell"]
theorem sc__law_begin : FnScope N__law_begin ["script"] (defScope s__law_begin) := ⟨rfl, rfl, rfl, by decide +kernel, rfl, by decide +kernel, by decide +kernel⟩
abbrev s__law_draw : Stmt := topS 7
abbrev N__law_draw : List Str := ["d", "many", "found", "size", "cell"]
theorem sc__law_draw : FnScope N__law_draw ["d", "many"] (defScope s__law_draw) := ⟨rfl, rfl, rfl, by decide +kernel, rfl, by decide +kernel, by decide +kernel⟩
abbrev s__law_pick : Stmt := topS 8
abbrev N__law_pick : List Str := ["d", "row"]
theorem sc__law_pick : FnScope N__law_pick ["d", "row"] (defScope s__law_pick) := ⟨rfl, rfl, rfl, by decide +kernel, rfl, by decide +kernel, by decide +kernel⟩
abbrev s__law_reserved : Stmt := topS 9
abbrev N__law_reserved : List Str := ["text"]
theorem sc__law_reserved : FnScope N__law_reserved [] (defScope s__law_reserved) := ⟨rfl, rfl, rfl, by decide +kernel, rfl, by decide +kernel, by decide +kernel⟩
abbrev s__law_is_name : Stmt := topS 10
abbrev N__law_is_name : List Str := ["text", "sign"]
theorem sc__law_is_name : FnScope N__law_is_name ["text"] (defScope s__law_is_name) := ⟨rfl, rfl, rfl, by decide +kernel, rfl, by decide +kernel, by decide +kernel⟩
abbrev s__law_signs : Stmt := topS 11
abbrev N__law_signs : List Str := ["text"]
theorem sc__law_signs : FnScope N__law_signs [] (defScope s__law_signs) := ⟨rfl, rfl, rfl, by decide +kernel, rfl, by decide +kernel, by decide +kernel⟩
abbrev s__law_raw : Stmt := topS 12
abbrev N__law_raw : List Str := ["d", "size", "text", "signs", "k"]
theorem sc__law_raw : FnScope N__law_raw ["d", "size"] (defScope s__law_raw) := ⟨rfl, rfl, rfl, by decide +kernel, rfl, by decide +kernel, by decide +kernel⟩
abbrev s__law_plain_word : Stmt := topS 13
abbrev N__law_plain_word : List Str := ["d", "size", "text", "k"]
theorem sc__law_plain_word : FnScope N__law_plain_word ["d", "size"] (defScope s__law_plain_word) := ⟨rfl, rfl, rfl, by decide +kernel, rfl, by decide +kernel, by decide +kernel⟩
abbrev s__law_bent : Stmt := topS 14
abbrev N__law_bent : List Str := ["d", "text", "at", "way"]
theorem sc__law_bent : FnScope N__law_bent ["d", "text"] (defScope s__law_bent) := ⟨rfl, rfl, rfl, by decide +kernel, rfl, by decide +kernel, by decide +kernel⟩
abbrev s__law_strings : Stmt := topS 15
abbrev N__law_strings : List Str := ["d", "found", "name", "word", "capitals"]
theorem sc__law_strings : FnScope N__law_strings ["d"] (defScope s__law_strings) := ⟨rfl, rfl, rfl, by decide +kernel, rfl, by decide +kernel, by decide +kernel⟩
abbrev s_law : Stmt := topS 16
abbrev N_law : List Str := ["script", "d", "strings", "text", "told"]
theorem sc_law : FnScope N_law ["script"] (defScope s_law) := ⟨rfl, rfl, rfl, by decide +kernel, rfl, by decide +kernel, by decide +kernel⟩
def RES : List Str := (["model", "streams", "resource", "store", "belt", "counter", "process", "plan", "for", "of", "length", "room", "at", "cycle", "hold", "mark", "add", "drop", "put", "take", "load", "unload", "interrupt", "stop", "end", "draw", "use", "rank", "patience", "else", "if", "free", "queue", "loop", "guard", "handle"] : List String).map Str.ofString
abbrev LETz : Str := "abcdefghijklmnopqrstuvwxyz"
abbrev DIGz : Str := "0123456789"
def LET : List Nat := LETz.cps.toList
def DIG : List Nat := DIGz.cps.toList
def okSign (c : Nat) : Bool := decide (c ∈ LET) || decide (c ∈ DIG)
def hd (z : Str) : Nat := z.cps.toList.headD 0
def isRes (z : Str) : Bool := inV (.str z) (RES.map V.str)
def nm (z : Str) : Bool := decide (1 ≤ (z.length : Int)) && (decide ((z.length : Int) ≤ 8) && (!isRes z && (decide (hd z ∈ LET) && z.cps.toList.all okSign)))
theorem res_map (K : PySem.W.Frag) : (RES.map He.Dv.str).map (He.Dv.v K) = RES.map V.str := by
  rw [List.map_map]
  rfl
structure Txt (K : PySem.W.Frag) (mg : Str → Option Value) : Prop where
  b_int : mg "int" = none
  b_len : mg "len" = none
  b_abs : mg "abs" = none
  b_all : mg "all" = none
  b_isinstance : mg "isinstance" = none
  b_bool : mg "bool" = none
  b_range : mg "range" = none
  g_LETTERS : ∃ t, mg "LETTERS" = some (.str LETz t)
  g_DIGITS : ∃ t, mg "DIGITS" = some (.str DIGz t)
  g_RESERVED : mg "RESERVED" = some (.ref (He.ga K "RESERVED"))
  t_RESERVED : ∀ H, SqT K H (He.ga K "RESERVED") (RES.map V.str)
/-! ### promises -/
def spName : Sp := fun vs H Q _ => ∃ z : Str, vs = [.str z] ∧ z.length ≤ 1000 ∧ ∀ H', Same H H' → Q (.bl (nm z)) H'
def spBegin (K : PySem.W.Frag) : Sp := fun vs H Q _ => ∃ (a : Addr) (ns : List Int), vs = [.ref a] ∧ SqL K H a (ns.map V.int) ∧ ns.length ≤ 63 ∧ ∀ S D H', Same H H' → H D = none → DrawAt S D H' → Q (.ref D) H'
def spRes : Sp := fun vs H Q _ => vs = [] ∧ ∀ p, H p = none → Q (.ref p) (upd H p (.lst (RES.map V.str)))
abbrev SIGNS : Str := " !\"#$&'()*+,-./0123456789:;<=>?@ABCDEFGHIJKLMNOPQRSTUVWXYZ[\\]^_`" ++ "abcdefghijklmnopqrstuvwxyz{|}~\n"
def spSigns : Sp := fun vs H Q _ => vs = [] ∧ Q (.str SIGNS) H
/-- a text or a list, what it holds -/
def Row (K : PySem.W.Frag) (H : Hp) (v : V) (xs : List V) : Prop := (∃ z : Str, v = .str z ∧ xs = z.cps.toList.map fun c => .str ⟨#[c]⟩) ∨ ∃ p, v = .ref p ∧ SqL K H p xs
def spPick (K : PySem.W.Frag) : Sp := fun vs H Q _ => ∃ (S D : Addr) (r : V) (xs : List V), vs = [.ref D, r] ∧ DrawAt S D H ∧ (∀ H', Go S D H H' → Row K H' r xs) ∧ 0 < xs.length ∧ xs.length ≤ 100000 ∧ ∀ H' x, x ∈ xs → Go S D H H' → Q x H'
def spRaw : Sp := fun vs H Q _ => ∃ (S D : Addr) (n : Int), vs = [.ref D, .int n] ∧ 0 ≤ n ∧ n ≤ 500 ∧ DrawAt S D H ∧ ∀ H' z, z.length = n.toNat → Go S D H H' → Q (.str z) H'
/-- a word begins with a small letter -/
def spPlain : Sp := fun vs H Q _ => ∃ (S D : Addr) (n : Int), vs = [.ref D, .int n] ∧ 1 ≤ n ∧ n ≤ 100 ∧ DrawAt S D H ∧ ∀ H' z, z.length = n.toNat → Go S D H H' → Q (.str z) H'
def spBent : Sp := fun vs H Q _ => ∃ (S D : Addr) (z : Str), vs = [.ref D, .str z] ∧ 1 ≤ z.length ∧ z.length ≤ 100 ∧ DrawAt S D H ∧ ∀ H' y, y.length ≤ 101 → Go S D H H' → Q (.str y) H'
def spStrings : Sp := fun vs H Q _ => ∃ (S D : Addr), vs = [.ref D] ∧ DrawAt S D H ∧ ∀ (H' : Hp) (p : Addr) (zs : List Str), H p = none → H' p = some (.lst (zs.map V.str)) → zs.length ≤ 100 → (∀ z ∈ zs, z.length ≤ 200) → Go S D H H' → Q (.ref p) H'
def spLaw (K : PySem.W.Frag) : Sp := fun vs H Q _ => ∃ (a : Addr) (ns : List Int), vs = [.ref a] ∧ SqL K H a (ns.map V.int) ∧ ns.length ≤ 63 ∧ ∀ H', Q (.bl true) H'
theorem upd_upd {H : Hp} {p : Addr} {a b : HO} : upd (upd H p a) p b = upd H p b := by
  funext x
  unfold upd
  split <;> rfl
theorem take_map_succ {α β : Type} {f : α → β} {l : List α} {i : Nat} {c : α} (h : l[i]? = some c) : (l.take i).map f ++ [f c] = (l.take (i + 1)).map f := by
  rw [List.take_add_one, h, List.map_append]
  rfl
abbrev LDz : Str := "abcdefghijklmnopqrstuvwxyz0123456789"
theorem okSign_eq (c : Nat) : decide (c ∈ LDz.cps.toList) = okSign c := by
  have e : LDz.cps.toList = LET ++ DIG := by decide +kernel
  unfold okSign
  rw [e, ← Bool.decide_or]
  exact decide_eq_decide.mpr List.mem_append
abbrev RA : Str := "model streams resource store belt counter process plan for of length room at cycle hold mark add drop "
abbrev RB : Str := "put take load unload interrupt stop end draw use rank patience else if free queue loop guard handle"
theorem split_res : Txt.split (RA ++ RB) " " = RES := by decide +kernel
abbrev CAP : Str := "ABCDEFGHIJKLMNOPQRSTUVWXYZ"
/-- each reserved word is short, begins with a small letter -/
def resOk (z : Str) : Bool := decide (1 ≤ z.length) && (decide (z.length ≤ 9) && (match z.cps.toList[0]? with
  | some c => (match Txt.index0 LETz ⟨#[c]⟩ with
    | some k => decide (k < 26)
    | none => false)
  | none => false))
theorem res_ok : RES.all resOk = true := by decide +kernel
theorem res_get {z : Str} (h : z ∈ RES) : 1 ≤ z.length ∧ z.length ≤ 9 ∧ ∃ c k, z.cps.toList[0]? = some c ∧ Txt.index0 LETz ⟨#[c]⟩ = some k ∧ k < 26 := by
  have h1 := List.all_eq_true.mp res_ok z h
  unfold resOk at h1
  rw [Bool.and_eq_true, Bool.and_eq_true] at h1
  obtain ⟨a, b, c⟩ := h1
  refine ⟨of_decide_eq_true a, of_decide_eq_true b, ?_⟩
  cases e : z.cps.toList[0]? with
  | none =>
    rw [e] at c
    cases c
  | some x =>
    rw [e] at c
    cases e2 : Txt.index0 LETz ⟨#[x]⟩ with
    | none =>
      simp only [e2] at c
      cases c
    | some k =>
      simp only [e2] at c
      exact ⟨x, k, rfl, e2, of_decide_eq_true c⟩
theorem row_str {K : PySem.W.Frag} {H : Hp} (z : Str) : Row K H (.str z) (z.cps.toList.map fun c => .str ⟨#[c]⟩) := .inl ⟨z, rfl, rfl⟩
theorem sign_of {z : Str} {x : V} (h : x ∈ z.cps.toList.map fun c => V.str ⟨#[c]⟩) : ∃ c, x = .str ⟨#[c]⟩ := by
  obtain ⟨c, _, rfl⟩ := List.mem_map.mp h
  exact ⟨c, rfl⟩
theorem len_one (c : Nat) : (⟨#[c]⟩ : Str).length = 1 := rfl
theorem cut2 (z : Str) (a : Int) (h : 0 ≤ a) (lo hi : Option Int) (hlo : lo = some a ∨ lo = some (a + 1)) (hhi : hi = some a) : (cutS z none hi).length + (cutS z lo none).length ≤ z.length := by
  obtain ⟨k, rfl⟩ := Int.eq_ofNat_of_zero_le h
  subst hhi
  have e1 : (cutS z none (some (k : Int))).length ≤ min k z.length := by
    unfold cutS
    rw [HT.sIx_nat, HT.sIx_none]
    show (List.take _ (List.drop 0 z.cps.toList)).toArray.size ≤ _
    rw [List.size_toArray, List.length_take]
    omega
  have e2 : ∀ m : Nat, k ≤ m → (cutS z (some (m : Int)) none).length ≤ z.length - min k z.length := fun m hm => by
    unfold cutS
    rw [HT.sIx_nat, HT.sIx_none]
    show (List.take _ (List.drop _ z.cps.toList)).toArray.size ≤ _
    rw [List.size_toArray, List.length_take, List.length_drop]
    have : z.cps.toList.length = z.length := by simp [Str.length]
    omega
  rcases hlo with rfl | rfl
  · have := e2 k (Nat.le_refl _)
    omega
  · have := e2 (k + 1) (by omega)
    have e3 : ((k + 1 : Nat) : Int) = (k : Int) + 1 := rfl
    rw [e3] at this
    omega
theorem divW_of {n : Int} (h : 0 < n) (h2 : n < 2 ^ 64) : CDivW 0 n := wide_div h (b := 64) (by omega) (by decide) (by decide)
theorem getV {ns : List Int} {i : Nat} {x : V} (h : (ns.map V.int)[i]? = some x) : ∃ z, x = .int z ∧ ns[i]? = some z := by
  rw [List.getElem?_map] at h
  cases e : ns[i]? with
  | none =>
    rw [e] at h
    cases h
  | some z =>
    rw [e] at h
    exact ⟨z, (Option.some.inj h).symm, rfl⟩
section
variable {P : Program} {w : World} {K : PySem.W.Frag} {mg : Str → Option Value} {base : Heap}
theorem ok__law_draw (T : Txt K mg) {f : Addr} {fd : FuncData} (F : FnP K "_law_draw" s__law_draw f fd) : FnOk P w K mg base CX0 1 f fd ["d", "many"] spDraw := by
  refine F.ok sc__law_draw (fun vs H Q E h => ?_) (fun cdv A outer s H vs Q E hr h => ?_)
  · obtain ⟨S, D, m, rfl, _⟩ := h
    rfl
  · obtain ⟨S, D, m, rfl, hm, d, q⟩ := h
    obtain ⟨cs, hS⟩ := id d.cells
    obtain ⟨i, r, c, h0, hD⟩ := id d.at_
    have hm0 : 0 < m := hm.1
    refine ⟨_, PSs.nox (pss_cons (ps_if (pt_cmpR op_gt (pe_ix ix_list (pv 0) pe_int (fun _ _ => rfl)) pe_int (nomark _)) (pss_cons (ps_set (i := 2) sc__law_draw.nd rfl (Or.inl rfl) (pe_ix ix_list (pv 0) pe_int (fun _ _ => rfl)))
      (pss_cons (ps_asg (pe_op op_fdivW (pv 2) (pv 1)) (pg_sub (pv 0) pe_int set_list))
      (pss_one (ps_ret (pe_op op_mod (pe_callTy call_int1 (by rfl) T.b_int (by decide +kernel) (pa_cons (pv 2) pa_nil)) (pv 1)))))) pss_nil)
      (pss_cons (ps_set (i := 3) sc__law_draw.nd rfl (Or.inl rfl) pe_int)
      (Evl.pss_cut (ps_if (pt_cmpR op_lt (pe_ix ix_list (pv 0) pe_int (fun _ _ => rfl)) (pe_callB call_len (by rfl) T.b_len (by decide +kernel) (pa_cons (pe_ix ix_list (pv 0) pe_int (fun _ _ => rfl)) pa_nil)) (nomark _)) (pss_cons (ps_set (i := 4) sc__law_draw.nd rfl (Or.inl rfl) (pe_ix ix_list (pe_ix ix_list (pv 0) pe_int (fun _ _ => rfl)) (pe_ix ix_list (pv 0) pe_int (fun _ _ => rfl)) (fun _ _ => rfl)))
      (pss_one (ps_set (i := 3) sc__law_draw.nd rfl (Or.inl rfl) (pe_op op_add (pe_op op_mul pe_int (pe_callB call_abs (by rfl) T.b_abs (by decide +kernel) (pa_cons (pv 4) pa_nil))) (pe_callTy call_int1 (by rfl) T.b_int (by decide +kernel) (pa_cons (pe_cmpR op_lt (pv 4) pe_int (nomark _)) pa_nil)))))) pss_nil)
      (pss_cons (ps_augS (pv 0) pe_int get_list pe_int ip_add set_list)
      (pss_cons (ps_if (pt_cmpR op_ge (pv 3) (pe_op op_mul pe_int (pe_op op_pow pe_int pe_int)) (nomark _)) (pss_cons (ps_set (i := 2) sc__law_draw.nd rfl (Or.inl rfl) (pe_op op_mod (pe_callTy call_int1 (by rfl) T.b_int (by decide +kernel) (pa_cons (pe_op op_fdivW (pv 3) pe_int) pa_nil)) (pe_op op_shl pe_int pe_int)))
      (pss_cons (ps_asg (pe_op op_fdivW (pv 2) (pv 1)) (pg_sub (pv 0) pe_int set_list))
      (pss_one (ps_ret (pe_op op_mod (pe_callTy call_int1 (by rfl) T.b_int (by decide +kernel) (pa_cons (pv 2) pa_nil)) (pv 1)))))) pss_nil)
      (pss_cons (ps_asg (pe_op op_mod (pe_callTy call_int1 (by rfl) T.b_int (by decide +kernel) (pa_cons (pe_op op_add (pe_op op_add (pe_op op_add (pe_op op_mul (pe_ix ix_list (pv 0) pe_int (fun _ _ => rfl)) pe_int) (pe_op op_mul (pe_op op_mod (pe_callTy call_int1 (by rfl) T.b_int (by decide +kernel) (pa_cons (pv 3) pa_nil)) pe_int) pe_int)) (pe_op op_mul (pe_ix ix_list (pv 0) pe_int (fun _ _ => rfl)) pe_int)) pe_int) pa_nil)) pe_int) (pg_sub (pv 0) pe_int set_list))
      (pss_one (ps_ret (pe_op op_mod (pe_callTy call_int1 (by rfl) T.b_int (by decide +kernel) (pa_cons (pe_op op_fdivW (pe_ix ix_list (pv 0) pe_int (fun _ _ => rfl)) pe_int) pa_nil)) (pv 1)))))))))), ?_⟩
    refine ⟨_, rfl, D, _, _, _, rfl, rfl, SqL.of hD, atI_nat (j := 2) rfl, _, _, rfl, rfl, _, rfl, ?_⟩
    refine ite2 (fun e => ?_) (fun e => ?_)
    · refine ⟨_, rfl, D, _, _, _, rfl, rfl, SqL.of hD, atI_nat (j := 2) rfl, ?_⟩
      refine ⟨_, rfl, _, rfl, _, _, rfl, rfl, hm, _, rfl, D, _, _, 2, rfl, rfl, hD, rfl, ?_⟩
      refine ⟨_, rfl, .inl ⟨_, rfl, _, rfl, _, _, rfl, rfl, hm0, ?_⟩⟩
      refine q _ _ (Int.emod_nonneg _ (by omega)) (Int.emod_lt_of_pos _ hm0) ⟨d.set h0, Keep.refl.set⟩
    · refine ⟨fun σ' H' => ∃ (z : Int) (x : Option V), σ' = [some (.ref D), some (.int m), none, some (.int z), x] ∧ H' = H, ?_, ?_⟩
      · refine ⟨_, rfl, D, _, _, _, rfl, rfl, SqL.of hD, atI_nat (j := 1) rfl, ?_⟩
        refine ⟨_, rfl, D, _, _, _, rfl, rfl, SqL.of hD, atI_nat (j := 0) rfl, _, _, rfl, .inl ⟨_, SqL.of hS, rfl⟩, _, _, rfl, rfl, _, rfl, ?_⟩
        refine ite2 (fun e1 => ?_) (fun e1 => ?_)
        · have e2 : i < ((cs.map V.int).length : Int) := of_decide_eq_true e1
          have e3 : i.toNat < (cs.map V.int).length := by omega
          have e4 : i.toNat < cs.length := by rw [List.length_map] at e3; exact e3
          have e5 : (cs.map V.int)[i.toNat]? = some (.int cs[i.toNat]) := by
            rw [List.getElem?_map, List.getElem?_eq_getElem e4]
            rfl
          have e6 : atI (cs.map V.int) i = some (.int cs[i.toNat]) := by
            have := atI_nat (xs := cs.map V.int) e5
            rw [show ((i.toNat : Nat) : Int) = i by omega] at this
            exact this
          refine ⟨_, rfl, D, _, _, _, rfl, rfl, SqL.of hD, atI_nat (j := 0) rfl, ?_⟩
          refine ⟨_, rfl, D, _, _, _, rfl, rfl, SqL.of hD, atI_nat (j := 1) rfl, ?_⟩
          refine ⟨S, _, _, _, rfl, rfl, SqL.of hS, e6, ?_⟩
          refine ⟨_, rfl, _, rfl, _, _, rfl, rfl, .inl ⟨by decide, by decide⟩, ?_⟩
          refine ⟨_, rfl, _, _, rfl, rfl, .inr ⟨_, rfl, _, _, rfl, rfl, ?_⟩⟩
          exact ⟨_, _, rfl, rfl⟩
        · exact ⟨_, _, rfl, rfl⟩
      · rintro σ' H' ⟨z, x, rfl, rfl⟩
        refine ⟨_, rfl, D, _, _, _, rfl, rfl, SqL.of hD, atI_nat (j := 1) rfl, ?_⟩
        refine ⟨_, _, rfl, rfl, D, _, _, 1, rfl, rfl, hD, rfl, ?_⟩
        have hD1 : (upd H' D (.lst [.ref S, .int (i + 1), .int r, .int c])) D = some (.lst [.ref S, .int (i + 1), .int r, .int c]) := upd_same
        have d1 : DrawAt S D (upd H' D (.lst [.ref S, .int (i + 1), .int r, .int c])) := d.set (by omega)
        refine ⟨_, rfl, _, _, rfl, rfl, ⟨by decide, by decide, by decide⟩, _, _, rfl, rfl, .inl ⟨by decide, by decide⟩, _, _, rfl, rfl, _, rfl, ?_⟩
        refine ite2 (fun e1 => ?_) (fun e1 => ?_)
        · refine ⟨_, rfl, _, _, rfl, rfl, ⟨by decide, by decide⟩, .inl ⟨_, rfl, _, _, rfl, rfl, ⟨by decide, by decide, by decide⟩, ?_⟩⟩
          refine ⟨_, _, rfl, rfl, ?_, ?_⟩
          · show (0 : Int) < 1 * 2 ^ (6000 : Int).toNat
            exact Int.mul_pos (by decide) (Int.pow_pos (by decide))
          · refine ⟨_, rfl, _, rfl, _, _, rfl, rfl, hm, _, rfl, D, _, _, 2, rfl, rfl, hD1, rfl, ?_⟩
            refine ⟨_, rfl, .inl ⟨_, rfl, _, rfl, _, _, rfl, rfl, hm0, ?_⟩⟩
            exact q _ _ (Int.emod_nonneg _ (by omega)) (Int.emod_lt_of_pos _ hm0) ⟨d1.set (by omega), Keep.refl.set.set⟩
        · refine ⟨_, rfl, D, _, _, _, rfl, rfl, SqL.of hD1, atI_nat (j := 3) rfl, _, _, rfl, rfl, .inr ⟨by decide, by decide⟩, ?_⟩
          refine ⟨_, rfl, .inl ⟨_, rfl, _, _, rfl, rfl, (by show (0 : Int) < 2147483629; decide), _, _, rfl, rfl, .inr ⟨by decide, by decide⟩, _, _, rfl, rfl, ?_⟩⟩
          refine ⟨_, rfl, D, _, _, _, rfl, rfl, SqL.of hD1, atI_nat (j := 1) rfl, _, _, rfl, rfl, .inr ⟨by decide, by decide⟩, _, _, rfl, rfl, _, _, rfl, rfl, .inl ⟨_, rfl, ?_⟩⟩
          refine ⟨_, _, rfl, rfl, (by show (0 : Int) < 2147483647; decide), _, rfl, D, _, _, 3, rfl, rfl, hD1, rfl, ?_⟩
          refine ⟨_, rfl, D, _, _, _, rfl, rfl, SqL.of upd_same, atI_nat (j := 3) rfl, _, _, rfl, rfl, ⟨by decide, by decide⟩, ?_⟩
          refine .inl ⟨_, rfl, _, rfl, _, _, rfl, rfl, hm0, ?_⟩
          exact q _ _ (Int.emod_nonneg _ (by omega)) (Int.emod_lt_of_pos _ hm0) ⟨d1.set (by omega), Keep.refl.set.set⟩
theorem ok_is_name (T : Txt K mg) {f : Addr} {fd : FuncData} (F : FnP K "is_name" s_is_name f fd) : FnOk P w K mg base CX0 1 f fd ["text"] spName := by
  refine F.ok sc_is_name (fun vs H Q E h => ?_) (fun cdv A outer s H vs Q E hr h => ?_)
  · obtain ⟨z, rfl, _⟩ := h
    rfl
  · obtain ⟨z, rfl, hz, q⟩ := h
    refine ⟨_, PSs.nox (pss_cons (ps_if (PW.pt (pw_or (pt_not (pt_chain op_le op_le pe_int (pe_callB call_len (by rfl) T.b_len (by decide +kernel) (pa_cons (pv 0) pa_nil)) pe_int)) (pw_or1 (pt_cmpR op_in_seq (pv 0) (pe_glob (v := .ref _) rfl T.g_RESERVED rfl) (by rfl))))) (pss_one (ps_ret pe_bl)) pss_nil)
      (pss_one (ps_ret (pe_and (pe_cmpR op_in_sign (pe_ix ix_str (pv 0) pe_int (fun _ _ => rfl)) (pe_gs T.g_LETTERS (by rfl)) (by rfl)) (pe_one (pe_callB (cr_all rfl) (by rfl) T.b_all (by decide +kernel) (pa_cons (pe_lc (own := [("sign", 1)]) (g := (gName 1)) (tt := tYes) rfl sc_is_name.nd (pi_str (pv 0)) (blkOk_by (N := N_is_name) (sc := defScope s_is_name) (by decide +kernel)) (fun _ _ _ _ _ => (pg_name (i := 1) sc_is_name.nd rfl (Or.inl rfl))) (fun _ _ _ _ _ => pts_nil) (fun _ _ _ _ _ => (pe_or (pe_cmpR op_in_sign (pv 1) (pe_gs T.g_LETTERS (by rfl)) (by rfl)) (pe_one (pe_cmpR op_in_sign (pv 1) (pe_gs T.g_DIGITS (by rfl)) (by rfl)))))) pa_nil))))))), ?_⟩
    have hl : z.length ≤ sizeLine := Nat.le_of_lt (small1000 hz)
    refine ⟨_, rfl, _, _, rfl, ⟨hl, rfl⟩, _, _, rfl, rfl, _, rfl, ?_⟩
    refine ite2 (fun e1 => ?_) (fun e1 => ?_)
    · refine ⟨_, _, rfl, rfl, _, rfl, ?_⟩
      cases e2 : decide ((z.length : Int) ≤ 8) with
      | false =>
        refine iteT ?_
        refine iteT ?_
        have e : nm z = false := by
          unfold nm
          rw [e2]
          simp
        have := q H (Same.refl H)
        rw [e] at this
        exact this
      | true =>
        refine iteF ?_
        refine ⟨_, rfl, _, _, rfl, .inr (T.t_RESERVED H), rfl, by decide +kernel, _, rfl, ?_⟩
        cases e3 : isRes z with
        | true =>
          refine ite2 (fun _ => ?_) (fun n => absurd e3 n)
          have e : nm z = false := by
            unfold nm
            rw [e3]
            simp
          have := q H (Same.refl H)
          rw [e] at this
          exact this
        | false =>
          refine ite2 (fun n => ?_) (fun _ => ?_)
          · have : isRes z = true := n
            rw [e3] at this
            cases this
          · have e1' : 1 ≤ z.length := by
              have := of_decide_eq_true e1
              omega
            have en : z.cps.toList.length = z.length := by
              simp [Str.length]
            obtain ⟨c0, cs, ec⟩ : ∃ c0 cs, z.cps.toList = c0 :: cs := by
              cases h : z.cps.toList with
              | nil =>
                rw [h] at en
                simp at en
                omega
              | cons a b => exact ⟨a, b, rfl⟩
            have eh : hd z = c0 := by
              unfold hd
              rw [ec]
              rfl
            refine ⟨_, rfl, z, 0, c0, rfl, rfl, hl, ?_, c0, _, rfl, rfl, _, rfl, ?_⟩
            · rw [ec]
              exact atI_nat (j := 0) rfl
            cases e4 : decide (c0 ∈ LET) with
            | false =>
              refine ite2 (fun n => ?_) (fun _ => ?_)
              · have : decide (c0 ∈ LET) = true := n
                rw [e4] at this
                cases this
              have e : nm z = false := by
                unfold nm
                rw [eh, e4]
                simp
              have := q H (Same.refl H)
              rw [e] at this
              exact this
            | true =>
              refine ite2 (fun _ => ?_) (fun n => absurd e4 n)
              have e : nm z = z.cps.toList.all okSign := by
                unfold nm
                rw [eh, e4, e3, e2, e1]
                simp
              refine ⟨_, rfl, _, rfl, fun L hL => lc_it (walk_str (z := z)) (fun i H' => H' = upd H L (.lst ((z.cps.toList.take i).map fun c => V.bl (okSign c)))) rfl (fun _ _ _ _ => trivial) ?_ ?_⟩
              · rintro i x H1 H2 hi rfl ⟨rfl, c, hc, rfl⟩
                have hc' : z.cps.toList[i]? = some c := by simpa using hc
                refine ⟨rfl, ?_⟩
                refine ⟨_, rfl, c, _, rfl, rfl, _, rfl, ?_⟩
                have fin : ∀ b, b = okSign c → ∃ acc, (upd H L (.lst ((z.cps.toList.take i).map fun c => V.bl (okSign c)))) L = some (.lst acc) ∧ acc.length < sizeLine ∧ upd (upd H L (.lst ((z.cps.toList.take i).map fun c => V.bl (okSign c)))) L (.lst (acc ++ [V.bl b])) = upd H L (.lst ((z.cps.toList.take (i + 1)).map fun c => V.bl (okSign c))) := by
                  rintro b rfl
                  refine ⟨_, upd_same, ?_, ?_⟩
                  · rw [List.length_map, List.length_take]
                    exact Nat.lt_of_le_of_lt (Nat.min_le_right _ _) (by rw [en]; exact small1000 hz)
                  · rw [upd_upd, take_map_succ (f := fun c => V.bl (okSign c)) hc']
                refine ite2 (fun e5 => ?_) (fun e5 => ?_)
                · exact fin true (by unfold okSign; have : decide (c ∈ LET) = true := e5; rw [this]; rfl)
                · refine ⟨_, rfl, c, _, rfl, rfl, ?_⟩
                  exact fin _ (by unfold okSign; have h5 : ¬ decide (c ∈ LET) = true := e5
                                  have : decide (c ∈ LET) = false := by simpa using h5
                                  rw [this]; rfl)
              · rintro H' rfl
                have e6 : z.cps.toList.take z.cps.size = z.cps.toList := List.take_of_length_le (by simp)
                refine ⟨L, z.cps.toList.map okSign, rfl, SqL.of (by rw [upd_same, e6, List.map_map]; rfl), ?_⟩
                have := q (upd H L (.lst ((z.cps.toList.take z.cps.size).map fun c => V.bl (okSign c)))) (fun b o h => by rw [upd_ne (ne_of_none h hL)]; exact h)
                rw [e] at this
                rw [List.all_map]
                exact this
    · refine ⟨false, rfl, ?_⟩
      have e : nm z = false := by
        unfold nm
        have : decide (1 ≤ (z.length : Int)) = false := by simpa using e1
        rw [this]
        rfl
      have := q H (Same.refl H)
      rw [e] at this
      exact this
theorem ok__law_begin (T : Txt K mg) {f : Addr} {fd : FuncData} (F : FnP K "_law_begin" s__law_begin f fd) : FnOk P w K mg base CX0 1 f fd ["script"] (spBegin K) := by
  refine F.ok sc__law_begin (fun vs H Q E h => ?_) (fun cdv A outer s H vs Q E hr h => ?_)
  · obtain ⟨a, ns, rfl, _⟩ := h
    rfl
  · obtain ⟨a, ns, rfl, hS, hlen, q⟩ := h
    refine ⟨_, PSs.nox (pss_one (ps_ret (pe_lst (pa_cons (pe_lc (own := [("cell", 1)]) (g := (gName 1)) (tt := tYes) rfl sc__law_begin.nd (pi_list (pv 0)) (blkOk_by (N := N__law_begin) (sc := defScope s__law_begin) (by decide +kernel)) (fun _ _ _ _ _ => (pg_name (i := 1) sc__law_begin.nd rfl (Or.inl rfl))) (fun _ _ _ _ _ => pts_nil) (fun _ _ _ _ _ => (pe_callTy call_int1 (by rfl) T.b_int (by decide +kernel) (pa_cons (pv 1) pa_nil)))) (pa_cons pe_int (pa_cons pe_int (pa_cons pe_int pa_nil))))))), ?_⟩
    refine ⟨_, rfl, a, rfl, ⟨_, hS⟩, fun L hL => lc_list (xs := ns.map V.int) (fun i H' => H' = upd H L (.lst ((ns.take i).map V.int))) rfl (fun i H' _ e => ?_) ?_ ?_⟩
    · subst e
      exact (show Same H _ from fun b o h => by rw [upd_ne (ne_of_none h hL)]; exact h).seq hS
    · rintro i x H1 hi rfl
      obtain ⟨z, rfl, hz⟩ := getV hi
      refine ⟨rfl, _, rfl, .inl ⟨_, rfl, _, upd_same, ?_, ?_⟩⟩
      · rw [List.length_map, List.length_take]
        exact Nat.lt_of_le_of_lt (Nat.min_le_right _ _) (small1000 (by omega))
      · rw [upd_upd, take_map_succ (f := V.int) hz]
    · rintro H' rfl
      refine ⟨by show 4 ≤ sizeLine; decide, fun D hD => ?_⟩
      have nLD : D ≠ L := fun e => by
        rw [e, upd_same] at hD
        cases hD
      have hD0 : H D = none := by
        rw [upd_ne nLD] at hD
        exact hD
      refine q L D _ (fun b o h => ?_) hD0 ⟨fun e => nLD e.symm, ⟨ns, ?_⟩, ⟨0, 0, 7, by decide, upd_same⟩⟩
      · rw [upd_ne (ne_of_none h hD0), upd_ne (ne_of_none h hL)]
        exact h
      · rw [upd_ne (fun e => nLD e.symm), upd_same]
        rw [List.take_of_length_le (by rw [List.length_map]; exact Nat.le_refl _)]
theorem ok__law_pick (T : Txt K mg) (D__law_draw : Kept P w K mg base 1 "_law_draw" ["d", "many"] spDraw) {f : Addr} {fd : FuncData} (F : FnP K "_law_pick" s__law_pick f fd) : FnOk P w K mg base CX0 2 f fd ["d", "row"] (spPick K) := by
  refine F.ok sc__law_pick (fun vs H Q E h => ?_) (fun cdv A outer s H vs Q E hr h => ?_)
  · obtain ⟨S, D, r, xs, rfl, _⟩ := h
    rfl
  · obtain ⟨S, D, r, xs, rfl, d, hR, h0, h1, q⟩ := h
    refine ⟨_, PSs.nox (pss_one (ps_ret (pe_ix ix_seq (pv 1) (pe_d D__law_draw (hr.mono (by decide)) (by rfl) (pa_cons (pv 0) (pa_cons (pe_callB call_len (by rfl) T.b_len (by decide +kernel) (pa_cons (pv 1) pa_nil)) pa_nil))) (fun _ _ => rfl)))), ?_⟩
    refine ⟨r, rfl, _, rfl, _, rfl, r, xs.length, rfl, ?_, ?_⟩
    · rcases hR H (Go.refl d) with ⟨z, rfl, rfl⟩ | ⟨p, rfl, hp⟩
      · refine ⟨?_, by simp [Str.length]⟩
        rw [List.length_map] at h1
        have : z.length = z.cps.toList.length := by simp [Str.length]
        rw [this]
        exact Nat.le_trans h1 (by decide)
      · exact .inl ⟨_, hp, rfl⟩
    · refine ⟨S, D, _, rfl, divW_of (by omega) (by omega), d, fun H' v hv0 hv1 g => ?_⟩
      have hv : v.toNat < xs.length := by omega
      have e : ((v.toNat : Nat) : Int) = v := by omega
      have ex : xs[v.toNat]? = some xs[v.toNat] := List.getElem?_eq_getElem hv
      have ea : atI xs v = some xs[v.toNat] := by
        have := atI_nat (xs := xs) ex
        rw [e] at this
        exact this
      rcases hR H' g with ⟨z, rfl, rfl⟩ | ⟨p, rfl, hp⟩
      · refine .inr (.inr ⟨z, v, z.cps.toList[v.toNat]'(by rw [List.length_map] at hv; exact hv), rfl, rfl, ?_, ?_, ?_⟩)
        · rw [List.length_map] at h1
          have : z.length = z.cps.toList.length := by simp [Str.length]
          rw [this]
          exact Nat.le_trans h1 (by decide)
        · have := atI_nat (xs := z.cps.toList) (List.getElem?_eq_getElem (show v.toNat < z.cps.toList.length by rw [List.length_map] at hv; exact hv))
          rw [e] at this
          exact this
        · refine q H' _ ?_ g
          exact List.mem_map_of_mem (List.getElem_mem _)
      · exact .inl ⟨p, xs, v, _, rfl, rfl, hp, ea, q H' _ (List.getElem_mem _) g⟩
theorem ok__law_reserved (T : Txt K mg) {f : Addr} {fd : FuncData} (F : FnP K "_law_reserved" s__law_reserved f fd) : FnOk P w K mg base CX0 1 f fd [] spRes := by
  refine F.ok sc__law_reserved (fun vs H Q E h => ?_) (fun cdv A outer s H vs Q E hr h => ?_)
  · obtain ⟨rfl, _⟩ := h
    rfl
  · obtain ⟨rfl, q⟩ := h
    refine ⟨_, PSs.nox (pss_cons (ps_set (i := 0) sc__law_reserved.nd rfl (Or.inl rfl) pe_str)
      (pss_cons (ps_set (i := 0) sc__law_reserved.nd rfl (Or.inl rfl) (pe_op op_add_str (pv 0) pe_str))
      (pss_one (ps_ret (pe_split (pv 0) pe_str))))), ?_⟩
    refine ⟨_, rfl, _, _, rfl, rfl, by decide +kernel, _, rfl, ⟨_, rfl⟩, _, _, rfl, rfl, by decide +kernel, by decide +kernel, fun p hp => ?_⟩
    have := q p hp
    rw [← split_res] at this
    exact this
theorem ok__law_is_name (T : Txt K mg) (D__law_reserved : Kept P w K mg base 1 "_law_reserved" [] spRes) {f : Addr} {fd : FuncData} (F : FnP K "_law_is_name" s__law_is_name f fd) : FnOk P w K mg base CX0 2 f fd ["text"] spName := by
  refine F.ok sc__law_is_name (fun vs H Q E h => ?_) (fun cdv A outer s H vs Q E hr h => ?_)
  · obtain ⟨z, rfl, _⟩ := h
    rfl
  · obtain ⟨z, rfl, hz, q⟩ := h
    have hl : z.length ≤ sizeLine := Nat.le_of_lt (small1000 hz)
    refine ⟨_, PSs.nox (pss_cons (ps_if (PW.pt (pw_or (pt_cmpR op_lt (pe_callB call_len (by rfl) T.b_len (by decide +kernel) (pa_cons (pv 0) pa_nil)) pe_int (nomark _)) (pw_or (pt_cmpR op_gt (pe_callB call_len (by rfl) T.b_len (by decide +kernel) (pa_cons (pv 0) pa_nil)) pe_int (nomark _)) (pw_or (pt_cmpR op_in_seq (pv 0) (pe_d0 D__law_reserved (hr.mono (by decide)) (by rfl)) (by rfl)) (pw_or1 (pt_cmpR op_notIn_sign (pe_ix ix_str (pv 0) pe_int (fun _ _ => rfl)) pe_str (by rfl))))))) (pss_one (ps_ret pe_bl)) pss_nil)
      (pss_one (ps_ret (pe_cmpR op_eq (pe_callB call_len (by rfl) T.b_len (by decide +kernel) (pa_cons (pe_lc (own := [("sign", 1)]) (g := (gName 1)) rfl sc__law_is_name.nd (pi_str (pv 0)) (blkOk_by (N := N__law_is_name) (sc := defScope s__law_is_name) (by decide +kernel)) (fun _ _ _ _ _ => (pg_name (i := 1) sc__law_is_name.nd rfl (Or.inl rfl))) (fun _ _ _ _ _ => (pts_one (pt_cmpR op_notIn_sign (pv 1) pe_str (by rfl)))) (fun _ _ _ _ _ => (pv 1))) pa_nil)) pe_int (nomark _))))), ?_⟩
    have en : z.cps.toList.length = z.length := by
      simp [Str.length]
    have fin : ∀ H', Same H H' → nm z = false → Q (.bl false) H' := fun H' s e => by
      have := q H' s
      rw [e] at this
      exact this
    refine ⟨_, rfl, _, _, rfl, ⟨hl, rfl⟩, _, _, rfl, rfl, _, rfl, ?_⟩
    cases e1 : decide ((z.length : Int) < 1) with
    | true =>
      refine fin H (Same.refl H) ?_
      have e1' : ¬ 1 ≤ (z.length : Int) := by
        have := of_decide_eq_true e1
        omega
      unfold nm
      rw [decide_eq_false e1']
      rfl
    | false =>
      have e1' : 1 ≤ (z.length : Int) := by
        have := of_decide_eq_false e1
        omega
      refine ⟨_, rfl, _, _, rfl, ⟨hl, rfl⟩, _, _, rfl, rfl, _, rfl, ?_⟩
      cases e2 : decide ((8 : Int) < (z.length : Int)) with
      | true =>
        refine fin H (Same.refl H) ?_
        have e2' : ¬ (z.length : Int) ≤ 8 := by
          have := of_decide_eq_true e2
          omega
        unfold nm
        rw [decide_eq_false e2']
        simp
      | false =>
        have e2' : (z.length : Int) ≤ 8 := by
          have := of_decide_eq_false e2
          omega
        refine ⟨_, rfl, rfl, fun p hp => ⟨p, _, rfl, .inl (SqL.of upd_same), rfl, by decide +kernel, _, rfl, ?_⟩⟩
        have sp : Same H (upd H p (.lst (RES.map V.str))) := fun b o h => by
          rw [upd_ne (ne_of_none h hp)]
          exact h
        show (if isRes z = true then _ else _)
        cases e3 : isRes z with
        | true =>
          refine fin _ sp ?_
          unfold nm
          rw [e3]
          simp
        | false =>
          have e1'' : 1 ≤ z.length := by omega
          obtain ⟨c0, cs, ec⟩ : ∃ c0 cs, z.cps.toList = c0 :: cs := by
            cases h : z.cps.toList with
            | nil =>
              rw [h] at en
              simp at en
              omega
            | cons a b => exact ⟨a, b, rfl⟩
          have eh : hd z = c0 := by
            unfold hd
            rw [ec]
            rfl
          refine ⟨_, rfl, z, 0, c0, rfl, rfl, hl, by rw [ec]; exact atI_nat (j := 0) rfl, c0, _, rfl, rfl, _, rfl, ?_⟩
          show (if (!decide (c0 ∈ LET)) = true then _ else _)
          cases e4 : decide (c0 ∈ LET) with
          | false =>
            refine fin _ sp ?_
            unfold nm
            rw [eh, e4]
            simp
          | true =>
            have e : nm z = z.cps.toList.all okSign := by
              unfold nm
              rw [eh, e4, e3, decide_eq_true e1', decide_eq_true e2']
              simp
            refine ⟨_, rfl, _, rfl, fun L hL => lc_it (walk_str (z := z)) (fun i H' => H' = upd (upd H p (.lst (RES.map V.str))) L (.lst (((z.cps.toList.take i).filter fun c => !okSign c).map fun c => V.str ⟨#[c]⟩))) rfl (fun _ _ _ _ => trivial) ?_ ?_⟩
            · rintro i x H1 H2 hi rfl ⟨rfl, c, hc, rfl⟩
              have hc' : z.cps.toList[i]? = some c := by simpa using hc
              refine ⟨rfl, _, rfl, c, _, rfl, rfl, _, rfl, ?_⟩
              show (if (!decide (c ∈ LDz.cps.toList)) = true then _ else _)
              have e5 : decide (c ∈ LDz.cps.toList) = okSign c := okSign_eq c
              have e6 : z.cps.toList.take (i + 1) = z.cps.toList.take i ++ [c] := by
                rw [List.take_add_one, hc']
                rfl
              rw [e5]
              cases e7 : okSign c with
              | true =>
                refine iteF ?_
                rw [e6, List.filter_append]
                simp [e7]
              | false =>
                refine iteT ?_
                refine ⟨_, rfl, _, upd_same, ?_, ?_⟩
                · rw [List.length_map]
                  refine Nat.lt_of_le_of_lt (List.length_filter_le _ _) ?_
                  rw [List.length_take]
                  exact Nat.lt_of_le_of_lt (Nat.min_le_right _ _) (by rw [en]; exact small1000 hz)
                · rw [upd_upd, e6, List.filter_append]
                  simp [e7]
            · rintro H' rfl
              have e6 : z.cps.toList.take z.cps.size = z.cps.toList := List.take_of_length_le (by simp)
              rw [e6]
              refine ⟨_, _, rfl, .inl ⟨_, SqL.of upd_same, rfl⟩, rfl, ?_⟩
              have e8 : decide (V.int (((z.cps.toList.filter fun c => !okSign c).map fun c => V.str ⟨#[c]⟩).length : Int) = V.int 0) = nm z := by
                rw [e, List.length_map]
                cases e9 : z.cps.toList.all okSign with
                | true =>
                  have : (z.cps.toList.filter fun c => !okSign c) = [] := by
                    rw [List.filter_eq_nil_iff]
                    intro a ha
                    have := List.all_eq_true.mp e9 a ha
                    simp [this]
                  rw [this]
                  rfl
                | false =>
                  refine decide_eq_false fun h => ?_
                  injection h with h
                  have h0 : (z.cps.toList.filter fun c => !okSign c).length = 0 := by omega
                  have h1 := List.length_eq_zero_iff.mp h0
                  rw [List.filter_eq_nil_iff] at h1
                  have h2 : z.cps.toList.all okSign = true := by
                    rw [List.all_eq_true]
                    intro a ha
                    have := h1 a ha
                    simpa using this
                  rw [e9] at h2
                  cases h2
              rw [e8]
              exact q _ fun b o h => by
                have h9 := sp b o h
                rw [upd_ne (ne_of_none h9 hL)]
                exact h9
theorem ok__law_signs (T : Txt K mg) {f : Addr} {fd : FuncData} (F : FnP K "_law_signs" s__law_signs f fd) : FnOk P w K mg base CX0 1 f fd [] spSigns := by
  refine F.ok sc__law_signs (fun vs H Q E h => ?_) (fun cdv A outer s H vs Q E hr h => ?_)
  · obtain ⟨rfl, _⟩ := h
    rfl
  · obtain ⟨rfl, q⟩ := h
    refine ⟨_, PSs.nox (pss_cons (ps_set (i := 0) sc__law_signs.nd rfl (Or.inl rfl) pe_str)
      (pss_one (ps_ret (pe_op op_add_str (pv 0) pe_str)))), ?_⟩
    exact ⟨_, rfl, _, _, rfl, rfl, by decide +kernel, q⟩
theorem ok__law_raw (T : Txt K mg) (D__law_pick : Kept P w K mg base 2 "_law_pick" ["d", "row"] (spPick K)) (D__law_signs : Kept P w K mg base 1 "_law_signs" [] spSigns) {f : Addr} {fd : FuncData} (F : FnP K "_law_raw" s__law_raw f fd) : FnOk P w K mg base CX0 3 f fd ["d", "size"] spRaw := by
  refine F.ok sc__law_raw (fun vs H Q E h => ?_) (fun cdv A outer s H vs Q E hr h => ?_)
  · obtain ⟨S, D, n, rfl, _⟩ := h
    rfl
  · obtain ⟨S, D, n, rfl, h0, h1, d, q⟩ := h
    refine ⟨_, PSs.nox (pss_cons (ps_set (i := 2) sc__law_raw.nd rfl (Or.inl rfl) pe_str)
      (pss_cons (ps_set (i := 3) sc__law_raw.nd rfl (Or.inl rfl) (pe_d0 D__law_signs (hr.mono (by decide)) (by rfl)))
      (pss_cons (ps_for PassesOwn.never rfl (pi_range1 (by rfl) T.b_range (pa_cons (pv 1) pa_nil)) (pg_name (i := 4) sc__law_raw.nd rfl (Or.inl rfl)) (pss_one (ps_set (i := 2) sc__law_raw.nd rfl (Or.inl rfl) (pe_op op_add_str (pv 2) (pe_d D__law_pick (hr.mono (by decide)) (by rfl) (pa_cons (pv 0) (pa_cons (pv 3) pa_nil)))))))
      (pss_one (ps_ret (pv 2)))))), ?_⟩
    refine ⟨rfl, ?_⟩
    refine ⟨_, rfl, _, rfl, by omega, by omega, for_range (lo := 0) (n := n.toNat) (fun i σ H' => ∃ (z : Str) (k : Option V), σ = [some (.ref D), some (.int n), some (.str z), some (.str SIGNS), k] ∧ z.length = i ∧ Go S D H H') ⟨_, _, rfl, rfl, Go.refl d⟩ ?_ ?_⟩
    · rintro i σ H1 hi ⟨z, k, rfl, hz, g⟩
      refine ⟨_, rfl, _, rfl, _, rfl, S, D, _, _, rfl, g.1, fun H' _ => row_str SIGNS, by decide +kernel, by decide +kernel, fun H2 x hx g2 => ?_⟩
      obtain ⟨c, rfl⟩ := sign_of hx
      refine ⟨_, _, rfl, rfl, ?_, _, _, rfl, ?_, g.trans g2⟩
      · rw [hz, len_one]
        exact Nat.le_trans (show i + 1 ≤ 1000 by omega) (by decide)
      · rw [PySem.Str.length_append, hz, len_one]
    · rintro σ H1 ⟨z, k, rfl, hz, g⟩
      exact ⟨_, rfl, q H1 z hz g⟩
theorem ok__law_plain_word (T : Txt K mg) (D__law_pick : Kept P w K mg base 2 "_law_pick" ["d", "row"] (spPick K)) {f : Addr} {fd : FuncData} (F : FnP K "_law_plain_word" s__law_plain_word f fd) : FnOk P w K mg base CX0 3 f fd ["d", "size"] spPlain := by
  refine F.ok sc__law_plain_word (fun vs H Q E h => ?_) (fun cdv A outer s H vs Q E hr h => ?_)
  · obtain ⟨S, D, n, rfl, _⟩ := h
    rfl
  · obtain ⟨S, D, n, rfl, h0, h1, d, q⟩ := h
    refine ⟨_, PSs.nox (pss_cons (ps_set (i := 2) sc__law_plain_word.nd rfl (Or.inl rfl) (pe_d D__law_pick (hr.mono (by decide)) (by rfl) (pa_cons (pv 0) (pa_cons pe_str pa_nil))))
      (pss_cons (ps_for PassesOwn.never rfl (pi_range1 (by rfl) T.b_range (pa_cons (pe_op op_sub (pv 1) pe_int) pa_nil)) (pg_name (i := 3) sc__law_plain_word.nd rfl (Or.inl rfl)) (pss_one (ps_set (i := 2) sc__law_plain_word.nd rfl (Or.inl rfl) (pe_op op_add_str (pv 2) (pe_d D__law_pick (hr.mono (by decide)) (by rfl) (pa_cons (pv 0) (pa_cons pe_str pa_nil)))))))
      (pss_one (ps_ret (pv 2))))), ?_⟩
    refine ⟨_, rfl, S, D, _, _, rfl, d, fun H' _ => row_str LETz, by decide +kernel, by decide +kernel, fun H1 x hx g1 => ?_⟩
    obtain ⟨c0, rfl⟩ := sign_of hx
    refine ⟨_, rfl, _, _, rfl, rfl, _, rfl, by omega, by omega, for_range (lo := 0) (n := (n - 1).toNat) (fun i σ H' => ∃ (z : Str) (k : Option V), σ = [some (.ref D), some (.int n), some (.str z), k] ∧ z.length = i + 1 ∧ Go S D H H') ⟨_, _, rfl, rfl, g1⟩ ?_ ?_⟩
    · rintro i σ H1 hi ⟨z, k, rfl, hz, g⟩
      refine ⟨_, rfl, _, rfl, S, D, _, _, rfl, g.1, fun H' _ => row_str LDz, by decide +kernel, by decide +kernel, fun H2 x hx g2 => ?_⟩
      obtain ⟨c, rfl⟩ := sign_of hx
      refine ⟨_, _, rfl, rfl, ?_, _, _, rfl, ?_, g.trans g2⟩
      · rw [hz, len_one]
        exact Nat.le_trans (show i + 1 + 1 ≤ 1000 by omega) (by decide)
      · rw [PySem.Str.length_append, hz, len_one]
    · rintro σ H1 ⟨z, k, rfl, hz, g⟩
      exact ⟨_, rfl, q H1 z (by omega) g⟩
theorem ok__law_bent (T : Txt K mg) (D__law_draw : Kept P w K mg base 1 "_law_draw" ["d", "many"] spDraw) (D__law_raw : Kept P w K mg base 3 "_law_raw" ["d", "size"] spRaw) {f : Addr} {fd : FuncData} (F : FnP K "_law_bent" s__law_bent f fd) : FnOk P w K mg base CX0 4 f fd ["d", "text"] spBent := by
  refine F.ok sc__law_bent (fun vs H Q E h => ?_) (fun cdv A outer s H vs Q E hr h => ?_)
  · obtain ⟨S, D, n, rfl, _⟩ := h
    rfl
  · obtain ⟨S, D, z, rfl, h0, h1, d, q⟩ := h
    have hl : z.length ≤ sizeLine := Nat.le_of_lt (small1000 (by omega))
    refine ⟨_, PSs.nox (pss_cons (ps_set (i := 2) sc__law_bent.nd rfl (Or.inl rfl) (pe_d D__law_draw (hr.mono (by decide)) (by rfl) (pa_cons (pv 0) (pa_cons (pe_callB call_len (by rfl) T.b_len (by decide +kernel) (pa_cons (pv 1) pa_nil)) pa_nil))))
      (pss_cons (ps_set (i := 3) sc__law_bent.nd rfl (Or.inl rfl) (pe_d D__law_draw (hr.mono (by decide)) (by rfl) (pa_cons (pv 0) (pa_cons pe_int pa_nil))))
      (pss_cons (ps_if (pt_cmpR op_eq (pv 3) pe_int (nomark _)) (pss_one (ps_ret (pe_op op_add_str (pe_slice sl_str (pv 1) po_none (po_some (pv 2))) (pe_slice sl_str (pv 1) (po_some (pe_op op_add (pv 2) pe_int)) po_none)))) pss_nil)
      (pss_cons (ps_if (pt_cmpR op_eq (pv 3) pe_int (nomark _)) (pss_one (ps_ret (pe_op op_add_str (pe_op op_add_str (pe_slice sl_str (pv 1) po_none (po_some (pv 2))) (pe_d D__law_raw (hr.mono (by decide)) (by rfl) (pa_cons (pv 0) (pa_cons pe_int pa_nil)))) (pe_slice sl_str (pv 1) (po_some (pv 2)) po_none)))) pss_nil)
      (pss_one (ps_ret (pe_op op_add_str (pe_op op_add_str (pe_slice sl_str (pv 1) po_none (po_some (pv 2))) (pe_d D__law_raw (hr.mono (by decide)) (by rfl) (pa_cons (pv 0) (pa_cons pe_int pa_nil)))) (pe_slice sl_str (pv 1) (po_some (pe_op op_add (pv 2) pe_int)) po_none)))))))), ?_⟩
    refine ⟨_, rfl, _, rfl, _, _, rfl, ⟨hl, rfl⟩, S, D, _, rfl, divW_of (by omega) (by omega), d, fun H1 a ha0 ha1 g1 => ?_⟩
    refine ⟨_, rfl, S, D, _, rfl, divW_of (by decide) (by decide), g1.1, fun H2 b hb0 hb1 g2 => ?_⟩
    have g := g1.trans g2
    have c1 : ∀ hi : Option Int, (cutS z none hi).length ≤ z.length := fun hi => cutS_length z none hi
    have c2 : ∀ lo : Option Int, (cutS z lo none).length ≤ z.length := fun lo => cutS_length z lo none
    have c3 : ∀ lo hi : Option Int, lo = some a ∨ lo = some (a + 1) → hi = some a → (cutS z none hi).length + (cutS z lo none).length ≤ z.length := fun lo hi hlo hhi => cut2 z a ha0 lo hi hlo hhi
    refine ⟨_, rfl, rfl, _, rfl, ?_⟩
    refine ite2 (fun _ => ?_) (fun _ => ?_)
    · refine ⟨_, rfl, _, rfl, _, rfl, z, rfl, hl, _, rfl, _, rfl, _, _, rfl, rfl, _, rfl, z, rfl, hl, _, _, rfl, rfl, ?_, ?_⟩
      · exact Nat.le_trans (c3 _ _ (.inr rfl) rfl) hl
      · refine q H2 _ ?_ g
        rw [PySem.Str.length_append]
        exact Nat.le_trans (c3 _ _ (.inr rfl) rfl) (by omega)
    · refine ⟨_, rfl, rfl, _, rfl, ?_⟩
      refine ite2 (fun _ => ?_) (fun _ => ?_)
      · refine ⟨_, rfl, _, rfl, _, rfl, z, rfl, hl, _, rfl, S, D, 1, rfl, by decide, by decide, g.1, fun H3 y hy g3 => ?_⟩
        have hy1 : y.length = 1 := hy
        have c := c3 _ _ (.inl rfl) rfl
        refine ⟨_, _, rfl, rfl, ?_, _, rfl, _, rfl, _, rfl, z, rfl, hl, _, _, rfl, rfl, ?_, ?_⟩
        · exact Nat.le_trans (show _ ≤ 1000 by have := c1 (some a); omega) (by decide)
        · rw [PySem.Str.length_append]
          exact Nat.le_trans (show _ ≤ 1000 by omega) (by decide)
        · refine q H3 _ ?_ (g.trans g3)
          rw [PySem.Str.length_append, PySem.Str.length_append]
          omega
      · refine ⟨_, rfl, _, rfl, _, rfl, z, rfl, hl, _, rfl, S, D, 1, rfl, by decide, by decide, g.1, fun H3 y hy g3 => ?_⟩
        have hy1 : y.length = 1 := hy
        have c := c3 _ _ (.inr rfl) rfl
        refine ⟨_, _, rfl, rfl, ?_, _, rfl, _, rfl, _, _, rfl, rfl, _, rfl, z, rfl, hl, _, _, rfl, rfl, ?_, ?_⟩
        · exact Nat.le_trans (show _ ≤ 1000 by have := c1 (some a); omega) (by decide)
        · rw [PySem.Str.length_append]
          exact Nat.le_trans (show _ ≤ 1000 by omega) (by decide)
        · refine q H3 _ ?_ (g.trans g3)
          rw [PySem.Str.length_append, PySem.Str.length_append]
          omega
theorem ok__law_strings (T : Txt K mg) (D__law_draw : Kept P w K mg base 1 "_law_draw" ["d", "many"] spDraw) (D__law_pick : Kept P w K mg base 2 "_law_pick" ["d", "row"] (spPick K)) (D__law_reserved : Kept P w K mg base 1 "_law_reserved" [] spRes) (D__law_raw : Kept P w K mg base 3 "_law_raw" ["d", "size"] spRaw) (D__law_plain_word : Kept P w K mg base 3 "_law_plain_word" ["d", "size"] spPlain) (D__law_bent : Kept P w K mg base 4 "_law_bent" ["d", "text"] spBent) {f : Addr} {fd : FuncData} (F : FnP K "_law_strings" s__law_strings f fd) : FnOk P w K mg base CX0 5 f fd ["d"] spStrings := by
  refine F.ok sc__law_strings (fun vs H Q E h => ?_) (fun cdv A outer s H vs Q E hr h => ?_)
  · obtain ⟨S, D, rfl, _⟩ := h
    rfl
  · obtain ⟨S, D, rfl, d, q⟩ := h
    have TK := @takes0 (cxOf CX0 P w K mg base N__law_strings "_law_strings" (defScope s__law_strings) f cdv A outer s H E).nox
    refine ⟨_, PSs.nox (pss_cons (ps_set (i := 1) sc__law_strings.nd rfl (Or.inl rfl) (pe_lst (pa_cons (pe_d D__law_raw (hr.mono (by decide)) (by rfl) (pa_cons (pv 0) (pa_cons (pe_d D__law_draw (hr.mono (by decide)) (by rfl) (pa_cons (pv 0) (pa_cons pe_int pa_nil))) pa_nil))) (pa_cons (pe_d D__law_plain_word (hr.mono (by decide)) (by rfl) (pa_cons (pv 0) (pa_cons (pe_op op_add pe_int (pe_d D__law_draw (hr.mono (by decide)) (by rfl) (pa_cons (pv 0) (pa_cons pe_int pa_nil)))) pa_nil))) pa_nil))))
      (pss_cons (ps_set (i := 2) sc__law_strings.nd rfl (Or.inl rfl) (pe_d D__law_plain_word (hr.mono (by decide)) (by rfl) (pa_cons (pv 0) (pa_cons (pe_op op_add pe_int (pe_d D__law_draw (hr.mono (by decide)) (by rfl) (pa_cons (pv 0) (pa_cons pe_int pa_nil)))) pa_nil))))
      (pss_cons (ps_set (i := 1) sc__law_strings.nd rfl (Or.inl rfl) (pe_op op_cat (pv 1) (pe_lst (pa_cons (pv 2) (pa_cons (pe_d D__law_bent (hr.mono (by decide)) (by rfl) (pa_cons (pv 0) (pa_cons (pv 2) pa_nil))) pa_nil)))))
      (pss_cons (ps_set (i := 2) sc__law_strings.nd rfl (Or.inl rfl) (pe_d D__law_plain_word (hr.mono (by decide)) (by rfl) (pa_cons (pv 0) (pa_cons (pe_op op_add pe_int (pe_d D__law_draw (hr.mono (by decide)) (by rfl) (pa_cons (pv 0) (pa_cons pe_int pa_nil)))) pa_nil))))
      (pss_cons (ps_set (i := 1) sc__law_strings.nd rfl (Or.inl rfl) (pe_op op_cat (pv 1) (pe_lst (pa_cons (pv 2) (pa_cons (pe_d D__law_bent (hr.mono (by decide)) (by rfl) (pa_cons (pv 0) (pa_cons (pv 2) pa_nil))) (pa_cons (pe_slice sl_str (pv 2) po_none (po_some pe_int)) pa_nil))))))
      (pss_cons (ps_set (i := 3) sc__law_strings.nd rfl (Or.inl rfl) (pe_d D__law_pick (hr.mono (by decide)) (by rfl) (pa_cons (pv 0) (pa_cons (pe_d0 D__law_reserved (hr.mono (by decide)) (by rfl)) pa_nil))))
      (pss_cons (ps_set (i := 1) sc__law_strings.nd rfl (Or.inl rfl) (pe_op op_cat (pv 1) (pe_lst (pa_cons (pv 3) (pa_cons (pe_slice sl_str (pv 3) po_none (po_some (pe_un un_neg pe_int))) (pa_cons (pe_op op_add_str (pv 3) (pe_d D__law_raw (hr.mono (by decide)) (by rfl) (pa_cons (pv 0) (pa_cons pe_int pa_nil)))) (pa_cons (pe_op op_add_str (pe_d D__law_raw (hr.mono (by decide)) (by rfl) (pa_cons (pv 0) (pa_cons pe_int pa_nil))) (pv 3)) pa_nil)))))))
      (pss_cons (ps_set (i := 4) sc__law_strings.nd rfl (Or.inl rfl) pe_str)
      (pss_cons (ps_expr (pe_bm PySem.F.plainAttrs_list PySem.F.slot_list_append PySem.F.type_list_append mt_append (pv 1) (pa_cons (pe_op op_add_str (pe_ix ix_str (pv 4) (pe_bmS PySem.F.plainAttrs_str PySem.F.slot_str_index PySem.F.type_str_index (mt_indexX rfl TK) pe_str (pa_cons (pe_ix ix_str (pv 3) pe_int (fun _ _ => rfl)) pa_nil)) (fun _ _ => rfl)) (pe_slice sl_str (pv 3) (po_some pe_int) po_none)) pa_nil)))
      (pss_one (ps_ret (pe_op op_cat (pv 1) (pe_d0 D__law_reserved (hr.mono (by decide)) (by rfl)))))))))))))), ?_⟩
    -- found = [raw, plain]
    refine ⟨_, rfl, _, rfl, S, D, 13, rfl, divW_of (by decide) (by decide), d, fun H1 a1 _ _ g1 => ?_⟩
    refine ⟨S, D, _, rfl, by omega, by omega, g1.1, fun H2 z1 hz1 g2 => ?_⟩
    refine ⟨_, rfl, _, rfl, S, D, 11, rfl, divW_of (by decide) (by decide), g2.1, fun H3 a2 _ _ g3 => ?_⟩
    refine ⟨_, _, rfl, rfl, S, D, _, rfl, by omega, by omega, g3.1, fun H4 z2 hz2 g4 => ?_⟩
    refine ⟨by show 2 ≤ sizeLine; decide, fun p0 hp0 => ?_⟩
    have g04 : Go S D H H4 := ((g1.trans g2).trans g3).trans g4
    have q0 : p0 ≠ D := (g04.1.free hp0).1
    have f0 : H p0 = none := g04.free d hp0
    have g5 : Go S D H (upd H4 p0 (.lst [.str z1, .str z2])) := g04.trans (Go.new g04.1 hp0)
    have k5 : (upd H4 p0 (.lst [.str z1, .str z2])) p0 = some (.lst [.str z1, .str z2]) := upd_same
    -- name
    refine ⟨_, rfl, _, rfl, S, D, 8, rfl, divW_of (by decide) (by decide), g5.1, fun H6 a3 a30 a31 g6 => ?_⟩
    refine ⟨_, _, rfl, rfl, S, D, _, rfl, by omega, by omega, g6.1, fun H7 n1 hn1 g7 => ?_⟩
    -- found + [name, bent]
    refine ⟨_, rfl, _, rfl, _, rfl, _, rfl, S, D, n1, rfl, by omega, by omega, g7.1, fun H8 b1 hb1 g8 => ?_⟩
    refine ⟨by show 2 ≤ sizeLine; decide, fun p1 hp1 => ?_⟩
    have g08 := ((g5.trans g6).trans g7).trans g8
    have k8 : H8 p0 = some (.lst [.str z1, .str z2]) := g8.2 _ _ (g7.2 _ _ (g6.2 _ _ k5 q0) q0) q0
    have g9 : Go S D H (upd H8 p1 (.lst [.str n1, .str b1])) := g08.trans (Go.new g08.1 hp1)
    refine ⟨p0, p1, _, _, rfl, rfl, by rw [upd_ne (ne_of_none k8 hp1)]; exact k8, upd_same, by show 2 + 2 ≤ sizeLine; decide, fun p2 hp2 => ?_⟩
    have q2 : p2 ≠ D := (g9.1.free hp2).1
    have f2 : H p2 = none := g9.free d hp2
    have g10 := g9.trans (Go.new (o := .lst ([.str z1, .str z2] ++ [.str n1, .str b1])) g9.1 hp2)
    have k10 : (upd (upd H8 p1 (.lst [.str n1, .str b1])) p2 (.lst ([.str z1, .str z2] ++ [.str n1, .str b1]))) p2 = some (.lst [.str z1, .str z2, .str n1, .str b1]) := upd_same
    -- name
    refine ⟨_, rfl, _, rfl, S, D, 3, rfl, divW_of (by decide) (by decide), g10.1, fun H11 a4 a40 a41 g11 => ?_⟩
    refine ⟨_, _, rfl, rfl, S, D, _, rfl, by omega, by omega, g11.1, fun H12 n2 hn2 g12 => ?_⟩
    -- found + [name, bent, name[:8]]
    refine ⟨_, rfl, _, rfl, _, rfl, _, rfl, S, D, n2, rfl, by omega, by omega, g12.1, fun H13 b2 hb2 g13 => ?_⟩
    refine ⟨_, rfl, _, rfl, n2, rfl, Nat.le_of_lt (small1000 (by omega)), ?_⟩
    refine ⟨by show 3 ≤ sizeLine; decide, fun p3 hp3 => ?_⟩
    have g013 := ((g10.trans g11).trans g12).trans g13
    have k13 : H13 p2 = some (.lst [.str z1, .str z2, .str n1, .str b1]) := g13.2 _ _ (g12.2 _ _ (g11.2 _ _ k10 q2) q2) q2
    have g14 := g013.trans (Go.new (o := .lst [.str n2, .str b2, .str (cutS n2 none (some 8))]) g013.1 hp3)
    refine ⟨p2, p3, _, _, rfl, rfl, by rw [upd_ne (ne_of_none k13 hp3)]; exact k13, upd_same, by show 4 + 3 ≤ sizeLine; decide, fun p4 hp4 => ?_⟩
    have q4 : p4 ≠ D := (g14.1.free hp4).1
    have f4 : H p4 = none := g14.free d hp4
    have g15 := g14.trans (Go.new (o := .lst ([.str z1, .str z2, .str n1, .str b1] ++ [.str n2, .str b2, .str (cutS n2 none (some 8))])) g14.1 hp4)
    have k15 := (upd_same : (upd (upd H13 p3 (.lst [.str n2, .str b2, .str (cutS n2 none (some 8))])) p4 (.lst ([.str z1, .str z2, .str n1, .str b1] ++ [.str n2, .str b2, .str (cutS n2 none (some 8))]))) p4 = _)
    -- word = pick(d, reserved())
    refine ⟨_, rfl, rfl, fun p5 hp5 => ?_⟩
    have g16 := g15.trans (Go.new (o := .lst (RES.map V.str)) g15.1 hp5)
    have k16 := ne_of_none k15 hp5
    refine ⟨S, D, _, RES.map V.str, rfl, g16.1, fun H' gg => .inr ⟨p5, rfl, SqL.of (gg.2 _ _ upd_same (g15.1.free hp5).1)⟩, by decide +kernel, by decide +kernel, fun H17 x hx g17 => ?_⟩
    obtain ⟨wd, hw, rfl⟩ := List.mem_map.mp hx
    obtain ⟨w1, w9, c, kc, ec, ek, hk⟩ := res_get hw
    have k17 : H17 p4 = some (.lst ([.str z1, .str z2, .str n1, .str b1] ++ [.str n2, .str b2, .str (cutS n2 none (some 8))])) := g17.2 _ _ (by rw [upd_ne k16]; exact k15) q4
    have g017 := g16.trans g17
    have hwl : wd.length ≤ sizeLine := Nat.le_of_lt (small1000 (by omega))
    -- found + [word, word[:-1], word + raw, raw + word]
    refine ⟨_, rfl, _, rfl, _, rfl, _, rfl, _, rfl, wd, rfl, hwl, _, rfl, _, rfl, S, D, 1, rfl, by decide, by decide, g017.1, fun H18 r1 hr1 g18 => ?_⟩
    have hr1' : r1.length = 1 := hr1
    refine ⟨_, _, rfl, rfl, Nat.le_trans (show _ ≤ 1000 by omega) (by decide), _, rfl, S, D, 1, rfl, by decide, by decide, g18.1, fun H19 r2 hr2 g19 => ?_⟩
    have hr2' : r2.length = 1 := hr2
    refine ⟨_, rfl, _, _, rfl, rfl, Nat.le_trans (show _ ≤ 1000 by omega) (by decide), by show 4 ≤ sizeLine; decide, fun p6 hp6 => ?_⟩
    have g019 := (g017.trans g18).trans g19
    have k19 := g19.2 _ _ (g18.2 _ _ k17 q4) q4
    have g20 := g019.trans (Go.new (o := .lst [.str wd, .str (cutS wd none (some (-1))), .str (wd ++ r1), .str (r2 ++ wd)]) g019.1 hp6)
    refine ⟨p4, p6, _, _, rfl, rfl, by rw [upd_ne (ne_of_none k19 hp6)]; exact k19, upd_same, by show 7 + 4 ≤ sizeLine; decide, fun p7 hp7 => ?_⟩
    have q7 : p7 ≠ D := (g20.1.free hp7).1
    have f7 : H p7 = none := g20.free d hp7
    have g21 := g20.trans (Go.new (o := .lst (([.str z1, .str z2, .str n1, .str b1] ++ [.str n2, .str b2, .str (cutS n2 none (some 8))]) ++ [.str wd, .str (cutS wd none (some (-1))), .str (wd ++ r1), .str (r2 ++ wd)])) g20.1 hp7)
    -- found.append(capital + word[1:])
    refine ⟨_, rfl, .inl ⟨rfl, _, SqL.of upd_same⟩, ?_⟩
    have ec2 : atI wd.cps.toList 0 = some c := atI_nat (j := 0) ec
    refine ⟨_, rfl, rfl, _, rfl, wd, 0, c, rfl, rfl, hwl, ec2, _, _, rfl, rfl, fun k' ek' => ?_, fun en => ?_⟩
    · have e : kc = k' := Option.some.inj (ek.symm.trans ek')
      subst e
      have hc : kc < CAP.cps.toList.length := hk
      refine ⟨CAP, (kc : Nat), _, rfl, rfl, by decide +kernel, atI_nat (List.getElem?_eq_getElem hc), _, rfl, _, rfl, wd, rfl, hwl, _, _, rfl, rfl, ?_, ?_⟩
      · have := cutS_length wd (some 1) none
        exact Nat.le_trans (show _ ≤ 1000 by rw [len_one]; omega) (by decide)
      · refine ⟨p7, _, _, rfl, rfl, upd_same, by show 11 < sizeLine; decide, ?_⟩
        rw [upd_upd]
        refine ⟨_, rfl, rfl, fun p8 hp8 => ?_⟩
        have n87 := ne_of_none upd_same hp8
        have g22 : Go S D H _ := g20.trans (Go.new (o := .lst (([.str z1, .str z2, .str n1, .str b1] ++ [.str n2, .str b2, .str (cutS n2 none (some 8))] ++ [.str wd, .str (cutS wd none (some (-1))), .str (wd ++ r1), .str (r2 ++ wd)]) ++ [V.str (⟨#[CAP.cps.toList[kc]]⟩ ++ cutS wd (some 1) none)])) g20.1 hp7)
        have g23 : Go S D H _ := g22.trans (Go.new (o := .lst (RES.map V.str)) g22.1 hp8)
        refine ⟨p7, p8, _, _, rfl, rfl, by rw [upd_ne n87]; exact upd_same, upd_same, ?_, fun p9 hp9 => ?_⟩
        · show 12 + (RES.map V.str).length ≤ sizeLine
          rw [List.length_map]
          decide +kernel
        · have f9 : H p9 = none := g23.free d hp9
          refine q _ p9 ([z1, z2, n1, b1, n2, b2, cutS n2 none (some 8), wd, cutS wd none (some (-1)), wd ++ r1, r2 ++ wd, ⟨#[CAP.cps.toList[kc]]⟩ ++ cutS wd (some 1) none] ++ RES) f9 upd_same ?_ ?_ (g23.trans (Go.new g23.1 hp9))
          · show 12 + RES.length ≤ 100
            decide +kernel
          · intro z hz
            rw [List.mem_append] at hz
            rcases hz with h | h
            · have c1 := cutS_length n2 none (some 8)
              have c2 := cutS_length wd none (some (-1))
              have c3 := cutS_length wd (some 1) none
              have l1 : (wd ++ r1).length = wd.length + r1.length := PySem.Str.length_append _ _
              have l2 : (r2 ++ wd).length = r2.length + wd.length := PySem.Str.length_append _ _
              have l3 : (⟨#[CAP.cps.toList[kc]]⟩ ++ cutS wd (some 1) none : Str).length = 1 + (cutS wd (some 1) none).length := PySem.Str.length_append _ _
              simp only [List.mem_cons, List.not_mem_nil, or_false] at h
              rcases h with h | h | h | h | h | h | h | h | h | h | h | h <;> (rw [h]; omega)
            · have := (res_get h).2.1
              omega
    · rw [ek] at en
      cases en
theorem ok_law (T : Txt K mg) (D_is_name : Kept P w K mg base 1 "is_name" ["text"] spName) (D__law_begin : Kept P w K mg base 1 "_law_begin" ["script"] (spBegin K)) (D__law_is_name : Kept P w K mg base 2 "_law_is_name" ["text"] spName) (D__law_strings : Kept P w K mg base 5 "_law_strings" ["d"] spStrings) {f : Addr} {fd : FuncData} (F : FnP K "law" s_law f fd) : FnOk P w K mg base CX0 6 f fd ["script"] (spLaw K) := by
  refine F.ok sc_law (fun vs H Q E h => ?_) (fun cdv A outer s H vs Q E hr h => ?_)
  · obtain ⟨a, ns, rfl, _⟩ := h
    rfl
  · obtain ⟨a, ns, rfl, hS, hlen, q⟩ := h
    refine ⟨_, PSs.nox (pss_cons (ps_set (i := 1) sc_law.nd rfl (Or.inl rfl) (pe_d D__law_begin (hr.mono (by decide)) (by rfl) (pa_cons (pv 0) pa_nil)))
      (pss_cons (ps_set (i := 2) sc_law.nd rfl (Or.inl rfl) (pe_d D__law_strings (hr.mono (by decide)) (by rfl) (pa_cons (pv 1) pa_nil)))
      (pss_cons (ps_for PassesOwn.never rfl (pi_list (pe_op op_cat (pv 2) (pe_revL (pv 2)))) (pg_name (i := 3) sc_law.nd rfl (Or.inl rfl)) (pss_cons (ps_set (i := 4) sc_law.nd rfl (Or.inl rfl) (pe_d D_is_name (hr.mono (by decide)) (by rfl) (pa_cons (pv 3) pa_nil)))
      (pss_one (ps_if (PW.pt (pw_or (pt_not (pt_val (pe_callB call_isi (by rfl) T.b_isinstance (by decide +kernel) (pa_cons (pv 4) (pa_cons (pe_bltn (v := .ty "bool") (u := .type "bool") (by rfl) T.b_bool (by decide +kernel) rfl) pa_nil))))) (pw_or1 (pt_cmpR op_ne (pv 4) (pe_d D__law_is_name (hr.mono (by decide)) (by rfl) (pa_cons (pv 3) pa_nil)) (nomark _))))) (pss_one (ps_ret pe_bl)) pss_nil))))
      (pss_one (ps_ret pe_bl))))), ?_⟩
    refine ⟨_, rfl, a, ns, rfl, hS, hlen, fun S D H1 s1 fD d => ?_⟩
    refine ⟨_, rfl, S, D, rfl, d, fun H2 p zs fp hp hzl hz g => ?_⟩
    refine ⟨_, rfl, _, rfl, p, _, rfl, SqL.of hp, fun p2 hp2 => ?_⟩
    have n2 := ne_of_none hp hp2
    refine ⟨p, p2, _, _, rfl, rfl, by rw [upd_ne n2]; exact hp, upd_same, ?_, fun p3 hp3 => ?_⟩
    · rw [List.length_reverse, List.length_map]
      exact Nat.le_trans (show _ ≤ 1000 by omega) (by decide)
    refine ⟨p3, rfl, ⟨_, SqL.of upd_same⟩, for_list (K := K) (a := p3) (xs := zs.map V.str ++ (zs.map V.str).reverse) (fun i σ H3 => ∃ y4 y5, σ = [some (.ref a), some (.ref D), some (.ref p), y4, y5] ∧ H3 p3 = some (.lst (zs.map V.str ++ (zs.map V.str).reverse))) ⟨_, _, rfl, upd_same⟩ (fun i σ H3 _ ⟨_, _, _, h3⟩ => SqL.of h3) ?_ ?_⟩
    · rintro i x σ H3 hi ⟨y4, y5, rfl, h3⟩
      obtain ⟨z, rfl, hzl2⟩ : ∃ z, x = V.str z ∧ z.length ≤ 1000 := by
        have hm := List.mem_of_getElem? hi
        rw [List.mem_append, List.mem_reverse, or_self] at hm
        obtain ⟨z, hz1, rfl⟩ := List.mem_map.mp hm
        exact ⟨z, rfl, Nat.le_trans (hz z hz1) (by decide)⟩
      refine ⟨_, rfl, z, rfl, hzl2, fun H4 s4 => ?_⟩
      refine ⟨_, rfl, _, .ty "bool", .type "bool", .type "bool", true, rfl, .ty _, .base (.bl _), kit_ty (by decide +kernel), true, rfl, ?_⟩
      refine ⟨_, rfl, _, rfl, z, rfl, hzl2, fun H5 s5 => ⟨rfl, _, rfl, ?_⟩⟩
      refine iteNS rfl ?_
      exact ⟨_, _, rfl, s5 _ _ (s4 _ _ h3)⟩
    · rintro σ H3 ⟨y4, y5, rfl, h3⟩
      exact q H3
end
end Mt
namespace Mt
open PySem PySem.Spec PyProof.Rows L2
def dd_is_name : He.DefD := ⟨("is_name", none), "is_name", "is_name", defArgs s_is_name, defBody s_is_name, defScope s_is_name, [], []⟩
def dd__law_begin : He.DefD := ⟨("_law_begin", none), "_law_begin", "_law_begin", defArgs s__law_begin, defBody s__law_begin, defScope s__law_begin, [], []⟩
def dd__law_draw : He.DefD := ⟨("_law_draw", none), "_law_draw", "_law_draw", defArgs s__law_draw, defBody s__law_draw, defScope s__law_draw, [], []⟩
def dd__law_pick : He.DefD := ⟨("_law_pick", none), "_law_pick", "_law_pick", defArgs s__law_pick, defBody s__law_pick, defScope s__law_pick, [], []⟩
def dd__law_reserved : He.DefD := ⟨("_law_reserved", none), "_law_reserved", "_law_reserved", defArgs s__law_reserved, defBody s__law_reserved, defScope s__law_reserved, [], []⟩
def dd__law_is_name : He.DefD := ⟨("_law_is_name", none), "_law_is_name", "_law_is_name", defArgs s__law_is_name, defBody s__law_is_name, defScope s__law_is_name, [], []⟩
def dd__law_signs : He.DefD := ⟨("_law_signs", none), "_law_signs", "_law_signs", defArgs s__law_signs, defBody s__law_signs, defScope s__law_signs, [], []⟩
def dd__law_raw : He.DefD := ⟨("_law_raw", none), "_law_raw", "_law_raw", defArgs s__law_raw, defBody s__law_raw, defScope s__law_raw, [], []⟩
def dd__law_plain_word : He.DefD := ⟨("_law_plain_word", none), "_law_plain_word", "_law_plain_word", defArgs s__law_plain_word, defBody s__law_plain_word, defScope s__law_plain_word, [], []⟩
def dd__law_bent : He.DefD := ⟨("_law_bent", none), "_law_bent", "_law_bent", defArgs s__law_bent, defBody s__law_bent, defScope s__law_bent, [], []⟩
def dd__law_strings : He.DefD := ⟨("_law_strings", none), "_law_strings", "_law_strings", defArgs s__law_strings, defBody s__law_strings, defScope s__law_strings, [], []⟩
def dd_law : He.DefD := ⟨("law", none), "law", "law", defArgs s_law, defBody s_law, defScope s_law, [], []⟩
def dds : List He.DefD := [dd_is_name, dd__law_begin, dd__law_draw, dd__law_pick, dd__law_reserved, dd__law_is_name, dd__law_signs, dd__law_raw, dd__law_plain_word, dd__law_bent, dd__law_strings, dd_law]
def fas : List He.Fa := [.glo "is_name", .glo "_law_begin", .glo "_law_draw", .glo "_law_pick", .glo "_law_reserved", .glo "_law_is_name", .glo "_law_signs", .glo "_law_raw", .glo "_law_plain_word", .glo "_law_bent", .glo "_law_strings", .glo "law", .free "int", .free "len", .free "abs", .free "all", .free "isinstance", .free "bool", .free "range", .str "LETTERS" LETz, .str "DIGITS" DIGz, .glo "RESERVED"]
def exM (K : PySem.W.Frag) : Bool := He.tupB K "RESERVED" (RES.map He.Dv.str)
abbrev R : PySem.W.OpenRow := PySem.W.OpenLaw.row PySem.Challenge.rw_meantrace_k05_names
abbrev hk : PySem.W.Hook := hookM 4 fas dds exM
def ob (s : PySem.W.SharedT) : AlM := obsM 4 fas dds exM (HandSHeadRun.getT s)
theorem ob_eq (s : PySem.W.SharedT) : ob s = hk.obs s.abs := obsM_eq (HandSHeadRun.getT_eq s)
def names : List PySem.Str := ["LETTERS", "DIGITS", "RESERVED", "is_name", "_law_begin", "_law_draw", "_law_pick", "_law_reserved", "_law_is_name", "_law_signs", "_law_raw", "_law_plain_word", "_law_bent", "_law_strings"]
theorem run (w : World) : HandSHeadRun.RunEq R (PySem.W.view R.prog [16]) hk ob 3000 names w := by
  intro os
  kernel_rfl
theorem facts {P : Program} {w : World} {K : PySem.W.Frag} {h : Heap} {mg : Str → Option Value} {f : Addr} (X : K.In h) (G : h.Ns mainGlobals mg) (hfa : mg ("law" : Str) = some (.ref f)) (c : SaysM fas dds exM K) :
    ∃ fd : FuncData, (∀ (s : Shared) (v : Value), BindsTo s fd ⟨[v], []⟩ [("script", v)]) ∧ ∀ base : Heap, K.In base → base.Ns mainGlobals mg → FnOk P w K mg base CX0 6 f fd ["script"] (spLaw K) := by
  obtain ⟨fd, F⟩ := c.1.def_ 11 (d := dd_law) rfl
  have e := hfa.symm.trans (He.glo_ok X G (c.1.fact 11 (f := .glo "law") rfl))
  cases e
  have T : Txt K mg := ⟨He.free_ok X G (c.1.fact 12 (f := .free "int") rfl), He.free_ok X G (c.1.fact 13 (f := .free "len") rfl), He.free_ok X G (c.1.fact 14 (f := .free "abs") rfl), He.free_ok X G (c.1.fact 15 (f := .free "all") rfl), He.free_ok X G (c.1.fact 16 (f := .free "isinstance") rfl), He.free_ok X G (c.1.fact 17 (f := .free "bool") rfl), He.free_ok X G (c.1.fact 18 (f := .free "range") rfl), He.str_ok X G (c.1.fact 19 (f := .str "LETTERS" LETz) rfl), He.str_ok X G (c.1.fact 20 (f := .str "DIGITS" DIGz) rfl), He.glo_ok X G (c.1.fact 21 (f := .glo "RESERVED") rfl), (fun H => res_map K ▸ He.tupB_ok c.2 H)⟩
  have b := FunD.bindsA (ps := ["script"]) F fun _ _ _ _ _ _ us hl => match us, hl with | [_], _ => rfl
  refine ⟨fd, fun s v => b s [v] rfl, fun base _ _ => ?_⟩
  have D_is_name : Kept P w K mg base 1 "is_name" ["text"] spName := kept_of (st := s_is_name) X G (c.1.def_ 0 (d := dd_is_name) rfl) (c.1.fact 0 (f := .glo "is_name") rfl) (fun _ _ _ _ _ _ us hl => match us, hl with | [_], _ => rfl) (fun f fd F => ok_is_name T F)
  have D__law_begin : Kept P w K mg base 1 "_law_begin" ["script"] (spBegin K) := kept_of (st := s__law_begin) X G (c.1.def_ 1 (d := dd__law_begin) rfl) (c.1.fact 1 (f := .glo "_law_begin") rfl) (fun _ _ _ _ _ _ us hl => match us, hl with | [_], _ => rfl) (fun f fd F => ok__law_begin T F)
  have D__law_draw : Kept P w K mg base 1 "_law_draw" ["d", "many"] spDraw := kept_of (st := s__law_draw) X G (c.1.def_ 2 (d := dd__law_draw) rfl) (c.1.fact 2 (f := .glo "_law_draw") rfl) (fun _ _ _ _ _ _ us hl => match us, hl with | [_, _], _ => rfl) (fun f fd F => ok__law_draw T F)
  have D__law_pick : Kept P w K mg base 2 "_law_pick" ["d", "row"] (spPick K) := kept_of (st := s__law_pick) X G (c.1.def_ 3 (d := dd__law_pick) rfl) (c.1.fact 3 (f := .glo "_law_pick") rfl) (fun _ _ _ _ _ _ us hl => match us, hl with | [_, _], _ => rfl) (fun f fd F => ok__law_pick T D__law_draw F)
  have D__law_reserved : Kept P w K mg base 1 "_law_reserved" [] spRes := kept_of (st := s__law_reserved) X G (c.1.def_ 4 (d := dd__law_reserved) rfl) (c.1.fact 4 (f := .glo "_law_reserved") rfl) (fun _ _ _ _ _ _ us hl => match us, hl with | [], _ => rfl) (fun f fd F => ok__law_reserved T F)
  have D__law_is_name : Kept P w K mg base 2 "_law_is_name" ["text"] spName := kept_of (st := s__law_is_name) X G (c.1.def_ 5 (d := dd__law_is_name) rfl) (c.1.fact 5 (f := .glo "_law_is_name") rfl) (fun _ _ _ _ _ _ us hl => match us, hl with | [_], _ => rfl) (fun f fd F => ok__law_is_name T D__law_reserved F)
  have D__law_signs : Kept P w K mg base 1 "_law_signs" [] spSigns := kept_of (st := s__law_signs) X G (c.1.def_ 6 (d := dd__law_signs) rfl) (c.1.fact 6 (f := .glo "_law_signs") rfl) (fun _ _ _ _ _ _ us hl => match us, hl with | [], _ => rfl) (fun f fd F => ok__law_signs T F)
  have D__law_raw : Kept P w K mg base 3 "_law_raw" ["d", "size"] spRaw := kept_of (st := s__law_raw) X G (c.1.def_ 7 (d := dd__law_raw) rfl) (c.1.fact 7 (f := .glo "_law_raw") rfl) (fun _ _ _ _ _ _ us hl => match us, hl with | [_, _], _ => rfl) (fun f fd F => ok__law_raw T D__law_pick D__law_signs F)
  have D__law_plain_word : Kept P w K mg base 3 "_law_plain_word" ["d", "size"] spPlain := kept_of (st := s__law_plain_word) X G (c.1.def_ 8 (d := dd__law_plain_word) rfl) (c.1.fact 8 (f := .glo "_law_plain_word") rfl) (fun _ _ _ _ _ _ us hl => match us, hl with | [_, _], _ => rfl) (fun f fd F => ok__law_plain_word T D__law_pick F)
  have D__law_bent : Kept P w K mg base 4 "_law_bent" ["d", "text"] spBent := kept_of (st := s__law_bent) X G (c.1.def_ 9 (d := dd__law_bent) rfl) (c.1.fact 9 (f := .glo "_law_bent") rfl) (fun _ _ _ _ _ _ us hl => match us, hl with | [_, _], _ => rfl) (fun f fd F => ok__law_bent T D__law_draw D__law_raw F)
  have D__law_strings : Kept P w K mg base 5 "_law_strings" ["d"] spStrings := kept_of (st := s__law_strings) X G (c.1.def_ 10 (d := dd__law_strings) rfl) (c.1.fact 10 (f := .glo "_law_strings") rfl) (fun _ _ _ _ _ _ us hl => match us, hl with | [_], _ => rfl) (fun f fd F => ok__law_strings T D__law_draw D__law_pick D__law_reserved D__law_raw D__law_plain_word D__law_bent F)
  exact ok_law T D_is_name D__law_begin D__law_is_name D__law_strings F
end Mt
open PySem PySem.W PySem.Calls PyProof.Rows
set_option maxHeartbeats 0 in
theorem PySem.Challenge.cw_meantrace_k05_names_holds : PySem.Challenge.rw_meantrace_k05_names.Holds := by
  w_on; o_law
  refine HandSHeadRun.head_any (r := OpenLaw.row PySem.Challenge.rw_meantrace_k05_names) (q := view (OpenLaw.row PySem.Challenge.rw_meantrace_k05_names).prog [16]) (H := Mt.hk) (ob := Mt.ob) (M := 3000) (loose := Mt.names) (d := HandSHeadRun.topDef (OpenLaw.row PySem.Challenge.rw_meantrace_k05_names).prog 16) (kwd := []) Mt.ob_eq
    (by kernel_rfl) (fun s => by kernel_rfl) Mt.run (by kernel_rfl) (by kernel_rfl) (by kernel_rfl) (by rfl) (by first | assumption | decide +kernel) (by decide +kernel) ⟨rfl, rfl, rfl, rfl, rfl, by decide +kernel⟩ ?hw ?hc
  case hw => w_witness2
  case hc =>
    refine L2.walk_ofE (l := PySem.Challenge.rw_meantrace_k05_names) (n := 63) (k := 6) (x := "script") (CX := L2.CX0) rfl (by decide) (by kernel_rfl) ⟨rfl, by decide, by decide⟩ ?F (fun _ _ _ _ z => z)
    intro w mg fa h Y G hmg0
    obtain ⟨K, KX, c⟩ := Y
    have hmg : mg ("law" : PySem.Str) = some (.ref fa) := by
      have e : (HandSHeadRun.topDef (OpenLaw.row PySem.Challenge.rw_meantrace_k05_names).prog 16).name = ("law" : PySem.Str) := by kernel_rfl
      rw [← e]
      exact hmg0
    obtain ⟨fd, hb, hF⟩ := Mt.facts (P := (PySem.Challenge.rw_meantrace_k05_names).prog) (w := w) KX G hmg c
    exact ⟨K, fd, Mt.spLaw K, KX, hb, fun H a ns hl hO hS => ⟨a, ns, rfl, hS, hl, fun _ => rfl⟩, hF⟩
