import PyProof.Rows.All
import Wide.All
import OpenK.AllK
import Wide.FinOn
import KE.KStateDown
import HandS.ForMost
import HandS.Wide
import HandS.IsInst
import HandS.Walk
import HandS.Style
import HandS.Evl
import HandS.StrMore
import HandS.Exc
import HandS.WordsExc
import HandS.Defaults
import HandS.Head0
import HandS.Head1
import HandS.Head2
import HandS.HeadEnd
import HandS.HeadHook1
import HandS.HeadHook2
import HandS.Gcd
import HandS.Head3
import PySem.Challenge.RW_meantrace_k04_tokens
set_option Elab.async false
set_option linter.all false
set_option maxRecDepth 100000
/-! Our own words over the hand layer: defs of the top by name, the draws' state, heaps that go on. -/
namespace Mt
open PySem PySem.Spec PyProof.Rows L2
section
variable {P : Program} {w : World} {K : PySem.W.Frag} {mg : Str → Option Value} {base : Heap}
abbrev FnP (K : PySem.W.Frag) (x : Str) (st : Stmt) (f : Addr) (fd : FuncData) : Prop := FunD K x x (defArgs st) (defBody st) (defScope st) [] [] f fd
/-- a def that keeps its promise -/
def Kept (P : Program) (w : World) (K : PySem.W.Frag) (mg : Str → Option Value) (base : Heap) (k : Nat) (x : Str) (ps : List Str) (sp : Sp) : Prop :=
  ∃ f fd, FnOk P w K mg base CX0 k f fd ps sp ∧ mg x = some (.ref f) ∧ PySem.W.keepIn K (.ref f) = true ∧ Binds K fd ps []
/-- what the head tells: facts by names, defs, one more word of one's own -/
abbrev AlM : Type := He.AlD × Bool
def obsM (n : Nat) (fa : List He.Fa) (fn : List He.DefD) (ex : PySem.W.Frag → Bool) (g : Addr → Option Obj) : AlM := (He.obsDG n fa fn g, ex (He.frG g (He.asD g n)))
def SaysM (fa : List He.Fa) (fn : List He.DefD) (ex : PySem.W.Frag → Bool) (K : PySem.W.Frag) : Prop := He.SaysD fa fn K ∧ ex K = true
def hookM (n : Nat) (fa : List He.Fa) (fn : List He.DefD) (ex : PySem.W.Frag → Bool) : PySem.W.Hook where
  α := AlM
  obs := fun s => obsM n fa fn ex s.heap.get?
  val := fun _ => (He.valD fn, true)
  says := fun _ h => ∃ K : PySem.W.Frag, K.In h ∧ SaysM fa fn ex K
  of := fun _ _ e => ⟨_, He.frG_in, congrArg (fun z : AlM => z.1) e, congrArg (fun z : AlM => z.2) e⟩
  keeps := fun _ _ _ ⟨K, hK, c⟩ k => ⟨K, PySem.W.Frag.In.keeps hK k, c⟩
theorem obsM_eq {n : Nat} {fa : List He.Fa} {fn : List He.DefD} {ex : PySem.W.Frag → Bool} {g : Addr → Option Obj} {s : Shared} (h : ∀ a, g a = s.heap.get? a) : obsM n fa fn ex g = (hookM n fa fn ex).obs s := by
  have e : g = s.heap.get? := funext h
  rw [e] <;> rfl
theorem kept_of {h : Heap} (X : K.In h) (G : h.Ns mainGlobals mg) {x : Str} {ps : List Str} {st : Stmt} {k : Nat} {sp : Sp}
    (hd : ∃ fd, FnP K x st (He.ga K x) fd) (hg : (He.Fa.glo x).ok K = true)
    (hb : ∀ (kV doc pm : Value) (an : Option Addr) (cdv ct : Value) (us : List Value), us.length = ps.length → bindArgs (PySem.W.fnOf x x (defArgs st) (defBody st) (defScope st) .none kV doc pm an cdv ct) ⟨us, []⟩ = pure (ps.zip us))
    (ok : ∀ f fd, FnP K x st f fd → FnOk P w K mg base CX0 k f fd ps sp) : Kept P w K mg base k x ps sp := by
  obtain ⟨fd, F⟩ := hd
  exact ⟨_, fd, ok _ fd F, He.glo_ok X G hg, F.kp, F.bindsN hb⟩
end
section
variable {X : Cx}
theorem pe_d {k : Nat} {x : Str} {ps : List Str} {sp : Sp} {e : Expr} {es : List Expr} {t : TA} {p pos : Pos} (D : Kept X.prog X.w X.K X.mg X.base k x ps sp) (hr : Room k X.A) (hg : Gl X x) (ha : PA X (e :: es) t)
    (hdb : (x == ("__debug__" : Str)) = false := by decide) (he : starEach (e :: es) X.env = (false, eval e X.env) :: starEach es X.env := by rfl) (hpl : (backTo pos (starEach es X.env)).any (·.1) = false := by rfl) :
    PE X (.Call (.Name x p) (e :: es) [] pos) (tCall sp [] E0 t) := by
  obtain ⟨f, fd, F, g, kp, b⟩ := D
  exact pe_call F hr hg g kp b .nil pass0 ha hdb he hpl
theorem pe_d0 {k : Nat} {x : Str} {ps : List Str} {sp : Sp} {p pos : Pos} (D : Kept X.prog X.w X.K X.mg X.base k x ps sp) (hr : Room k X.A) (hg : Gl X x) (hdb : (x == ("__debug__" : Str)) = false := by decide) :
    PE X (.Call (.Name x p) [] [] pos) (tCall sp [] E0 tNil) := by
  obtain ⟨f, fd, F, g, kp, b⟩ := D
  exact pe_call0 F hr hg g kp b .nil pass0 hdb
/-- a text of the module; an object of the module -/
theorem pe_gs {x z : Str} {pos : Pos} (h : ∃ t, X.mg x = some (.str z t)) (hg : Gl X x) (hd : (x == ("__debug__" : Str)) = false := by decide) : PE X (.Name x pos) (tC (.str z)) := by
  obtain ⟨t, h⟩ := h
  exact pe_glob hg h ⟨_, rfl⟩ hd
/-- xs[i] op= e reads xs[i] -/
theorem get_list : PGet X (rIxL X.K) := by
  intro pins s σ H o i ov iv Q I ro ri h
  obtain ⟨p, xs, i, z, rfl, rfl, hq, he, q⟩ := h
  cases ro
  obtain ⟨t, rfl⟩ := ri
  obtain ⟨its, r, pl, hz⟩ := I.list hq
  obtain ⟨j, h1, h2, h3, h4, h5⟩ := atI_get he
  obtain ⟨w, ew, rw'⟩ := r.get h2
  have hl := r.length
  have hn := line63
  have fin : EP X pins σ Q w s := ⟨z, H, I, rw', q⟩
  by_cases h0 : 0 ≤ i
  · have hj : i.toNat = j := by
      rw [seqIndex_of h0 h5] at h1
      exact Option.some.inj h1
    exact wpAny_mono (wpAny_getItem_list (Q := fun r s' => r = w ∧ EP X pins σ Q r s') pl.isList h0 (by omega) (by rw [hj]; simpa using ew) ⟨rfl, fin⟩) (fun _ _ q => q.2) (fun _ _ q => q)
  · have hj : (i + (its.toArray.size : Int)).toNat = j := by
      rw [seqIndex_neg (by omega) h4] at h1
      rw [List.size_toArray, ← hl]
      exact Option.some.inj h1
    exact wpAny_mono (wpAny_getItem_list_neg (Q := fun r s' => r = w ∧ EP X pins σ Q r s') pl.isList (by omega) (by rw [List.size_toArray] <;> omega) (by omega) (by rw [hj]; simpa using ew) ⟨rfl, fin⟩) (fun _ _ q => q.2) (fun _ _ q => q)
end

/-! ### the draws: [cells, place, rest, seed] at D -/
structure DrawAt (S D : Addr) (H : Hp) : Prop where
  ne : S ≠ D
  cells : ∃ cs : List Int, H S = some (.lst (cs.map V.int))
  at_ : ∃ i r c : Int, 0 ≤ i ∧ H D = some (.lst [.ref S, .int i, .int r, .int c])
/-- all else that is tracked stays -/
def Keep (D : Addr) (H H' : Hp) : Prop := ∀ b o, H b = some o → b ≠ D → H' b = some o
def Go (S D : Addr) (H H' : Hp) : Prop := DrawAt S D H' ∧ Keep D H H'
theorem Keep.refl {D : Addr} {H : Hp} : Keep D H H := fun _ _ h _ => h
theorem Keep.trans {D : Addr} {H H1 H2 : Hp} (a : Keep D H H1) (b : Keep D H1 H2) : Keep D H H2 := fun x o h n => b x o (a x o h n) n
theorem Go.trans {S D : Addr} {H H1 H2 : Hp} (a : Go S D H H1) (b : Go S D H1 H2) : Go S D H H2 := ⟨b.1, a.2.trans b.2⟩
theorem Keep.set {D : Addr} {H H' : Hp} {o : HO} (k : Keep D H H') : Keep D H (upd H' D o) := fun b u h n => by
  rw [upd_ne n]
  exact k b u h n
theorem DrawAt.set {S D : Addr} {H : Hp} (d : DrawAt S D H) {i r c : Int} (h : 0 ≤ i) : DrawAt S D (upd H D (.lst [.ref S, .int i, .int r, .int c])) :=
  ⟨d.ne, d.cells.imp fun cs h => by rw [upd_ne d.ne]; exact h, ⟨i, r, c, h, upd_same⟩⟩
theorem DrawAt.new {S D p : Addr} {H : Hp} {o : HO} (d : DrawAt S D H) (h : H p = none) : DrawAt S D (upd H p o) := by
  obtain ⟨cs, h1⟩ := d.cells
  obtain ⟨i, r, c, h0, h2⟩ := d.at_
  exact ⟨d.ne, ⟨cs, by rw [upd_ne (ne_of_none h1 h)]; exact h1⟩, ⟨i, r, c, h0, by rw [upd_ne (ne_of_none h2 h)]; exact h2⟩⟩
theorem Keep.new {D p : Addr} {H : Hp} {o : HO} (h : H p = none) : Keep D H (upd H p o) := fun b u e _ => by
  rw [upd_ne (ne_of_none e h)]
  exact e
theorem Go.new {S D p : Addr} {H : Hp} {o : HO} (d : DrawAt S D H) (h : H p = none) : Go S D H (upd H p o) := ⟨d.new h, Keep.new h⟩
theorem Go.same {S D : Addr} {H H' : Hp} (d : DrawAt S D H) (h : Same H H') : Go S D H H' := by
  obtain ⟨cs, h1⟩ := d.cells
  obtain ⟨i, r, c, h0, h2⟩ := d.at_
  exact ⟨⟨d.ne, ⟨cs, h _ _ h1⟩, ⟨i, r, c, h0, h _ _ h2⟩⟩, fun b o e _ => h b o e⟩
theorem Go.refl {S D : Addr} {H : Hp} (d : DrawAt S D H) : Go S D H H := ⟨d, Keep.refl⟩
/-- a fresh place stays fresh when looked at from behind -/
theorem DrawAt.free {S D p : Addr} {H : Hp} (d : DrawAt S D H) (h : H p = none) : p ≠ D ∧ p ≠ S := by
  obtain ⟨cs, h1⟩ := d.cells
  obtain ⟨i, r, c, h0, h2⟩ := d.at_
  exact ⟨(ne_of_none h2 h).symm, (ne_of_none h1 h).symm⟩
theorem Go.free {S D p : Addr} {H H' : Hp} (g : Go S D H H') (d : DrawAt S D H) (h : H' p = none) : H p = none := by
  cases q : H p with
  | none => rfl
  | some o =>
    by_cases e : p = D
    · exact absurd e (g.1.free h).1
    · rw [g.2 p o q e] at h
      cases h
def spDraw : Sp := fun vs H Q _ => ∃ (S D : Addr) (many : Int), vs = [.ref D, .int many] ∧ CDivW 0 many ∧ DrawAt S D H ∧ ∀ H' v, 0 ≤ v → v < many → Go S D H H' → Q (.int v) H'
end Mt
namespace Mt
open PySem PySem.Spec PyProof.Rows L2
def topS (i : Nat) : Stmt := PySem.Challenge.pw_meantrace_k04_tokens.main.body.getD i (.Pass ⟨0, 0, 0, 0⟩)
abbrev s_tokens_of : Stmt := topS 4
abbrev N_tokens_of : List Str := ["text", "tokens", "at", "end"]
theorem sc_tokens_of : FnScope N_tokens_of ["text"] (defScope s_tokens_of) := ⟨rfl, rfl, rfl, by decide +kernel, rfl, by decide +kernel, by decide +kernel⟩
abbrev s_end_of_token : Stmt := topS 5
abbrev N_end_of_token : List Str := ["text", "at", "end"]
theorem sc_end_of_token : FnScope N_end_of_token ["text", "at"] (defScope s_end_of_token) := ⟨rfl, rfl, rfl, by decide +kernel, rfl, by decide +kernel, by decide +kernel⟩
abbrev s_is_of_run : Stmt := topS 6
abbrev N_is_of_run : List Str := ["sign"]
theorem sc_is_of_run : FnScope N_is_of_run ["sign"] (defScope s_is_of_run) := ⟨rfl, rfl, rfl, by decide +kernel, rfl, by decide +kernel, by decide +kernel⟩
abbrev s__law_begin : Stmt := topS 8
abbrev N__law_begin : List Str := ["script", "cell"]
theorem sc__law_begin : FnScope N__law_begin ["script"] (defScope s__law_begin) := ⟨rfl, rfl, rfl, by decide +kernel, rfl, by decide +kernel, by decide +kernel⟩
abbrev s__law_draw : Stmt := topS 9
abbrev N__law_draw : List Str := ["d", "many", "found", "size", "cell"]
theorem sc__law_draw : FnScope N__law_draw ["d", "many"] (defScope s__law_draw) := ⟨rfl, rfl, rfl, by decide +kernel, rfl, by decide +kernel, by decide +kernel⟩
abbrev s__law_pick : Stmt := topS 10
abbrev N__law_pick : List Str := ["d", "row"]
theorem sc__law_pick : FnScope N__law_pick ["d", "row"] (defScope s__law_pick) := ⟨rfl, rfl, rfl, by decide +kernel, rfl, by decide +kernel, by decide +kernel⟩
abbrev s__law_rare : Stmt := topS 11
abbrev N__law_rare : List Str := ["d", "many"]
theorem sc__law_rare : FnScope N__law_rare ["d", "many"] (defScope s__law_rare) := ⟨rfl, rfl, rfl, by decide +kernel, rfl, by decide +kernel, by decide +kernel⟩
abbrev s__law_small : Stmt := topS 12
abbrev N__law_small : List Str := ["d", "most"]
theorem sc__law_small : FnScope N__law_small ["d", "most"] (defScope s__law_small) := ⟨rfl, rfl, rfl, by decide +kernel, rfl, by decide +kernel, by decide +kernel⟩
abbrev s__law_is_run : Stmt := topS 13
abbrev N__law_is_run : List Str := ["token"]
theorem sc__law_is_run : FnScope N__law_is_run ["token"] (defScope s__law_is_run) := ⟨rfl, rfl, rfl, by decide +kernel, rfl, by decide +kernel, by decide +kernel⟩
abbrev s__law_signs : Stmt := topS 14
abbrev N__law_signs : List Str := ["text"]
theorem sc__law_signs : FnScope N__law_signs [] (defScope s__law_signs) := ⟨rfl, rfl, rfl, by decide +kernel, rfl, by decide +kernel, by decide +kernel⟩
abbrev s__law_raw : Stmt := topS 15
abbrev N__law_raw : List Str := ["d", "size", "text", "signs", "k"]
theorem sc__law_raw : FnScope N__law_raw ["d", "size"] (defScope s__law_raw) := ⟨rfl, rfl, rfl, by decide +kernel, rfl, by decide +kernel, by decide +kernel⟩
abbrev s__law_piece : Stmt := topS 16
abbrev N__law_piece : List Str := ["d", "way", "menu", "signs", "text", "k"]
theorem sc__law_piece : FnScope N__law_piece ["d"] (defScope s__law_piece) := ⟨rfl, rfl, rfl, by decide +kernel, rfl, by decide +kernel, by decide +kernel⟩
abbrev s__law_passage : Stmt := topS 17
abbrev N__law_passage : List Str := ["d", "size", "text", "k", "parts"]
theorem sc__law_passage : FnScope N__law_passage ["d"] (defScope s__law_passage) := ⟨rfl, rfl, rfl, by decide +kernel, rfl, by decide +kernel, by decide +kernel⟩
abbrev s__law_tokens_of : Stmt := topS 18
abbrev N__law_tokens_of : List Str := ["text", "found", "at", "end"]
theorem sc__law_tokens_of : FnScope N__law_tokens_of ["text"] (defScope s__law_tokens_of) := ⟨rfl, rfl, rfl, by decide +kernel, rfl, by decide +kernel, by decide +kernel⟩
abbrev s__law_right : Stmt := topS 19
abbrev N__law_right : List Str := ["told", "due", "k"]
theorem sc__law_right : FnScope N__law_right ["told", "due"] (defScope s__law_right) := ⟨rfl, rfl, rfl, by decide +kernel, rfl, by decide +kernel, by decide +kernel⟩
abbrev s_law : Stmt := topS 20
abbrev N_law : List Str := ["script", "d", "first", "second", "whole", "due"]
theorem sc_law : FnScope N_law ["script"] (defScope s_law) := ⟨rfl, rfl, rfl, by decide +kernel, rfl, by decide +kernel, by decide +kernel⟩
abbrev LETz : Str := "abcdefghijklmnopqrstuvwxyz"
abbrev DIGz : Str := "0123456789"
abbrev CAPz : Str := "ABCDEFGHIJKLMNOPQRSTUVWXYZ"
abbrev ALLz : Str := "abcdefghijklmnopqrstuvwxyzABCDEFGHIJKLMNOPQRSTUVWXYZ0123456789"
abbrev SIGNS : Str := " !\"#$&'()*+,-./0123456789:;<=>?@ABCDEFGHIJKLMNOPQRSTUVWXYZ[\\]^_`" ++ "abcdefghijklmnopqrstuvwxyz{|}~\n"
structure Txt (K : PySem.W.Frag) (mg : Str → Option Value) : Prop where
  b_int : mg "int" = none
  b_len : mg "len" = none
  b_abs : mg "abs" = none
  b_isinstance : mg "isinstance" = none
  b_range : mg "range" = none
  b_tuple : mg "tuple" = none
  b_str : mg "str" = none
  b_min : mg "min" = none
  b_max : mg "max" = none
  g_LETTERS : ∃ t, mg "LETTERS" = some (.str LETz t)
  g_DIGITS : ∃ t, mg "DIGITS" = some (.str DIGz t)
  g_CAPITALS : ∃ t, mg "CAPITALS" = some (.str CAPz t)
theorem upd_upd {H : Hp} {p : Addr} {a b : HO} : upd (upd H p a) p b = upd H p b := by
  funext x
  unfold upd
  split <;> rfl
theorem take_map_succ {α β : Type} {f : α → β} {l : List α} {i : Nat} {c : α} (h : l[i]? = some c) : (l.take i).map f ++ [f c] = (l.take (i + 1)).map f := by
  rw [List.take_add_one, h, List.map_append]
  rfl
theorem divW_of {n : Int} (h : 0 < n) (h2 : n < 2 ^ 64) : CDivW 0 n := wide_div h (b := 64) (by omega) (by decide) (by decide)
theorem getV {ns : List Int} {i : Nat} {x : V} (h : (ns.map V.int)[i]? = some x) : ∃ z, x = .int z ∧ ns[i]? = some z := by
  rw [List.getElem?_map] at h
  cases e : ns[i]? with
  | none =>
    rw [e] at h
    cases h
  | some z =>
    rw [e] at h
    exact ⟨z, (Option.some.inj h).symm, rfl⟩
def spBegin (K : PySem.W.Frag) : Sp := fun vs H Q _ => ∃ (a : Addr) (ns : List Int), vs = [.ref a] ∧ SqL K H a (ns.map V.int) ∧ ns.length ≤ 63 ∧ ∀ S D H', Same H H' → H D = none → DrawAt S D H' → Q (.ref D) H'
/-- a text or a list, what it holds -/
def Row (K : PySem.W.Frag) (H : Hp) (v : V) (xs : List V) : Prop := (∃ z : Str, v = .str z ∧ xs = z.cps.toList.map fun c => .str ⟨#[c]⟩) ∨ ∃ p, v = .ref p ∧ SqL K H p xs
def spPick (K : PySem.W.Frag) : Sp := fun vs H Q _ => ∃ (S D : Addr) (r : V) (xs : List V), vs = [.ref D, r] ∧ DrawAt S D H ∧ (∀ H', Go S D H H' → Row K H' r xs) ∧ 0 < xs.length ∧ xs.length ≤ 100000 ∧ ∀ H' x, x ∈ xs → Go S D H H' → Q x H'

theorem row_str {K : PySem.W.Frag} {H : Hp} (z : Str) : Row K H (.str z) (z.cps.toList.map fun c => .str ⟨#[c]⟩) := .inl ⟨z, rfl, rfl⟩
theorem sign_of {z : Str} {x : V} (h : x ∈ z.cps.toList.map fun c => V.str ⟨#[c]⟩) : ∃ c, x = .str ⟨#[c]⟩ := by
  obtain ⟨c, _, rfl⟩ := List.mem_map.mp h
  exact ⟨c, rfl⟩
theorem len_one (c : Nat) : (⟨#[c]⟩ : Str).length = 1 := rfl
theorem len_cps (z : Str) : z.cps.toList.length = z.length := by simp [Str.length]
/-! ### tokens -/
def isRun (c : Nat) : Bool := decide (c ∈ LETz.cps.toList) || (decide (c ∈ CAPz.cps.toList) || decide (c ∈ DIGz.cps.toList))
theorem isRun_eq (c : Nat) : decide (c ∈ ALLz.cps.toList) = isRun c := by
  have e : ALLz.cps.toList = LETz.cps.toList ++ (CAPz.cps.toList ++ DIGz.cps.toList) := by decide +kernel
  unfold isRun
  rw [e, ← Bool.decide_or, ← Bool.decide_or]
  exact decide_eq_decide.mpr (by rw [List.mem_append, List.mem_append])
def isGap (c : Nat) : Bool := decide (c ∈ (" \n" : Str).cps.toList)
theorem gap_no {c : Nat} (h : isRun c = true) : isGap c = false := by
  have key : (LETz.cps.toList ++ (CAPz.cps.toList ++ DIGz.cps.toList)).all (fun c => !isGap c) = true := by decide +kernel
  have hm : c ∈ LETz.cps.toList ++ (CAPz.cps.toList ++ DIGz.cps.toList) := by
    unfold isRun at h
    rw [← Bool.decide_or, ← Bool.decide_or] at h
    have h2 := of_decide_eq_true h
    rw [List.mem_append, List.mem_append]
    exact h2
  have := List.all_eq_true.mp key c hm
  simpa using this
/-- how long the run at the beginning is -/
def tw (l : List Nat) : Nat := (l.takeWhile isRun).length
theorem tw_le : ∀ l : List Nat, tw l ≤ l.length
  | [] => Nat.le_refl _
  | c :: r => by
    unfold tw
    rw [List.takeWhile_cons]
    have := tw_le r
    unfold tw at this
    split
    · rw [List.length_cons, List.length_cons]
      omega
    · exact Nat.zero_le _
theorem tw_lt : ∀ (l : List Nat) (j : Nat) (c : Nat), j ≤ tw l → l[j]? = some c → (j < tw l ↔ isRun c = true)
  | [], j, c, _, h => by simp at h
  | a :: r, 0, c, hj, h => by
    have e : a = c := Option.some.inj h
    subst e
    unfold tw
    rw [List.takeWhile_cons]
    cases isRun a with
    | true => simp
    | false => simp
  | a :: r, j + 1, c, hj, h => by
    have h2 : r[j]? = some c := h
    unfold tw at hj ⊢
    rw [List.takeWhile_cons] at hj ⊢
    cases e : isRun a with
    | true =>
      rw [e, if_pos rfl, List.length_cons] at hj
      rw [if_pos rfl, List.length_cons]
      have := tw_lt r j c (by unfold tw; omega) h2
      unfold tw at this
      rw [← this]
      omega
    | false =>
      rw [e] at hj
      simp at hj
theorem tw_end (l : List Nat) (j : Nat) (hj : j ≤ tw l) (h : l[j]? = none) : j = tw l := by
  have h1 := List.getElem?_eq_none_iff.mp h
  have := tw_le l
  omega
def tk : Nat → List Nat → List Str
  | 0, _ => []
  | _ + 1, [] => []
  | f + 1, c :: r => (if isGap c = true then [] else [⟨((c :: r).take (max (tw (c :: r)) 1)).toArray⟩]) ++ tk f ((c :: r).drop (max (tw (c :: r)) 1))
theorem tk_fuel : ∀ (f g : Nat) (l : List Nat), l.length ≤ f → l.length ≤ g → tk f l = tk g l
  | 0, 0, _, _, _ => rfl
  | 0, g + 1, [], _, _ => rfl
  | 0, _ + 1, _ :: _, h, _ => by simp at h
  | f + 1, 0, [], _, _ => rfl
  | _ + 1, 0, _ :: _, _, h => by simp at h
  | f + 1, g + 1, [], _, _ => rfl
  | f + 1, g + 1, c :: r, h1, h2 => by
    show (if isGap c = true then [] else [_]) ++ tk f _ = (if isGap c = true then [] else [_]) ++ tk g _
    rw [List.length_cons] at h1 h2
    have hd : ((c :: r).drop (max (tw (c :: r)) 1)).length ≤ r.length := by
      rw [List.length_drop, List.length_cons]
      omega
    rw [tk_fuel f g _ (by omega) (by omega)]
theorem tk_len : ∀ (f : Nat) (l : List Nat), (tk f l).length ≤ f
  | 0, _ => Nat.le_refl _
  | f + 1, [] => Nat.zero_le _
  | f + 1, c :: r => by
    show ((if isGap c = true then [] else [_]) ++ tk f _).length ≤ f + 1
    have := tk_len f ((c :: r).drop (max (tw (c :: r)) 1))
    rw [List.length_append]
    split
    · rw [List.length_nil]
      omega
    · rw [List.length_singleton]
      omega
/-- all tokens -/
def toks (z : Str) : List Str := tk z.length z.cps.toList
/-- those behind the place a -/
def rest (z : Str) (a : Nat) : List Str := tk (z.length - a) (z.cps.toList.drop a)
theorem rest_end (z : Str) {a : Nat} (h : z.length ≤ a) : rest z a = [] := by
  unfold rest
  rw [Nat.sub_eq_zero_of_le h]
  rfl
theorem rest_step (z : Str) {a : Nat} {c : Nat} (hc : z.cps.toList[a]? = some c) :
    rest z a = (if isGap c = true then [] else [⟨((z.cps.toList.drop a).take (max (tw (z.cps.toList.drop a)) 1)).toArray⟩]) ++ rest z (a + max (tw (z.cps.toList.drop a)) 1) := by
  have ha : a < z.cps.toList.length := (List.getElem?_eq_some_iff.mp hc).1
  have hz := len_cps z
  have ed : z.cps.toList.drop a = c :: z.cps.toList.drop (a + 1) := by
    rw [List.drop_eq_getElem_cons ha]
    rw [(List.getElem?_eq_some_iff.mp hc).2]
  obtain ⟨f, hf⟩ : ∃ f, z.length - a = f + 1 := ⟨z.length - a - 1, by omega⟩
  have hm : 1 ≤ max (tw (z.cps.toList.drop a)) 1 := Nat.le_max_right _ _
  generalize hM : max (tw (z.cps.toList.drop a)) 1 = M at hm
  unfold rest
  rw [hf, ed]
  show (if isGap c = true then [] else [_]) ++ tk f ((c :: z.cps.toList.drop (a + 1)).drop (max (tw (c :: z.cps.toList.drop (a + 1))) 1)) = _
  rw [← ed, hM, List.drop_drop]
  rw [tk_fuel f (z.length - (a + M)) _ (by rw [List.length_drop]; omega) (by rw [List.length_drop]; omega)]
theorem eq_sign (c k : Nat) (y : Str) (hy : y = ⟨#[k]⟩) : (!decide (V.str ⟨#[c]⟩ = V.str y)) = !decide (c = k) := by
  subst hy
  congr 1
  refine decide_eq_decide.mpr ⟨fun h => ?_, fun h => by rw [h]⟩
  injection h with h
  injection h with h
  simpa using h
theorem eq_blank (c : Nat) : (!decide (V.str ⟨#[c]⟩ = V.str " ")) = !decide (c = 32) := eq_sign c 32 _ (by decide +kernel)
theorem eq_feed (c : Nat) : (!decide (V.str ⟨#[c]⟩ = V.str "\n")) = !decide (c = 10) := eq_sign c 10 _ (by decide +kernel)
theorem gap_not {c : Nat} (h1 : c ≠ 32) (h2 : c ≠ 10) : isGap c = false := by
  unfold isGap
  have e : (" \n" : Str).cps.toList = [32, 10] := by decide +kernel
  rw [e]
  refine decide_eq_false fun h => ?_
  simp only [List.mem_cons, List.not_mem_nil, or_false] at h
  omega
theorem iteNT {A B : Prop} (h : B) : if (!true) = true then A else B := iteF h
theorem short_of {n : Nat} {ss : List Str} {x : V} (h : ss.all (fun z => decide (z.length ≤ n)) = true) (hx : x ∈ ss.map V.str) : ∃ z, x = .str z ∧ z.length ≤ n := by
  obtain ⟨z, hz, rfl⟩ := List.mem_map.mp hx
  exact ⟨z, rfl, of_decide_eq_true (List.all_eq_true.mp h z hz)⟩
theorem sized_of {ss : List Str} {x : V} (h : ss.all (fun z => decide (0 < z.cps.size ∧ z.cps.size ≤ 100000)) = true) (hx : x ∈ ss.map V.str) :
    ∃ z, x = .str z ∧ 0 < (z.cps.toList.map fun c => V.str ⟨#[c]⟩).length ∧ (z.cps.toList.map fun c => V.str ⟨#[c]⟩).length ≤ 100000 := by
  obtain ⟨z, hz, rfl⟩ := List.mem_map.mp hx
  have := of_decide_eq_true (List.all_eq_true.mp h z hz)
  exact ⟨z, rfl, by simpa using this⟩
theorem sum_take : ∀ (l : List Nat) (k : Nat), (l.take k).sum ≤ l.sum
  | _, 0 => Nat.zero_le _
  | [], _ + 1 => Nat.le_refl _
  | x :: r, k + 1 => by
    rw [List.take_succ_cons, List.sum_cons, List.sum_cons]
    have := sum_take r k
    omega
theorem sum_drop : ∀ (l : List Nat) (k : Nat), (l.drop k).sum ≤ l.sum
  | _, 0 => Nat.le_refl _
  | [], _ + 1 => Nat.le_refl _
  | x :: r, k + 1 => by
    rw [List.drop_succ_cons, List.sum_cons]
    have := sum_drop r k
    omega
theorem cut_11 (xs : List V) : cutV xs none (some 11) = xs.take 11 := by
  unfold cutV
  rw [show HT.sIx xs.length xs.length (some 11) = min 11 xs.length from HT.sIx_nat xs.length xs.length 11, HT.sIx_none]
  show List.take (min 11 xs.length - 0) (xs.drop 0) = _
  rw [List.drop_zero, Nat.sub_zero, ← List.take_eq_take_min]
theorem cut_from (xs : List V) : cutV xs (some 11) none = xs.drop 11 := by
  unfold cutV
  rw [show HT.sIx xs.length 0 (some 11) = min 11 xs.length from HT.sIx_nat xs.length 0 11, HT.sIx_none]
  by_cases h : 11 ≤ xs.length
  · rw [Nat.min_eq_left h]
    exact List.take_of_length_le (by rw [List.length_drop]; exact Nat.le_refl _)
  · rw [Nat.min_eq_right (by omega), List.drop_length, List.drop_eq_nil_of_le (by omega)]
    exact List.take_nil
theorem join_len (y : Str) (xs : List Str) : (Txt.join y xs).length ≤ (xs.map (·.length)).sum + xs.length * y.length := by
  show (PySem.Builtin.Str.glued y xs).length ≤ _
  rw [StrLaws.glued_eq_join]
  exact StrLaws.join_length_le y xs
theorem spl_len (S : List Nat) (hS : S.length = 1) : ∀ (l acc : List Nat), ((TL.spl S 0 acc l).map List.length).sum + (TL.spl S 0 acc l).length ≤ acc.length + l.length + 1
  | [], acc => by
    rw [TL.spl_nil]
    simp
  | c :: r, acc => by
    cases h : TL.pre S (c :: r) with
    | true =>
      rw [TL.spl_hit h, hS]
      have := spl_len S hS r []
      rw [List.map_cons, List.sum_cons, List.length_cons, List.length_cons]
      rw [List.length_nil] at this
      show _ + ((TL.spl S 0 [] r).map List.length).sum + ((TL.spl S 0 [] r).length + 1) ≤ _
      omega
    | false =>
      rw [TL.spl_miss h]
      have := spl_len S hS r (acc ++ [c])
      rw [List.length_append, List.length_singleton] at this
      rw [List.length_cons]
      omega
theorem split_len (z : Str) : ((Txt.split z "{").map (·.length)).sum + (Txt.split z "{").length ≤ z.length + 1 := by
  have e := TL.split_spl z "{" (by decide +kernel) (TL.kind_ok (by decide +kernel))
  have h := spl_len (TL.tl "{") (by decide +kernel) (TL.tl z) []
  rw [← e] at h
  rw [List.map_map, List.length_map, List.length_nil] at h
  have e2 : (List.length ∘ TL.tl) = fun z : Str => z.length := by
    funext y
    exact (TL.len_tl y).symm
  rw [e2, ← TL.len_tl z] at h
  omega
/-! ### promises -/
def spRun : Sp := fun vs H Q _ => ∃ c : Nat, vs = [.str ⟨#[c]⟩] ∧ Q (.bl (isRun c)) H
def spEnd : Sp := fun vs H Q _ => ∃ (z : Str) (a : Nat), vs = [.str z, .int (a : Nat)] ∧ a < z.length ∧ z.length ≤ 100000 ∧ Q (.int ((a + max (tw (z.cps.toList.drop a)) 1 : Nat) : Int)) H
def spToks : Sp := fun vs H Q _ => ∃ z : Str, vs = [.str z] ∧ z.length ≤ 50000 ∧ ∀ (H' : Hp) (p : Addr), Same H H' → H' p = some (.tup ((toks z).map V.str)) → Q (.ref p) H'
def spToksL : Sp := fun vs H Q _ => ∃ z : Str, vs = [.str z] ∧ z.length ≤ 50000 ∧ ∀ (H' : Hp) (p : Addr), Same H H' → H' p = some (.lst ((toks z).map V.str)) → Q (.ref p) H'
def spRight : Sp := fun vs H Q _ => ∃ (p q : Addr) (ts : List Str), vs = [.ref p, .ref q] ∧ H p = some (.tup (ts.map V.str)) ∧ H q = some (.lst (ts.map V.str)) ∧ ts.length ≤ 50000 ∧ Q (.bl true) H
def spRare : Sp := fun vs H Q _ => ∃ (S D : Addr) (m : Int), vs = [.ref D, .int m] ∧ 0 < m ∧ m < 1000 ∧ DrawAt S D H ∧ ∀ H' b, Go S D H H' → Q (.bl b) H'
def spSmall : Sp := fun vs H Q _ => ∃ (S D : Addr) (m : Int), vs = [.ref D, .int m] ∧ 0 < m ∧ m < 1000 ∧ DrawAt S D H ∧ ∀ H' (v : Int), 1 ≤ v → v ≤ m → Go S D H H' → Q (.int v) H'
def spSigns : Sp := fun vs H Q _ => vs = [] ∧ Q (.str SIGNS) H
def spRaw : Sp := fun vs H Q _ => ∃ (S D : Addr) (n : Int), vs = [.ref D, .int n] ∧ 0 ≤ n ∧ n ≤ 500 ∧ DrawAt S D H ∧ ∀ H' z, z.length = n.toNat → Go S D H H' → Q (.str z) H'
def spPiece : Sp := fun vs H Q _ => ∃ (S D : Addr), vs = [.ref D] ∧ DrawAt S D H ∧ ∀ H' (z : Str), z.length ≤ 12 → Go S D H H' → Q (.str z) H'
def spPassage : Sp := fun vs H Q _ => ∃ (S D : Addr), vs = [.ref D] ∧ DrawAt S D H ∧ ∀ H' (z : Str), z.length ≤ 2000 → Go S D H H' → Q (.str z) H'
def spLaw (K : PySem.W.Frag) : Sp := fun vs H Q _ => ∃ (a : Addr) (ns : List Int), vs = [.ref a] ∧ SqL K H a (ns.map V.int) ∧ ns.length ≤ 63 ∧ ∀ H', Q (.bl true) H'
theorem same_new {H : Hp} {p : Addr} {o : HO} (h : H p = none) : Same H (upd H p o) := fun b x e => by
  rw [upd_ne (ne_of_none e h)]
  exact e
/-- a change at a place that H does not know -/
theorem same_mut {H H' : Hp} {p : Addr} {o : HO} (s : Same H H') (h : H p = none) : Same H (upd H' p o) := fun b u e => by
  rw [upd_ne (ne_of_none e h)]
  exact s b u e
theorem line5 {n : Nat} (h : n ≤ 100000) : n ≤ sizeLine := Nat.le_trans h (by decide)
section
variable {P : Program} {w : World} {K : PySem.W.Frag} {mg : Str → Option Value} {base : Heap}
theorem ok__law_draw (T : Txt K mg) {f : Addr} {fd : FuncData} (F : FnP K "_law_draw" s__law_draw f fd) : FnOk P w K mg base CX0 1 f fd ["d", "many"] spDraw := by
  refine F.ok sc__law_draw (fun vs H Q E h => ?_) (fun cdv A outer s H vs Q E hr h => ?_)
  · obtain ⟨S, D, m, rfl, _⟩ := h
    rfl
  · obtain ⟨S, D, m, rfl, hm, d, q⟩ := h
    obtain ⟨cs, hS⟩ := id d.cells
    obtain ⟨i, r, c, h0, hD⟩ := id d.at_
    have hm0 : 0 < m := hm.1
    refine ⟨_, PSs.nox (pss_cons (ps_if (pt_cmpR op_gt (pe_ix ix_list (pv 0) pe_int (fun _ _ => rfl)) pe_int (nomark _)) (pss_cons (ps_set (i := 2) sc__law_draw.nd rfl (Or.inl rfl) (pe_ix ix_list (pv 0) pe_int (fun _ _ => rfl)))
      (pss_cons (ps_asg (pe_op op_fdivW (pv 2) (pv 1)) (pg_sub (pv 0) pe_int set_list))
      (pss_one (ps_ret (pe_op op_mod (pe_callTy call_int1 (by rfl) T.b_int (by decide +kernel) (pa_cons (pv 2) pa_nil)) (pv 1)))))) pss_nil)
      (pss_cons (ps_set (i := 3) sc__law_draw.nd rfl (Or.inl rfl) pe_int)
      (Evl.pss_cut (ps_if (pt_cmpR op_lt (pe_ix ix_list (pv 0) pe_int (fun _ _ => rfl)) (pe_callB call_len (by rfl) T.b_len (by decide +kernel) (pa_cons (pe_ix ix_list (pv 0) pe_int (fun _ _ => rfl)) pa_nil)) (nomark _)) (pss_cons (ps_set (i := 4) sc__law_draw.nd rfl (Or.inl rfl) (pe_ix ix_list (pe_ix ix_list (pv 0) pe_int (fun _ _ => rfl)) (pe_ix ix_list (pv 0) pe_int (fun _ _ => rfl)) (fun _ _ => rfl)))
      (pss_one (ps_set (i := 3) sc__law_draw.nd rfl (Or.inl rfl) (pe_op op_add (pe_op op_mul pe_int (pe_callB call_abs (by rfl) T.b_abs (by decide +kernel) (pa_cons (pv 4) pa_nil))) (pe_callTy call_int1 (by rfl) T.b_int (by decide +kernel) (pa_cons (pe_cmpR op_lt (pv 4) pe_int (nomark _)) pa_nil)))))) pss_nil)
      (pss_cons (ps_augS (pv 0) pe_int get_list pe_int ip_add set_list)
      (pss_cons (ps_if (pt_cmpR op_ge (pv 3) (pe_op op_mul pe_int (pe_op op_pow pe_int pe_int)) (nomark _)) (pss_cons (ps_set (i := 2) sc__law_draw.nd rfl (Or.inl rfl) (pe_op op_mod (pe_callTy call_int1 (by rfl) T.b_int (by decide +kernel) (pa_cons (pe_op op_fdivW (pv 3) pe_int) pa_nil)) (pe_op op_shl pe_int pe_int)))
      (pss_cons (ps_asg (pe_op op_fdivW (pv 2) (pv 1)) (pg_sub (pv 0) pe_int set_list))
      (pss_one (ps_ret (pe_op op_mod (pe_callTy call_int1 (by rfl) T.b_int (by decide +kernel) (pa_cons (pv 2) pa_nil)) (pv 1)))))) pss_nil)
      (pss_cons (ps_asg (pe_op op_mod (pe_callTy call_int1 (by rfl) T.b_int (by decide +kernel) (pa_cons (pe_op op_add (pe_op op_add (pe_op op_add (pe_op op_mul (pe_ix ix_list (pv 0) pe_int (fun _ _ => rfl)) pe_int) (pe_op op_mul (pe_op op_mod (pe_callTy call_int1 (by rfl) T.b_int (by decide +kernel) (pa_cons (pv 3) pa_nil)) pe_int) pe_int)) (pe_op op_mul (pe_ix ix_list (pv 0) pe_int (fun _ _ => rfl)) pe_int)) pe_int) pa_nil)) pe_int) (pg_sub (pv 0) pe_int set_list))
      (pss_one (ps_ret (pe_op op_mod (pe_callTy call_int1 (by rfl) T.b_int (by decide +kernel) (pa_cons (pe_op op_fdivW (pe_ix ix_list (pv 0) pe_int (fun _ _ => rfl)) pe_int) pa_nil)) (pv 1)))))))))), ?_⟩
    refine ⟨_, rfl, D, _, _, _, rfl, rfl, SqL.of hD, atI_nat (j := 2) rfl, _, _, rfl, rfl, _, rfl, ?_⟩
    refine ite2 (fun e => ?_) (fun e => ?_)
    · refine ⟨_, rfl, D, _, _, _, rfl, rfl, SqL.of hD, atI_nat (j := 2) rfl, ?_⟩
      refine ⟨_, rfl, _, rfl, _, _, rfl, rfl, hm, _, rfl, D, _, _, 2, rfl, rfl, hD, rfl, ?_⟩
      refine ⟨_, rfl, .inl ⟨_, rfl, _, rfl, _, _, rfl, rfl, hm0, ?_⟩⟩
      refine q _ _ (Int.emod_nonneg _ (by omega)) (Int.emod_lt_of_pos _ hm0) ⟨d.set h0, Keep.refl.set⟩
    · refine ⟨fun σ' H' => ∃ (z : Int) (x : Option V), σ' = [some (.ref D), some (.int m), none, some (.int z), x] ∧ H' = H, ?_, ?_⟩
      · refine ⟨_, rfl, D, _, _, _, rfl, rfl, SqL.of hD, atI_nat (j := 1) rfl, ?_⟩
        refine ⟨_, rfl, D, _, _, _, rfl, rfl, SqL.of hD, atI_nat (j := 0) rfl, _, _, rfl, .inl ⟨_, SqL.of hS, rfl⟩, _, _, rfl, rfl, _, rfl, ?_⟩
        refine ite2 (fun e1 => ?_) (fun e1 => ?_)
        · have e2 : i < ((cs.map V.int).length : Int) := of_decide_eq_true e1
          have e3 : i.toNat < (cs.map V.int).length := by omega
          have e4 : i.toNat < cs.length := by rw [List.length_map] at e3; exact e3
          have e5 : (cs.map V.int)[i.toNat]? = some (.int cs[i.toNat]) := by
            rw [List.getElem?_map, List.getElem?_eq_getElem e4]
            rfl
          have e6 : atI (cs.map V.int) i = some (.int cs[i.toNat]) := by
            have := atI_nat (xs := cs.map V.int) e5
            rw [show ((i.toNat : Nat) : Int) = i by omega] at this
            exact this
          refine ⟨_, rfl, D, _, _, _, rfl, rfl, SqL.of hD, atI_nat (j := 0) rfl, ?_⟩
          refine ⟨_, rfl, D, _, _, _, rfl, rfl, SqL.of hD, atI_nat (j := 1) rfl, ?_⟩
          refine ⟨S, _, _, _, rfl, rfl, SqL.of hS, e6, ?_⟩
          refine ⟨_, rfl, _, rfl, _, _, rfl, rfl, .inl ⟨by decide, by decide⟩, ?_⟩
          refine ⟨_, rfl, _, _, rfl, rfl, .inr ⟨_, rfl, _, _, rfl, rfl, ?_⟩⟩
          exact ⟨_, _, rfl, rfl⟩
        · exact ⟨_, _, rfl, rfl⟩
      · rintro σ' H' ⟨z, x, rfl, rfl⟩
        refine ⟨_, rfl, D, _, _, _, rfl, rfl, SqL.of hD, atI_nat (j := 1) rfl, ?_⟩
        refine ⟨_, _, rfl, rfl, D, _, _, 1, rfl, rfl, hD, rfl, ?_⟩
        have hD1 : (upd H' D (.lst [.ref S, .int (i + 1), .int r, .int c])) D = some (.lst [.ref S, .int (i + 1), .int r, .int c]) := upd_same
        have d1 : DrawAt S D (upd H' D (.lst [.ref S, .int (i + 1), .int r, .int c])) := d.set (by omega)
        refine ⟨_, rfl, _, _, rfl, rfl, ⟨by decide, by decide, by decide⟩, _, _, rfl, rfl, .inl ⟨by decide, by decide⟩, _, _, rfl, rfl, _, rfl, ?_⟩
        refine ite2 (fun e1 => ?_) (fun e1 => ?_)
        · refine ⟨_, rfl, _, _, rfl, rfl, ⟨by decide, by decide⟩, .inl ⟨_, rfl, _, _, rfl, rfl, ⟨by decide, by decide, by decide⟩, ?_⟩⟩
          refine ⟨_, _, rfl, rfl, ?_, ?_⟩
          · show (0 : Int) < 1 * 2 ^ (6000 : Int).toNat
            exact Int.mul_pos (by decide) (Int.pow_pos (by decide))
          · refine ⟨_, rfl, _, rfl, _, _, rfl, rfl, hm, _, rfl, D, _, _, 2, rfl, rfl, hD1, rfl, ?_⟩
            refine ⟨_, rfl, .inl ⟨_, rfl, _, rfl, _, _, rfl, rfl, hm0, ?_⟩⟩
            exact q _ _ (Int.emod_nonneg _ (by omega)) (Int.emod_lt_of_pos _ hm0) ⟨d1.set (by omega), Keep.refl.set.set⟩
        · refine ⟨_, rfl, D, _, _, _, rfl, rfl, SqL.of hD1, atI_nat (j := 3) rfl, _, _, rfl, rfl, .inr ⟨by decide, by decide⟩, ?_⟩
          refine ⟨_, rfl, .inl ⟨_, rfl, _, _, rfl, rfl, (by show (0 : Int) < 2147483629; decide), _, _, rfl, rfl, .inr ⟨by decide, by decide⟩, _, _, rfl, rfl, ?_⟩⟩
          refine ⟨_, rfl, D, _, _, _, rfl, rfl, SqL.of hD1, atI_nat (j := 1) rfl, _, _, rfl, rfl, .inr ⟨by decide, by decide⟩, _, _, rfl, rfl, _, _, rfl, rfl, .inl ⟨_, rfl, ?_⟩⟩
          refine ⟨_, _, rfl, rfl, (by show (0 : Int) < 2147483647; decide), _, rfl, D, _, _, 3, rfl, rfl, hD1, rfl, ?_⟩
          refine ⟨_, rfl, D, _, _, _, rfl, rfl, SqL.of upd_same, atI_nat (j := 3) rfl, _, _, rfl, rfl, ⟨by decide, by decide⟩, ?_⟩
          refine .inl ⟨_, rfl, _, rfl, _, _, rfl, rfl, hm0, ?_⟩
          exact q _ _ (Int.emod_nonneg _ (by omega)) (Int.emod_lt_of_pos _ hm0) ⟨d1.set (by omega), Keep.refl.set.set⟩
theorem ok__law_begin (T : Txt K mg) {f : Addr} {fd : FuncData} (F : FnP K "_law_begin" s__law_begin f fd) : FnOk P w K mg base CX0 1 f fd ["script"] (spBegin K) := by
  refine F.ok sc__law_begin (fun vs H Q E h => ?_) (fun cdv A outer s H vs Q E hr h => ?_)
  · obtain ⟨a, ns, rfl, _⟩ := h
    rfl
  · obtain ⟨a, ns, rfl, hS, hlen, q⟩ := h
    refine ⟨_, PSs.nox (pss_one (ps_ret (pe_lst (pa_cons (pe_lc (own := [("cell", 1)]) (g := (gName 1)) (tt := tYes) rfl sc__law_begin.nd (pi_list (pv 0)) (blkOk_by (N := N__law_begin) (sc := defScope s__law_begin) (by decide +kernel)) (fun _ _ _ _ _ => (pg_name (i := 1) sc__law_begin.nd rfl (Or.inl rfl))) (fun _ _ _ _ _ => pts_nil) (fun _ _ _ _ _ => (pe_callTy call_int1 (by rfl) T.b_int (by decide +kernel) (pa_cons (pv 1) pa_nil)))) (pa_cons pe_int (pa_cons pe_int (pa_cons pe_int pa_nil))))))), ?_⟩
    refine ⟨_, rfl, a, rfl, ⟨_, hS⟩, fun L hL => lc_list (xs := ns.map V.int) (fun i H' => H' = upd H L (.lst ((ns.take i).map V.int))) rfl (fun i H' _ e => ?_) ?_ ?_⟩
    · subst e
      exact (show Same H _ from fun b o h => by rw [upd_ne (ne_of_none h hL)]; exact h).seq hS
    · rintro i x H1 hi rfl
      obtain ⟨z, rfl, hz⟩ := getV hi
      refine ⟨rfl, _, rfl, .inl ⟨_, rfl, _, upd_same, ?_, ?_⟩⟩
      · rw [List.length_map, List.length_take]
        exact Nat.lt_of_le_of_lt (Nat.min_le_right _ _) (small1000 (by omega))
      · rw [upd_upd, take_map_succ (f := V.int) hz]
    · rintro H' rfl
      refine ⟨by show 4 ≤ sizeLine; decide, fun D hD => ?_⟩
      have nLD : D ≠ L := fun e => by
        rw [e, upd_same] at hD
        cases hD
      have hD0 : H D = none := by
        rw [upd_ne nLD] at hD
        exact hD
      refine q L D _ (fun b o h => ?_) hD0 ⟨fun e => nLD e.symm, ⟨ns, ?_⟩, ⟨0, 0, 7, by decide, upd_same⟩⟩
      · rw [upd_ne (ne_of_none h hD0), upd_ne (ne_of_none h hL)]
        exact h
      · rw [upd_ne (fun e => nLD e.symm), upd_same]
        rw [List.take_of_length_le (by rw [List.length_map]; exact Nat.le_refl _)]
theorem ok__law_pick (T : Txt K mg) (D__law_draw : Kept P w K mg base 1 "_law_draw" ["d", "many"] spDraw) {f : Addr} {fd : FuncData} (F : FnP K "_law_pick" s__law_pick f fd) : FnOk P w K mg base CX0 2 f fd ["d", "row"] (spPick K) := by
  refine F.ok sc__law_pick (fun vs H Q E h => ?_) (fun cdv A outer s H vs Q E hr h => ?_)
  · obtain ⟨S, D, r, xs, rfl, _⟩ := h
    rfl
  · obtain ⟨S, D, r, xs, rfl, d, hR, h0, h1, q⟩ := h
    refine ⟨_, PSs.nox (pss_one (ps_ret (pe_ix ix_seq (pv 1) (pe_d D__law_draw (hr.mono (by decide)) (by rfl) (pa_cons (pv 0) (pa_cons (pe_callB call_len (by rfl) T.b_len (by decide +kernel) (pa_cons (pv 1) pa_nil)) pa_nil))) (fun _ _ => rfl)))), ?_⟩
    refine ⟨r, rfl, _, rfl, _, rfl, r, xs.length, rfl, ?_, ?_⟩
    · rcases hR H (Go.refl d) with ⟨z, rfl, rfl⟩ | ⟨p, rfl, hp⟩
      · refine ⟨?_, by simp [Str.length]⟩
        rw [List.length_map] at h1
        have : z.length = z.cps.toList.length := by simp [Str.length]
        rw [this]
        exact Nat.le_trans h1 (by decide)
      · exact .inl ⟨_, hp, rfl⟩
    · refine ⟨S, D, _, rfl, divW_of (by omega) (by omega), d, fun H' v hv0 hv1 g => ?_⟩
      have hv : v.toNat < xs.length := by omega
      have e : ((v.toNat : Nat) : Int) = v := by omega
      have ex : xs[v.toNat]? = some xs[v.toNat] := List.getElem?_eq_getElem hv
      have ea : atI xs v = some xs[v.toNat] := by
        have := atI_nat (xs := xs) ex
        rw [e] at this
        exact this
      rcases hR H' g with ⟨z, rfl, rfl⟩ | ⟨p, rfl, hp⟩
      · refine .inr (.inr ⟨z, v, z.cps.toList[v.toNat]'(by rw [List.length_map] at hv; exact hv), rfl, rfl, ?_, ?_, ?_⟩)
        · rw [List.length_map] at h1
          have : z.length = z.cps.toList.length := by simp [Str.length]
          rw [this]
          exact Nat.le_trans h1 (by decide)
        · have := atI_nat (xs := z.cps.toList) (List.getElem?_eq_getElem (show v.toNat < z.cps.toList.length by rw [List.length_map] at hv; exact hv))
          rw [e] at this
          exact this
        · refine q H' _ ?_ g
          exact List.mem_map_of_mem (List.getElem_mem _)
      · exact .inl ⟨p, xs, v, _, rfl, rfl, hp, ea, q H' _ (List.getElem_mem _) g⟩
theorem ok__law_signs (T : Txt K mg) {f : Addr} {fd : FuncData} (F : FnP K "_law_signs" s__law_signs f fd) : FnOk P w K mg base CX0 1 f fd [] spSigns := by
  refine F.ok sc__law_signs (fun vs H Q E h => ?_) (fun cdv A outer s H vs Q E hr h => ?_)
  · obtain ⟨rfl, _⟩ := h
    rfl
  · obtain ⟨rfl, q⟩ := h
    refine ⟨_, PSs.nox (pss_cons (ps_set (i := 0) sc__law_signs.nd rfl (Or.inl rfl) pe_str)
      (pss_one (ps_ret (pe_op op_add_str (pv 0) pe_str)))), ?_⟩
    exact ⟨_, rfl, _, _, rfl, rfl, by decide +kernel, q⟩
theorem ok__law_raw (T : Txt K mg) (D__law_pick : Kept P w K mg base 2 "_law_pick" ["d", "row"] (spPick K)) (D__law_signs : Kept P w K mg base 1 "_law_signs" [] spSigns) {f : Addr} {fd : FuncData} (F : FnP K "_law_raw" s__law_raw f fd) : FnOk P w K mg base CX0 3 f fd ["d", "size"] spRaw := by
  refine F.ok sc__law_raw (fun vs H Q E h => ?_) (fun cdv A outer s H vs Q E hr h => ?_)
  · obtain ⟨S, D, n, rfl, _⟩ := h
    rfl
  · obtain ⟨S, D, n, rfl, h0, h1, d, q⟩ := h
    refine ⟨_, PSs.nox (pss_cons (ps_set (i := 2) sc__law_raw.nd rfl (Or.inl rfl) pe_str)
      (pss_cons (ps_set (i := 3) sc__law_raw.nd rfl (Or.inl rfl) (pe_d0 D__law_signs (hr.mono (by decide)) (by rfl)))
      (pss_cons (ps_for PassesOwn.never rfl (pi_range1 (by rfl) T.b_range (pa_cons (pv 1) pa_nil)) (pg_name (i := 4) sc__law_raw.nd rfl (Or.inl rfl)) (pss_one (ps_set (i := 2) sc__law_raw.nd rfl (Or.inl rfl) (pe_op op_add_str (pv 2) (pe_d D__law_pick (hr.mono (by decide)) (by rfl) (pa_cons (pv 0) (pa_cons (pv 3) pa_nil)))))))
      (pss_one (ps_ret (pv 2)))))), ?_⟩
    refine ⟨rfl, ?_⟩
    refine ⟨_, rfl, _, rfl, by omega, by omega, for_range (lo := 0) (n := n.toNat) (fun i σ H' => ∃ (z : Str) (k : Option V), σ = [some (.ref D), some (.int n), some (.str z), some (.str SIGNS), k] ∧ z.length = i ∧ Go S D H H') ⟨_, _, rfl, rfl, Go.refl d⟩ ?_ ?_⟩
    · rintro i σ H1 hi ⟨z, k, rfl, hz, g⟩
      refine ⟨_, rfl, _, rfl, _, rfl, S, D, _, _, rfl, g.1, fun H' _ => row_str SIGNS, by decide +kernel, by decide +kernel, fun H2 x hx g2 => ?_⟩
      obtain ⟨c, rfl⟩ := sign_of hx
      refine ⟨_, _, rfl, rfl, ?_, _, _, rfl, ?_, g.trans g2⟩
      · rw [hz, len_one]
        exact Nat.le_trans (show i + 1 ≤ 1000 by omega) (by decide)
      · rw [PySem.Str.length_append, hz, len_one]
    · rintro σ H1 ⟨z, k, rfl, hz, g⟩
      exact ⟨_, rfl, q H1 z hz g⟩

theorem ok_is_of_run (T : Txt K mg) {f : Addr} {fd : FuncData} (F : FnP K "is_of_run" s_is_of_run f fd) : FnOk P w K mg base CX0 1 f fd ["sign"] spRun := by
  refine F.ok sc_is_of_run (fun vs H Q E h => ?_) (fun cdv A outer s H vs Q E hr h => ?_)
  · obtain ⟨c, rfl, _⟩ := h
    rfl
  · obtain ⟨c, rfl, q⟩ := h
    refine ⟨_, PSs.nox (pss_one (ps_ret (pe_or (pe_cmpR op_in_sign (pv 0) (pe_gs T.g_LETTERS (by rfl)) (by rfl)) (pe_or (pe_cmpR op_in_sign (pv 0) (pe_gs T.g_CAPITALS (by rfl)) (by rfl)) (pe_one (pe_cmpR op_in_sign (pv 0) (pe_gs T.g_DIGITS (by rfl)) (by rfl))))))), ?_⟩
    unfold isRun at q
    refine ⟨_, rfl, c, _, rfl, rfl, _, rfl, ?_⟩
    cases e1 : decide (c ∈ LETz.cps.toList) with
    | true =>
      rw [e1] at q
      exact q
    | false =>
      rw [e1] at q
      refine ⟨_, rfl, c, _, rfl, rfl, _, rfl, ?_⟩
      cases e2 : decide (c ∈ CAPz.cps.toList) with
      | true =>
        rw [e2] at q
        exact q
      | false =>
        rw [e2] at q
        exact ⟨_, rfl, c, _, rfl, rfl, q⟩
theorem ok__law_is_run (T : Txt K mg) {f : Addr} {fd : FuncData} (F : FnP K "_law_is_run" s__law_is_run f fd) : FnOk P w K mg base CX0 1 f fd ["token"] spRun := by
  refine F.ok sc__law_is_run (fun vs H Q E h => ?_) (fun cdv A outer s H vs Q E hr h => ?_)
  · obtain ⟨c, rfl, _⟩ := h
    rfl
  · obtain ⟨c, rfl, q⟩ := h
    refine ⟨_, PSs.nox (pss_one (ps_ret (pe_cmpR op_in_sign (pe_ix ix_str (pv 0) pe_int (fun _ _ => rfl)) pe_str (by rfl)))), ?_⟩
    rw [← isRun_eq] at q
    exact ⟨_, rfl, ⟨#[c]⟩, 0, c, rfl, rfl, by rw [len_one]; decide, atI_nat (j := 0) rfl, c, _, rfl, rfl, q⟩
theorem ok_end_of_token (T : Txt K mg) (D_is_of_run : Kept P w K mg base 1 "is_of_run" ["sign"] spRun) {f : Addr} {fd : FuncData} (F : FnP K "end_of_token" s_end_of_token f fd) : FnOk P w K mg base CX0 2 f fd ["text", "at"] spEnd := by
  refine F.ok sc_end_of_token (fun vs H Q E h => ?_) (fun cdv A outer s H vs Q E hr h => ?_)
  · obtain ⟨z, a, rfl, _⟩ := h
    rfl
  · obtain ⟨z, a, rfl, ha, hz, q⟩ := h
    refine ⟨_, PSs.nox (pss_cons (ps_set (i := 2) sc_end_of_token.nd rfl (Or.inl rfl) (pv 1))
      (pss_cons (ps_while PassesOwn.never (PW.pt (pw_and (pt_cmpR op_lt (pv 2) (pe_callB call_len (by rfl) T.b_len (by decide +kernel) (pa_cons (pv 0) pa_nil)) (nomark _)) (pw_and1 (pt_val (pe_d D_is_of_run (hr.mono (by decide)) (by rfl) (pa_cons (pe_ix ix_str (pv 0) (pv 2) (fun _ _ => rfl)) pa_nil)))))) (pss_one (ps_aug (i := 2) sc_end_of_token.nd rfl (Or.inl rfl) pe_int ip_add)))
      (pss_one (ps_ret (pe_callB (call_max2 rfl) (by rfl) T.b_max (by decide +kernel) (pa_cons (pv 2) (pa_cons (pe_op op_add (pv 1) pe_int) pa_nil))))))), ?_⟩
    have hl := line5 hz
    have hcl := len_cps z
    refine ⟨_, rfl, ?_⟩
    refine ⟨fun m σ H' => ∃ j : Nat, σ = [some (.str z), some (.int (a : Nat)), some (.int ((a + j : Nat) : Int))] ∧ j ≤ tw (z.cps.toList.drop a) ∧ m = tw (z.cps.toList.drop a) - j ∧ H' = H, ⟨_, 0, rfl, Nat.zero_le _, rfl, rfl⟩, ?_⟩
    rintro m σ H' ⟨j, rfl, hj, rfl, rfl⟩
    have fin : tw (z.cps.toList.drop a) = j → Q (.int (if (a : Int) + 1 > ((a + j : Nat) : Int) then (a : Int) + 1 else ((a + j : Nat) : Int))) H' := fun e => by
      rw [e] at q
      have e2 : (if (a : Int) + 1 > ((a + j : Nat) : Int) then (a : Int) + 1 else ((a + j : Nat) : Int)) = ((a + max j 1 : Nat) : Int) := by
        split <;> omega
      rw [e2]
      exact q
    refine ⟨_, rfl, _, rfl, _, _, rfl, ⟨hl, rfl⟩, _, _, rfl, rfl, _, rfl, ?_⟩
    by_cases hlt : a + j < z.length
    · refine ite2 (fun _ => ?_) (fun n => absurd (decide_eq_true (by omega)) n)
      have hlt2 : a + j < z.cps.toList.length := by omega
      have hg : z.cps.toList[a + j]? = some z.cps.toList[a + j] := List.getElem?_eq_getElem hlt2
      have hgd : (z.cps.toList.drop a)[j]? = some z.cps.toList[a + j] := by
        rw [List.getElem?_drop]
        exact hg
      have key := tw_lt _ _ _ hj hgd
      refine ⟨_, rfl, _, rfl, z, _, _, rfl, rfl, hl, atI_nat hg, _, rfl, _, rfl, ?_⟩
      cases er : isRun z.cps.toList[a + j] with
      | true =>
        have hj2 := key.mpr er
        refine ⟨fun σ2 H2 => σ2 = [some (.str z), some (.int (a : Nat)), some (.int ((a + (j + 1) : Nat) : Int))] ∧ H2 = H', ?_, ?_⟩
        · rintro σ2 H2 ⟨rfl, rfl⟩
          exact ⟨_, by omega, j + 1, rfl, by omega, rfl, rfl⟩
        · exact ⟨_, rfl, _, _, rfl, rfl, rfl, rfl⟩
      | false =>
        have hj2 : ¬ j < tw (z.cps.toList.drop a) := fun z' => by
          rw [key.mp z'] at er
          cases er
        refine ⟨_, rfl, _, rfl, _, _, rfl, rfl, _, _, rfl, fin (by omega)⟩
    · refine ite2 (fun n => absurd (of_decide_eq_true n) (by omega)) (fun _ => ?_)
      have hgd : (z.cps.toList.drop a)[j]? = none := by
        rw [List.getElem?_eq_none_iff, List.length_drop]
        omega
      refine ⟨_, rfl, _, rfl, _, _, rfl, rfl, _, _, rfl, fin (tw_end _ _ hj hgd).symm⟩
theorem ok_tokens_of (T : Txt K mg) (D_end_of_token : Kept P w K mg base 2 "end_of_token" ["text", "at"] spEnd) {f : Addr} {fd : FuncData} (F : FnP K "tokens_of" s_tokens_of f fd) : FnOk P w K mg base CX0 3 f fd ["text"] spToks := by
  refine F.ok sc_tokens_of (fun vs H Q E h => ?_) (fun cdv A outer s H vs Q E hr h => ?_)
  · obtain ⟨z, rfl, _⟩ := h
    rfl
  · obtain ⟨z, rfl, hz, q⟩ := h
    refine ⟨_, PSs.nox (pss_cons (ps_set (i := 1) sc_tokens_of.nd rfl (Or.inl rfl) (pe_lst pa_nil))
      (pss_cons (ps_set (i := 2) sc_tokens_of.nd rfl (Or.inl rfl) pe_int)
      (pss_cons (ps_while PassesOwn.never (pt_cmpR op_lt (pv 2) (pe_callB call_len (by rfl) T.b_len (by decide +kernel) (pa_cons (pv 0) pa_nil)) (nomark _)) (pss_cons (ps_set (i := 3) sc_tokens_of.nd rfl (Or.inl rfl) (pe_d D_end_of_token (hr.mono (by decide)) (by rfl) (pa_cons (pv 0) (pa_cons (pv 2) pa_nil))))
      (Evl.pss_cut (ps_if (pt_cmpR op_notIn_sign (pe_ix ix_str (pv 0) (pv 2) (fun _ _ => rfl)) pe_str (by rfl)) (pss_one (ps_expr (pe_bm PySem.F.plainAttrs_list PySem.F.slot_list_append PySem.F.type_list_append mt_append (pv 1) (pa_cons (pe_slice sl_str (pv 0) (po_some (pv 2)) (po_some (pv 3))) pa_nil)))) pss_nil)
      (pss_one (ps_set (i := 2) sc_tokens_of.nd rfl (Or.inl rfl) (pv 3))))))
      (pss_one (ps_ret (pe_callTy call_tuple_of (by rfl) T.b_tuple (by decide +kernel) (pa_cons (pv 1) pa_nil))))))), ?_⟩
    have hl := line5 (show z.length ≤ 100000 by omega)
    have hcl := len_cps z
    refine ⟨Nat.zero_le _, fun L hL => ?_⟩
    refine ⟨fun m σ H' => ∃ (a : Nat) (ts : List Str) (e : Option V), σ = [some (.str z), some (.ref L), some (.int (a : Nat)), e] ∧ m = z.length - a ∧ a ≤ z.length ∧ H' L = some (.lst (ts.map V.str)) ∧ ts ++ rest z a = toks z ∧ ts.length ≤ a ∧ Same H H', ⟨_, 0, [], none, rfl, rfl, Nat.zero_le _, upd_same, rfl, Nat.zero_le _, same_new hL⟩, ?_⟩
    rintro m σ H' ⟨a, ts, e, rfl, rfl, ha, hT, hR, hlen, s1⟩
    refine ⟨_, rfl, _, rfl, _, _, rfl, ⟨hl, rfl⟩, _, _, rfl, rfl, _, rfl, ?_⟩
    by_cases hlt : a < z.length
    · refine ite2 (fun _ => ?_) (fun n => absurd (decide_eq_true (by omega)) n)
      have hlt2 : a < z.cps.toList.length := by omega
      obtain ⟨c, hg⟩ : ∃ c, z.cps.toList[a]? = some c := ⟨_, List.getElem?_eq_getElem hlt2⟩
      have st := rest_step z hg
      have twl := tw_le (z.cps.toList.drop a)
      rw [List.length_drop] at twl
      generalize hM : max (tw (z.cps.toList.drop a)) 1 = M at st
      have hM1 : 1 ≤ M := by omega
      have hM2 : a + M ≤ z.length := by omega
      refine ⟨fun σ2 H2 => ∃ (ts2 : List Str), σ2 = [some (.str z), some (.ref L), some (.int ((a + M : Nat) : Int)), some (.int ((a + M : Nat) : Int))] ∧ H2 L = some (.lst (ts2.map V.str)) ∧ ts2 ++ rest z (a + M) = toks z ∧ ts2.length ≤ a + M ∧ Same H H2, ?_, ?_⟩
      · rintro σ2 H2 ⟨ts2, rfl, h1, h2, h3, h4⟩
        exact ⟨_, by omega, a + M, ts2, _, rfl, rfl, hM2, h1, h2, h3, h4⟩
      · refine ⟨_, rfl, _, rfl, z, a, rfl, hlt, by omega, ?_⟩
        rw [hM]
        refine ⟨fun σ2 H2 => ∃ (ts2 : List Str), σ2 = [some (.str z), some (.ref L), some (.int (a : Nat)), some (.int ((a + M : Nat) : Int))] ∧ H2 L = some (.lst (ts2.map V.str)) ∧ ts2 ++ rest z (a + M) = toks z ∧ ts2.length ≤ a + M ∧ Same H H2, ?_, ?_⟩
        · refine ⟨_, rfl, _, rfl, z, _, c, rfl, rfl, hl, atI_nat hg, c, _, rfl, rfl, _, rfl, ?_⟩
          show (if (!isGap c) = true then _ else _)
          cases eg : isGap c with
          | true =>
            refine iteF ?_
            rw [eg, if_pos rfl, List.nil_append] at st
            exact ⟨ts, rfl, hT, by rw [← st]; exact hR, by omega, s1⟩
          | false =>
            refine iteT ?_
            rw [eg, if_neg Bool.false_ne_true] at st
            refine ⟨_, rfl, .inl ⟨rfl, _, SqL.of hT⟩, _, rfl, _, rfl, _, rfl, _, rfl, _, rfl, z, rfl, hl, L, _, _, rfl, rfl, hT, ?_, ?_⟩
            · rw [List.length_map]
              exact Nat.lt_of_lt_of_le (show ts.length < 100000 by omega) (by decide)
            · have ec : cutS z (some ((a : Nat) : Int)) (some ((a + M : Nat) : Int)) = ⟨((z.cps.toList.drop a).take M).toArray⟩ := by
                unfold cutS
                rw [HT.sIx_nat, HT.sIx_nat, Nat.min_eq_left ha, Nat.min_eq_left hM2, Nat.add_sub_cancel_left]
              refine ⟨ts ++ [⟨((z.cps.toList.drop a).take M).toArray⟩], rfl, ?_, ?_, ?_, same_mut s1 hL⟩
              · rw [ec, List.map_append]
                exact upd_same
              · rw [List.append_assoc, ← st]
                exact hR
              · rw [List.length_append, List.length_singleton]
                omega
        · rintro σ2 H2 ⟨ts2, rfl, h1, h2, h3, h4⟩
          exact ⟨_, rfl, ts2, rfl, h1, h2, h3, h4⟩
    · refine ite2 (fun n => absurd (of_decide_eq_true n) (by omega)) (fun _ => ?_)
      rw [rest_end z (by omega), List.append_nil] at hR
      subst hR
      refine ⟨_, rfl, L, _, rfl, .inl ⟨SqL.of hT, fun l hl' => q _ l (s1.trans (same_new hl')) upd_same⟩⟩
theorem ok__law_tokens_of (T : Txt K mg) (D__law_is_run : Kept P w K mg base 1 "_law_is_run" ["token"] spRun) {f : Addr} {fd : FuncData} (F : FnP K "_law_tokens_of" s__law_tokens_of f fd) : FnOk P w K mg base CX0 2 f fd ["text"] spToksL := by
  refine F.ok sc__law_tokens_of (fun vs H Q E h => ?_) (fun cdv A outer s H vs Q E hr h => ?_)
  · obtain ⟨z, rfl, _⟩ := h
    rfl
  · obtain ⟨z, rfl, hz, q⟩ := h
    refine ⟨_, PSs.nox (pss_cons (ps_set (i := 1) sc__law_tokens_of.nd rfl (Or.inl rfl) (pe_lst pa_nil))
      (pss_cons (ps_set (i := 2) sc__law_tokens_of.nd rfl (Or.inl rfl) pe_int)
      (pss_cons (ps_while PassesOwn.never (pt_cmpR op_lt (pv 2) (pe_callB call_len (by rfl) T.b_len (by decide +kernel) (pa_cons (pv 0) pa_nil)) (nomark _)) (pss_cons (ps_set (i := 3) sc__law_tokens_of.nd rfl (Or.inl rfl) (pv 2))
      (pss_cons (ps_while PassesOwn.never (PW.pt (pw_and (pt_cmpR op_lt (pv 3) (pe_callB call_len (by rfl) T.b_len (by decide +kernel) (pa_cons (pv 0) pa_nil)) (nomark _)) (pw_and1 (pt_val (pe_d D__law_is_run (hr.mono (by decide)) (by rfl) (pa_cons (pe_ix ix_str (pv 0) (pv 3) (fun _ _ => rfl)) pa_nil)))))) (pss_one (ps_aug (i := 3) sc__law_tokens_of.nd rfl (Or.inl rfl) pe_int ip_add)))
      (Evl.pss_cut (ps_if (pt_cmpR op_gt (pv 3) (pv 2) (nomark _)) (pss_one (ps_expr (pe_bm PySem.F.plainAttrs_list PySem.F.slot_list_append PySem.F.type_list_append mt_append (pv 1) (pa_cons (pe_slice sl_str (pv 0) (po_some (pv 2)) (po_some (pv 3))) pa_nil)))) (pss_one (ps_if (PW.pt (pw_and (pt_cmpR op_ne (pe_ix ix_str (pv 0) (pv 2) (fun _ _ => rfl)) pe_str (nomark _)) (pw_and1 (pt_cmpR op_ne (pe_ix ix_str (pv 0) (pv 2) (fun _ _ => rfl)) pe_str (nomark _))))) (pss_one (ps_expr (pe_bm PySem.F.plainAttrs_list PySem.F.slot_list_append PySem.F.type_list_append mt_append (pv 1) (pa_cons (pe_ix ix_str (pv 0) (pv 2) (fun _ _ => rfl)) pa_nil)))) pss_nil)))
      (pss_one (ps_set (i := 2) sc__law_tokens_of.nd rfl (Or.inl rfl) (pe_callB (call_max2 rfl) (by rfl) T.b_max (by decide +kernel) (pa_cons (pv 3) (pa_cons (pe_op op_add (pv 2) pe_int) pa_nil)))))))))
      (pss_one (ps_ret (pv 1)))))), ?_⟩
    have hl := line5 (show z.length ≤ 100000 by omega)
    have hcl := len_cps z
    refine ⟨Nat.zero_le _, fun L hL => ?_⟩
    refine ⟨fun m σ H' => ∃ (a : Nat) (ts : List Str) (e : Option V), σ = [some (.str z), some (.ref L), some (.int (a : Nat)), e] ∧ m = z.length - a ∧ a ≤ z.length ∧ H' L = some (.lst (ts.map V.str)) ∧ ts ++ rest z a = toks z ∧ ts.length ≤ a ∧ Same H H', ⟨_, 0, [], none, rfl, rfl, Nat.zero_le _, upd_same, rfl, Nat.zero_le _, same_new hL⟩, ?_⟩
    rintro m σ H' ⟨a, ts, e, rfl, rfl, ha, hT, hR, hlen, s1⟩
    refine ⟨_, rfl, _, rfl, _, _, rfl, ⟨hl, rfl⟩, _, _, rfl, rfl, _, rfl, ?_⟩
    by_cases hlt : a < z.length
    · refine ite2 (fun _ => ?_) (fun n => absurd (decide_eq_true (by omega)) n)
      have hlt2 : a < z.cps.toList.length := by omega
      obtain ⟨c, hg⟩ : ∃ c, z.cps.toList[a]? = some c := ⟨_, List.getElem?_eq_getElem hlt2⟩
      have st := rest_step z hg
      have twl := tw_le (z.cps.toList.drop a)
      rw [List.length_drop] at twl
      generalize hM : max (tw (z.cps.toList.drop a)) 1 = M at st
      have hM1 : 1 ≤ M := by omega
      have hM2 : a + M ≤ z.length := by omega
      refine ⟨fun σ2 H2 => ∃ (ts2 : List Str) (e2 : Option V), σ2 = [some (.str z), some (.ref L), some (.int ((a + M : Nat) : Int)), e2] ∧ H2 L = some (.lst (ts2.map V.str)) ∧ ts2 ++ rest z (a + M) = toks z ∧ ts2.length ≤ a + M ∧ Same H H2, ?_, ?_⟩
      · rintro σ2 H2 ⟨ts2, e2, rfl, h1, h2, h3, h4⟩
        exact ⟨_, by omega, a + M, ts2, _, rfl, rfl, hM2, h1, h2, h3, h4⟩
      · refine ⟨_, rfl, ?_⟩
        refine ⟨fun m σ H2 => ∃ j : Nat, σ = [some (.str z), some (.ref L), some (.int (a : Nat)), some (.int ((a + j : Nat) : Int))] ∧ j ≤ tw (z.cps.toList.drop a) ∧ m = tw (z.cps.toList.drop a) - j ∧ H2 = H', ⟨_, 0, rfl, Nat.zero_le _, rfl, rfl⟩, ?_⟩
        rintro m σ H2 ⟨j, rfl, hj, rfl, rfl⟩
        refine ⟨_, rfl, _, rfl, _, _, rfl, ⟨hl, rfl⟩, _, _, rfl, rfl, _, rfl, ?_⟩
        by_cases hlt3 : a + j < z.length
        · refine ite2 (fun _ => ?_) (fun n => absurd (decide_eq_true (by omega)) n)
          have hlt4 : a + j < z.cps.toList.length := by omega
          have hg2 : z.cps.toList[a + j]? = some z.cps.toList[a + j] := List.getElem?_eq_getElem hlt4
          have key := tw_lt _ _ _ hj (show (z.cps.toList.drop a)[j]? = some z.cps.toList[a + j] by rw [List.getElem?_drop]; exact hg2)
          refine ⟨_, rfl, _, rfl, z, _, _, rfl, rfl, hl, atI_nat hg2, _, rfl, _, rfl, ?_⟩
          cases er : isRun z.cps.toList[a + j] with
          | true =>
            have hj2 := key.mpr er
            refine ⟨fun σ3 H3 => σ3 = [some (.str z), some (.ref L), some (.int (a : Nat)), some (.int ((a + (j + 1) : Nat) : Int))] ∧ H3 = H2, ?_, ?_⟩
            · rintro σ3 H3 ⟨rfl, rfl⟩
              exact ⟨_, by omega, j + 1, rfl, by omega, rfl, rfl⟩
            · exact ⟨_, rfl, _, _, rfl, rfl, rfl, rfl⟩
          | false =>
            have hjt : tw (z.cps.toList.drop a) = j := by
              have : ¬ j < tw (z.cps.toList.drop a) := fun z' => by
                rw [key.mp z'] at er
                cases er
              omega
            refine ⟨fun σ3 H3 => ∃ ts2 : List Str, σ3 = [some (.str z), some (.ref L), some (.int (a : Nat)), some (.int ((a + j : Nat) : Int))] ∧ H3 L = some (.lst (ts2.map V.str)) ∧ ts2 ++ rest z (a + M) = toks z ∧ ts2.length ≤ a + M ∧ Same H H3, ?_, ?_⟩
            · refine ⟨_, rfl, _, rfl, _, _, rfl, rfl, _, rfl, ?_⟩
              by_cases hj0 : 0 < j
              · refine ite2 (fun _ => ?_) (fun n => absurd (decide_eq_true (by omega)) n)
                have er0 := (tw_lt (z.cps.toList.drop a) 0 c (Nat.zero_le _) (by rw [List.getElem?_drop]; exact hg)).mp (by omega)
                have hMj : M = j := by omega
                subst hMj
                rw [gap_no er0, if_neg Bool.false_ne_true] at st
                refine ⟨_, rfl, .inl ⟨rfl, _, SqL.of hT⟩, _, rfl, _, rfl, _, rfl, _, rfl, _, rfl, z, rfl, hl, L, _, _, rfl, rfl, hT, ?_, ?_⟩
                · rw [List.length_map]
                  exact Nat.lt_of_lt_of_le (show ts.length < 100000 by omega) (by decide)
                · have ec : cutS z (some ((a : Nat) : Int)) (some ((a + M : Nat) : Int)) = ⟨((z.cps.toList.drop a).take M).toArray⟩ := by
                    unfold cutS
                    rw [HT.sIx_nat, HT.sIx_nat, Nat.min_eq_left ha, Nat.min_eq_left hM2, Nat.add_sub_cancel_left]
                  refine ⟨ts ++ [⟨((z.cps.toList.drop a).take M).toArray⟩], rfl, ?_, ?_, ?_, same_mut s1 hL⟩
                  · rw [ec, List.map_append]
                    exact upd_same
                  · rw [List.append_assoc, ← st]
                    exact hR
                  · rw [List.length_append, List.length_singleton]
                    omega
              · refine ite2 (fun n => absurd (of_decide_eq_true n) (by omega)) (fun _ => ?_)
                have hM0 : M = 1 := by omega
                subst hM0
                have hd1 : (z.cps.toList.drop a).take 1 = [c] := by
                  rw [List.drop_eq_getElem_cons hlt2]
                  have := (List.getElem?_eq_some_iff.mp hg).2
                  rw [this]
                  rfl
                rw [hd1] at st
                refine ⟨_, rfl, _, rfl, z, _, c, rfl, rfl, hl, atI_nat hg, rfl, _, rfl, ?_⟩
                rw [eq_blank]
                by_cases h32 : c = 32
                · subst h32
                  refine ite2 (fun n => absurd n (by decide)) (fun _ => ?_)
                  rw [show isGap 32 = true by decide +kernel, if_pos rfl, List.nil_append] at st
                  exact ⟨ts, rfl, hT, by rw [← st]; exact hR, by omega, s1⟩
                · refine ite2 (fun _ => ?_) (fun n => absurd (by rw [decide_eq_false h32]; rfl) n)
                  refine ⟨_, rfl, _, rfl, z, _, c, rfl, rfl, hl, atI_nat hg, rfl, _, rfl, ?_⟩
                  rw [eq_feed]
                  by_cases h10 : c = 10
                  · subst h10
                    refine ite2 (fun n => absurd n (by decide)) (fun _ => ?_)
                    rw [show isGap 10 = true by decide +kernel, if_pos rfl, List.nil_append] at st
                    exact ⟨ts, rfl, hT, by rw [← st]; exact hR, by omega, s1⟩
                  · refine ite2 (fun _ => ?_) (fun n => absurd (by rw [decide_eq_false h10]; rfl) n)
                    rw [gap_not h32 h10, if_neg Bool.false_ne_true] at st
                    refine ⟨_, rfl, .inl ⟨rfl, _, SqL.of hT⟩, _, rfl, _, rfl, z, _, c, rfl, rfl, hl, atI_nat hg, L, _, _, rfl, rfl, hT, ?_, ?_⟩
                    · rw [List.length_map]
                      exact Nat.lt_of_lt_of_le (show ts.length < 100000 by omega) (by decide)
                    · refine ⟨ts ++ [⟨#[c]⟩], rfl, ?_, ?_, ?_, same_mut s1 hL⟩
                      · rw [List.map_append]
                        exact upd_same
                      · rw [List.append_assoc]
                        rw [st] at hR
                        exact hR
                      · rw [List.length_append, List.length_singleton]
                        omega
            · rintro σ3 H3 ⟨ts2, rfl, h1, h2, h3, h4⟩
              refine ⟨_, rfl, _, rfl, _, _, rfl, rfl, _, _, rfl, ?_⟩
              have e2 : (if (a : Int) + 1 > ((a + j : Nat) : Int) then (a : Int) + 1 else ((a + j : Nat) : Int)) = ((a + M : Nat) : Int) := by
                split <;> omega
              rw [e2]
              exact ⟨ts2, _, rfl, h1, h2, h3, h4⟩
        · refine ite2 (fun n => absurd (of_decide_eq_true n) (by omega)) (fun _ => ?_)
          have hjt : tw (z.cps.toList.drop a) = j := (tw_end _ _ hj (by
            rw [List.getElem?_eq_none_iff, List.length_drop]
            omega)).symm
          refine ⟨fun σ3 H3 => ∃ ts2 : List Str, σ3 = [some (.str z), some (.ref L), some (.int (a : Nat)), some (.int ((a + j : Nat) : Int))] ∧ H3 L = some (.lst (ts2.map V.str)) ∧ ts2 ++ rest z (a + M) = toks z ∧ ts2.length ≤ a + M ∧ Same H H3, ?_, ?_⟩
          · refine ⟨_, rfl, _, rfl, _, _, rfl, rfl, _, rfl, ?_⟩
            by_cases hj0 : 0 < j
            · refine ite2 (fun _ => ?_) (fun n => absurd (decide_eq_true (by omega)) n)
              have er0 := (tw_lt (z.cps.toList.drop a) 0 c (Nat.zero_le _) (by rw [List.getElem?_drop]; exact hg)).mp (by omega)
              have hMj : M = j := by omega
              subst hMj
              rw [gap_no er0, if_neg Bool.false_ne_true] at st
              refine ⟨_, rfl, .inl ⟨rfl, _, SqL.of hT⟩, _, rfl, _, rfl, _, rfl, _, rfl, _, rfl, z, rfl, hl, L, _, _, rfl, rfl, hT, ?_, ?_⟩
              · rw [List.length_map]
                exact Nat.lt_of_lt_of_le (show ts.length < 100000 by omega) (by decide)
              · have ec : cutS z (some ((a : Nat) : Int)) (some ((a + M : Nat) : Int)) = ⟨((z.cps.toList.drop a).take M).toArray⟩ := by
                  unfold cutS
                  rw [HT.sIx_nat, HT.sIx_nat, Nat.min_eq_left ha, Nat.min_eq_left hM2, Nat.add_sub_cancel_left]
                refine ⟨ts ++ [⟨((z.cps.toList.drop a).take M).toArray⟩], rfl, ?_, ?_, ?_, same_mut s1 hL⟩
                · rw [ec, List.map_append]
                  exact upd_same
                · rw [List.append_assoc, ← st]
                  exact hR
                · rw [List.length_append, List.length_singleton]
                  omega
            · refine ite2 (fun n => absurd (of_decide_eq_true n) (by omega)) (fun _ => ?_)
              have hM0 : M = 1 := by omega
              subst hM0
              have hd1 : (z.cps.toList.drop a).take 1 = [c] := by
                rw [List.drop_eq_getElem_cons hlt2]
                have := (List.getElem?_eq_some_iff.mp hg).2
                rw [this]
                rfl
              rw [hd1] at st
              refine ⟨_, rfl, _, rfl, z, _, c, rfl, rfl, hl, atI_nat hg, rfl, _, rfl, ?_⟩
              rw [eq_blank]
              by_cases h32 : c = 32
              · subst h32
                refine ite2 (fun n => absurd n (by decide)) (fun _ => ?_)
                rw [show isGap 32 = true by decide +kernel, if_pos rfl, List.nil_append] at st
                exact ⟨ts, rfl, hT, by rw [← st]; exact hR, by omega, s1⟩
              · refine ite2 (fun _ => ?_) (fun n => absurd (by rw [decide_eq_false h32]; rfl) n)
                refine ⟨_, rfl, _, rfl, z, _, c, rfl, rfl, hl, atI_nat hg, rfl, _, rfl, ?_⟩
                rw [eq_feed]
                by_cases h10 : c = 10
                · subst h10
                  refine ite2 (fun n => absurd n (by decide)) (fun _ => ?_)
                  rw [show isGap 10 = true by decide +kernel, if_pos rfl, List.nil_append] at st
                  exact ⟨ts, rfl, hT, by rw [← st]; exact hR, by omega, s1⟩
                · refine ite2 (fun _ => ?_) (fun n => absurd (by rw [decide_eq_false h10]; rfl) n)
                  rw [gap_not h32 h10, if_neg Bool.false_ne_true] at st
                  refine ⟨_, rfl, .inl ⟨rfl, _, SqL.of hT⟩, _, rfl, _, rfl, z, _, c, rfl, rfl, hl, atI_nat hg, L, _, _, rfl, rfl, hT, ?_, ?_⟩
                  · rw [List.length_map]
                    exact Nat.lt_of_lt_of_le (show ts.length < 100000 by omega) (by decide)
                  · refine ⟨ts ++ [⟨#[c]⟩], rfl, ?_, ?_, ?_, same_mut s1 hL⟩
                    · rw [List.map_append]
                      exact upd_same
                    · rw [List.append_assoc]
                      rw [st] at hR
                      exact hR
                    · rw [List.length_append, List.length_singleton]
                      omega
          · rintro σ3 H3 ⟨ts2, rfl, h1, h2, h3, h4⟩
            refine ⟨_, rfl, _, rfl, _, _, rfl, rfl, _, _, rfl, ?_⟩
            have e2 : (if (a : Int) + 1 > ((a + j : Nat) : Int) then (a : Int) + 1 else ((a + j : Nat) : Int)) = ((a + M : Nat) : Int) := by
              split <;> omega
            rw [e2]
            exact ⟨ts2, _, rfl, h1, h2, h3, h4⟩
    · refine ite2 (fun n => absurd (of_decide_eq_true n) (by omega)) (fun _ => ?_)
      rw [rest_end z (by omega), List.append_nil] at hR
      subst hR
      exact ⟨_, rfl, q _ L s1 hT⟩
theorem ok__law_rare (T : Txt K mg) (D__law_draw : Kept P w K mg base 1 "_law_draw" ["d", "many"] spDraw) {f : Addr} {fd : FuncData} (F : FnP K "_law_rare" s__law_rare f fd) : FnOk P w K mg base CX0 2 f fd ["d", "many"] spRare := by
  refine F.ok sc__law_rare (fun vs H Q E h => ?_) (fun cdv A outer s H vs Q E hr h => ?_)
  · obtain ⟨S, D, m, rfl, _⟩ := h
    rfl
  · obtain ⟨S, D, m, rfl, m0, m1, d, q⟩ := h
    refine ⟨_, PSs.nox (pss_one (ps_ret (pe_cmpR op_eq (pe_d D__law_draw (hr.mono (by decide)) (by rfl) (pa_cons (pv 0) (pa_cons (pv 1) pa_nil))) (pe_op op_fdivW (pv 1) pe_int) (nomark _)))), ?_⟩
    exact ⟨_, rfl, _, rfl, S, D, m, rfl, divW_of m0 (by omega), d, fun H1 v _ _ g => ⟨_, rfl, _, _, rfl, rfl, ⟨by decide, by decide⟩, rfl, q H1 _ g⟩⟩
theorem ok__law_small (T : Txt K mg) (D__law_draw : Kept P w K mg base 1 "_law_draw" ["d", "many"] spDraw) (D__law_rare : Kept P w K mg base 2 "_law_rare" ["d", "many"] spRare) {f : Addr} {fd : FuncData} (F : FnP K "_law_small" s__law_small f fd) : FnOk P w K mg base CX0 3 f fd ["d", "most"] spSmall := by
  refine F.ok sc__law_small (fun vs H Q E h => ?_) (fun cdv A outer s H vs Q E hr h => ?_)
  · obtain ⟨S, D, m, rfl, _⟩ := h
    rfl
  · obtain ⟨S, D, m, rfl, m0, m1, d, q⟩ := h
    refine ⟨_, PSs.nox (pss_cons (ps_if (pt_val (pe_d D__law_rare (hr.mono (by decide)) (by rfl) (pa_cons (pv 0) (pa_cons pe_int pa_nil)))) (pss_one (ps_ret (pe_op op_add pe_int (pe_d D__law_draw (hr.mono (by decide)) (by rfl) (pa_cons (pv 0) (pa_cons (pv 1) pa_nil)))))) pss_nil)
      (pss_one (ps_ret (pe_op op_add pe_int (pe_d D__law_draw (hr.mono (by decide)) (by rfl) (pa_cons (pv 0) (pa_cons (pe_callB (call_min2 rfl) (by rfl) T.b_min (by decide +kernel) (pa_cons pe_int (pa_cons (pv 1) pa_nil))) pa_nil))))))), ?_⟩
    refine ⟨_, rfl, S, D, 9, rfl, by decide, by decide, d, fun H1 b g1 => ⟨b, rfl, ?_⟩⟩
    cases b with
    | true => exact ⟨_, rfl, _, rfl, S, D, m, rfl, divW_of m0 (by omega), g1.1, fun H2 v v0 v1 g2 => ⟨_, _, rfl, rfl, q H2 _ (by omega) (by omega) (g1.trans g2)⟩⟩
    | false =>
      refine ⟨_, rfl, _, rfl, _, _, rfl, S, D, _, rfl, divW_of ?_ ?_, g1.1, fun H2 v v0 v1 g2 => ⟨_, _, rfl, rfl, q H2 _ (by omega) ?_ (g1.trans g2)⟩⟩
      · split <;> omega
      · split <;> omega
      · split at v1 <;> omega
theorem ok__law_piece (T : Txt K mg) (D__law_draw : Kept P w K mg base 1 "_law_draw" ["d", "many"] spDraw) (D__law_pick : Kept P w K mg base 2 "_law_pick" ["d", "row"] (spPick K)) (D__law_small : Kept P w K mg base 3 "_law_small" ["d", "most"] spSmall) (D__law_signs : Kept P w K mg base 1 "_law_signs" [] spSigns) {f : Addr} {fd : FuncData} (F : FnP K "_law_piece" s__law_piece f fd) : FnOk P w K mg base CX0 4 f fd ["d"] spPiece := by
  refine F.ok sc__law_piece (fun vs H Q E h => ?_) (fun cdv A outer s H vs Q E hr h => ?_)
  · obtain ⟨S, D, rfl, _⟩ := h
    rfl
  · obtain ⟨S, D, rfl, d, q⟩ := h
    refine ⟨_, PSs.nox (pss_cons (ps_set (i := 1) sc__law_piece.nd rfl (Or.inl rfl) (pe_d D__law_draw (hr.mono (by decide)) (by rfl) (pa_cons (pv 0) (pa_cons pe_int pa_nil))))
      (pss_cons (ps_if (pt_cmpR op_eq (pv 1) pe_int (nomark _)) (pss_one (ps_ret (pe_d D__law_pick (hr.mono (by decide)) (by rfl) (pa_cons (pv 0) (pa_cons (pe_lst (pa_cons pe_str (pa_cons pe_str (pa_cons pe_str (pa_cons pe_str pa_nil))))) pa_nil))))) pss_nil)
      (pss_cons (ps_if (pt_cmpR op_eq (pv 1) pe_int (nomark _)) (pss_one (ps_ret (pe_d D__law_pick (hr.mono (by decide)) (by rfl) (pa_cons (pv 0) (pa_cons (pe_lst (pa_cons pe_str (pa_cons pe_str (pa_cons pe_str (pa_cons pe_str (pa_cons pe_str pa_nil)))))) pa_nil))))) pss_nil)
      (pss_cons (ps_if (pt_cmpR op_eq (pv 1) pe_int (nomark _)) (pss_one (ps_ret (pe_d D__law_pick (hr.mono (by decide)) (by rfl) (pa_cons (pv 0) (pa_cons (pe_d0 D__law_signs (hr.mono (by decide)) (by rfl)) pa_nil))))) pss_nil)
      (pss_cons (ps_set (i := 2) sc__law_piece.nd rfl (Or.inl rfl) (pe_lst (pa_cons pe_str (pa_cons pe_str (pa_cons pe_str (pa_cons pe_str pa_nil))))))
      (pss_cons (ps_set (i := 3) sc__law_piece.nd rfl (Or.inl rfl) (pe_d D__law_pick (hr.mono (by decide)) (by rfl) (pa_cons (pv 0) (pa_cons (pv 2) pa_nil))))
      (pss_cons (ps_set (i := 4) sc__law_piece.nd rfl (Or.inl rfl) pe_str)
      (pss_cons (ps_for PassesOwn.never rfl (pi_range1 (by rfl) T.b_range (pa_cons (pe_d D__law_small (hr.mono (by decide)) (by rfl) (pa_cons (pv 0) (pa_cons pe_int pa_nil))) pa_nil)) (pg_name (i := 5) sc__law_piece.nd rfl (Or.inl rfl)) (pss_one (ps_set (i := 4) sc__law_piece.nd rfl (Or.inl rfl) (pe_op op_add_str (pv 4) (pe_d D__law_pick (hr.mono (by decide)) (by rfl) (pa_cons (pv 0) (pa_cons (pv 3) pa_nil)))))))
      (pss_one (ps_ret (pv 4))))))))))), ?_⟩
    refine ⟨_, rfl, S, D, 6, rfl, divW_of (by decide) (by decide), d, fun H1 way _ _ g1 => ?_⟩
    refine ⟨_, rfl, rfl, _, rfl, ?_⟩
    refine ite2 (fun _ => ?_) (fun _ => ?_)
    · refine ⟨_, rfl, by show 4 ≤ sizeLine; decide, fun p hp => ?_⟩
      have g2 := Go.new (o := .lst [.str "{", .str "}", .str ",", .str ";"]) g1.1 hp
      refine ⟨S, D, _, _, rfl, g2.1, fun H' gg => .inr ⟨p, rfl, SqL.of (gg.2 _ _ upd_same (g1.1.free hp).1)⟩, by decide, by decide, fun H3 x hx g3 => ?_⟩
      obtain ⟨y, rfl, hy⟩ := short_of (n := 12) (ss := ["{", "}", ",", ";"]) (by decide +kernel) hx
      exact q H3 y hy ((g1.trans g2).trans g3)
    · refine ⟨_, rfl, rfl, _, rfl, ?_⟩
      refine ite2 (fun _ => ?_) (fun _ => ?_)
      · refine ⟨_, rfl, by show 5 ≤ sizeLine; decide, fun p hp => ?_⟩
        have g2 := Go.new (o := .lst [.str " ", .str "\n", .str "  ", .str "\n\n", .str " \n "]) g1.1 hp
        refine ⟨S, D, _, _, rfl, g2.1, fun H' gg => .inr ⟨p, rfl, SqL.of (gg.2 _ _ upd_same (g1.1.free hp).1)⟩, by decide, by decide, fun H3 x hx g3 => ?_⟩
        obtain ⟨y, rfl, hy⟩ := short_of (n := 12) (ss := [" ", "\n", "  ", "\n\n", " \n "]) (by decide +kernel) hx
        exact q H3 y hy ((g1.trans g2).trans g3)
      · refine ⟨_, rfl, rfl, _, rfl, ?_⟩
        refine ite2 (fun _ => ?_) (fun _ => ?_)
        · refine ⟨_, rfl, rfl, S, D, _, _, rfl, g1.1, fun H' _ => row_str SIGNS, by decide +kernel, by decide +kernel, fun H2 x hx g2 => ?_⟩
          obtain ⟨c, rfl⟩ := sign_of hx
          exact q H2 _ (by rw [len_one]; decide) (g1.trans g2)
        · refine ⟨by show 4 ≤ sizeLine; decide, fun p hp => ?_⟩
          have g2 := Go.new (o := .lst [.str "abcxyz", .str "0123456789", .str "ABCXYZ", .str ALLz]) g1.1 hp
          refine ⟨_, rfl, _, rfl, S, D, _, _, rfl, g2.1, fun H' gg => .inr ⟨p, rfl, SqL.of (gg.2 _ _ upd_same (g1.1.free hp).1)⟩, by decide, by decide, fun H3 x hx g3 => ?_⟩
          obtain ⟨sg, rfl, hy⟩ := sized_of (ss := ["abcxyz", "0123456789", "ABCXYZ", ALLz]) (by decide +kernel) hx
          have g03 := (g1.trans g2).trans g3
          refine ⟨_, rfl, S, D, 12, rfl, by decide, by decide, g03.1, fun H4 n n0 n1 g4 => ?_⟩
          have g04 := g03.trans g4
          refine ⟨_, rfl, by omega, by omega, for_range (lo := 0) (n := n.toNat) (fun i σ H' => ∃ (z : Str) (k : Option V), σ = [some (.ref D), some (.int way), some (.ref p), some (.str sg), some (.str z), k] ∧ z.length = i ∧ Go S D H H') ⟨_, _, rfl, rfl, g04⟩ ?_ ?_⟩
          · rintro i σ H5 hi ⟨z, k, rfl, hz, g⟩
            refine ⟨_, rfl, _, rfl, _, rfl, S, D, _, _, rfl, g.1, fun H' _ => row_str sg, hy.1, hy.2, fun H6 x hx g6 => ?_⟩
            obtain ⟨c, rfl⟩ := sign_of hx
            refine ⟨_, _, rfl, rfl, ?_, _, _, rfl, ?_, g.trans g6⟩
            · rw [hz, len_one]
              exact line5 (by omega)
            · rw [PySem.Str.length_append, hz, len_one]
          · rintro σ H5 ⟨z, k, rfl, hz, g⟩
            exact ⟨_, rfl, q H5 z (by omega) g⟩
theorem ok__law_passage (T : Txt K mg) (D__law_draw : Kept P w K mg base 1 "_law_draw" ["d", "many"] spDraw) (D__law_rare : Kept P w K mg base 2 "_law_rare" ["d", "many"] spRare) (D__law_raw : Kept P w K mg base 3 "_law_raw" ["d", "size"] spRaw) (D__law_piece : Kept P w K mg base 4 "_law_piece" ["d"] spPiece) {f : Addr} {fd : FuncData} (F : FnP K "_law_passage" s__law_passage f fd) : FnOk P w K mg base CX0 5 f fd ["d"] spPassage := by
  refine F.ok sc__law_passage (fun vs H Q E h => ?_) (fun cdv A outer s H vs Q E hr h => ?_)
  · obtain ⟨S, D, rfl, _⟩ := h
    rfl
  · obtain ⟨S, D, rfl, d, q⟩ := h
    refine ⟨_, PSs.nox (Evl.pss_cut (ps_if (pt_cmpR op_eq (pe_d D__law_draw (hr.mono (by decide)) (by rfl) (pa_cons (pv 0) (pa_cons pe_int pa_nil))) pe_int (nomark _)) (pss_cons (ps_set (i := 1) sc__law_passage.nd rfl (Or.inl rfl) (pe_d D__law_draw (hr.mono (by decide)) (by rfl) (pa_cons (pv 0) (pa_cons pe_int pa_nil))))
      (Evl.pss_cut (ps_if (pt_val (pe_d D__law_rare (hr.mono (by decide)) (by rfl) (pa_cons (pv 0) (pa_cons pe_int pa_nil)))) (pss_one (ps_set (i := 1) sc__law_passage.nd rfl (Or.inl rfl) (pe_op op_add (pv 1) pe_int))) pss_nil)
      (pss_one (ps_set (i := 2) sc__law_passage.nd rfl (Or.inl rfl) (pe_d D__law_raw (hr.mono (by decide)) (by rfl) (pa_cons (pv 0) (pa_cons (pv 1) pa_nil))))))) (pss_cons (ps_set (i := 2) sc__law_passage.nd rfl (Or.inl rfl) pe_str)
      (pss_one (ps_for PassesOwn.never rfl (pi_range1 (by rfl) T.b_range (pa_cons (pe_d D__law_draw (hr.mono (by decide)) (by rfl) (pa_cons (pv 0) (pa_cons pe_int pa_nil))) pa_nil)) (pg_name (i := 3) sc__law_passage.nd rfl (Or.inl rfl)) (pss_one (ps_set (i := 2) sc__law_passage.nd rfl (Or.inl rfl) (pe_op op_add_str (pv 2) (pe_d D__law_piece (hr.mono (by decide)) (by rfl) (pa_cons (pv 0) pa_nil)))))))))
      (pss_cons (ps_set (i := 4) sc__law_passage.nd rfl (Or.inl rfl) (pe_split (pv 2) pe_str))
      (pss_one (ps_ret (pe_op op_add_str (pe_join pe_str (pe_slice sl_list (pv 4) po_none (po_some pe_int))) (pe_join pe_str (pe_slice sl_list (pv 4) (po_some pe_int) po_none))))))), ?_⟩
    refine ⟨fun σ H' => ∃ (y1 y3 : Option V) (z : Str), σ = [some (.ref D), y1, some (.str z), y3, none] ∧ z.length ≤ 500 ∧ Go S D H H', ?_, ?_⟩
    · refine ⟨_, rfl, S, D, 3, rfl, divW_of (by decide) (by decide), d, fun H1 v0 _ _ g1 => ⟨rfl, _, rfl, ?_⟩⟩
      refine ite2 (fun _ => ?_) (fun _ => ?_)
      · refine ⟨_, rfl, S, D, 61, rfl, divW_of (by decide) (by decide), g1.1, fun H2 n n0 n1 g2 => ?_⟩
        refine ⟨fun σ H' => ∃ m : Int, σ = [some (.ref D), some (.int m), none, none, none] ∧ 0 ≤ m ∧ m ≤ 500 ∧ Go S D H H', ?_, ?_⟩
        · refine ⟨_, rfl, S, D, 9, rfl, by decide, by decide, g2.1, fun H3 b g3 => ⟨b, rfl, ?_⟩⟩
          cases b with
          | true => exact ⟨_, rfl, _, _, rfl, rfl, _, rfl, by omega, by omega, (g1.trans g2).trans g3⟩
          | false => exact ⟨_, rfl, by omega, by omega, (g1.trans g2).trans g3⟩
        · rintro σ H3 ⟨m, rfl, m0, m1, g3⟩
          refine ⟨_, rfl, _, rfl, S, D, m, rfl, m0, m1, g3.1, fun H4 z hz g4 => ⟨_, _, _, rfl, by omega, g3.trans g4⟩⟩
      · refine ⟨_, rfl, S, D, 30, rfl, divW_of (by decide) (by decide), g1.1, fun H2 n n0 n1 g2 => ⟨_, rfl, by omega, by omega, for_range (lo := 0) (n := n.toNat) (fun i σ H' => ∃ (z : Str) (k : Option V), σ = [some (.ref D), none, some (.str z), k, none] ∧ z.length ≤ 12 * i ∧ Go S D H H') ⟨_, _, rfl, Nat.le_refl _, g1.trans g2⟩ ?_ ?_⟩⟩
        · rintro i σ H3 hi ⟨z, k, rfl, hz, g⟩
          refine ⟨_, rfl, _, rfl, S, D, rfl, g.1, fun H4 y hy g4 => ⟨_, _, rfl, rfl, line5 (by omega), _, _, rfl, ?_, g.trans g4⟩⟩
          rw [PySem.Str.length_append]
          omega
        · rintro σ H3 ⟨z, k, rfl, hz, g⟩
          exact ⟨_, _, z, rfl, by omega, g⟩
    · rintro σ H1 ⟨y1, y3, z, rfl, hz, g⟩
      have sl := split_len z
      have hc : (Txt.split z "{").length ≤ z.length + 1 := by omega
      refine ⟨_, rfl, ⟨_, rfl⟩, _, _, rfl, rfl, by decide +kernel, line5 (by omega), fun p hp => ?_⟩
      have g2 := Go.new (o := .lst ((Txt.split z "{").map V.str)) g.1 hp
      have np := (g.1.free hp).1
      generalize Txt.split z "{" = ys at sl hc g2
      -- '{'.join(parts[:11])
      refine ⟨⟨_, rfl⟩, _, rfl, 11, rfl, p, _, rfl, SqL.of upd_same, fun p2 hp2 => ?_⟩
      have g3 := Go.new (o := .lst (cutV (ys.map V.str) none (some 11))) g2.1 hp2
      have e1 : cutV (ys.map V.str) none (some 11) = (ys.take 11).map V.str := by rw [cut_11, List.map_take]
      have b1 := sum_take (ys.map (·.length)) 11
      refine ⟨_, p2, ys.take 11, rfl, rfl, .inl (by rw [← e1]; exact SqL.of upd_same), ?_, ?_⟩
      · rw [List.map_take, List.length_take, show ("{" : Str).length = 1 by decide +kernel]
        omega
      have j1 := join_len "{" (ys.take 11)
      rw [List.map_take, List.length_take, show ("{" : Str).length = 1 by decide +kernel] at j1
      generalize Txt.join "{" (ys.take 11) = z1 at j1
      refine ⟨⟨_, rfl⟩, _, rfl, 11, rfl, p, _, rfl, SqL.of (by rw [upd_ne (ne_of_none upd_same hp2)]; exact upd_same), fun p3 hp3 => ?_⟩
      have g4 := Go.new (o := .lst (cutV (ys.map V.str) (some 11) none)) g3.1 hp3
      have e2 : cutV (ys.map V.str) (some 11) none = (ys.drop 11).map V.str := by rw [cut_from, List.map_drop]
      have b2 := sum_drop (ys.map (·.length)) 11
      refine ⟨_, p3, ys.drop 11, rfl, rfl, .inl (by rw [← e2]; exact SqL.of upd_same), ?_, ?_⟩
      · rw [List.map_drop, List.length_drop, show ("" : Str).length = 0 by decide +kernel]
        omega
      have j2 := join_len "" (ys.drop 11)
      rw [List.map_drop, List.length_drop, show ("" : Str).length = 0 by decide +kernel] at j2
      generalize Txt.join "" (ys.drop 11) = z2 at j2
      refine ⟨_, _, rfl, rfl, line5 (by omega), q _ _ ?_ (((g.trans g2).trans g3).trans g4)⟩
      rw [PySem.Str.length_append]
      omega
theorem ok__law_right (T : Txt K mg) {f : Addr} {fd : FuncData} (F : FnP K "_law_right" s__law_right f fd) : FnOk P w K mg base CX0 1 f fd ["told", "due"] spRight := by
  refine F.ok sc__law_right (fun vs H Q E h => ?_) (fun cdv A outer s H vs Q E hr h => ?_)
  · obtain ⟨p, p2, ts, rfl, _⟩ := h
    rfl
  · obtain ⟨p, p2, ts, rfl, hp, hq, hl, q⟩ := h
    refine ⟨_, PSs.nox (pss_cons (ps_if (PW.pt (pw_or (pt_not (pt_val (pe_callB call_isi (by rfl) T.b_isinstance (by decide +kernel) (pa_cons (pv 0) (pa_cons (pe_bltn (v := .ty "tuple") (u := .type "tuple") (by rfl) T.b_tuple (by decide +kernel) rfl) pa_nil))))) (pw_or1 (pt_cmpR op_ne (pe_callB call_len (by rfl) T.b_len (by decide +kernel) (pa_cons (pv 0) pa_nil)) (pe_callB call_len (by rfl) T.b_len (by decide +kernel) (pa_cons (pv 1) pa_nil)) (nomark _))))) (pss_one (ps_ret pe_bl)) pss_nil)
      (pss_cons (ps_for PassesOwn.never rfl (pi_range1 (by rfl) T.b_range (pa_cons (pe_callB call_len (by rfl) T.b_len (by decide +kernel) (pa_cons (pv 1) pa_nil)) pa_nil)) (pg_name (i := 2) sc__law_right.nd rfl (Or.inl rfl)) (pss_one (ps_if (PW.pt (pw_or (pt_not (pt_val (pe_callB call_isi (by rfl) T.b_isinstance (by decide +kernel) (pa_cons (pe_ix ix_tup (pv 0) (pv 2) (fun _ _ => rfl)) (pa_cons (pe_bltn (v := .ty "str") (u := .type "str") (by rfl) T.b_str (by decide +kernel) rfl) pa_nil))))) (pw_or1 (pt_cmpR op_ne (pe_ix ix_tup (pv 0) (pv 2) (fun _ _ => rfl)) (pe_ix ix_list (pv 1) (pv 2) (fun _ _ => rfl)) (nomark _))))) (pss_one (ps_ret pe_bl)) pss_nil)))
      (pss_one (ps_ret pe_bl)))), ?_⟩
    refine ⟨_, rfl, _, .ty "tuple", .type "tuple", .type "tuple", true, rfl, .ty _, .base (.tup hp), kit_ty (by decide +kernel), true, rfl, ?_⟩
    refine iteNT ?_
    refine ⟨_, rfl, _, _, rfl, .inr ⟨_, SqT.of hp, rfl⟩, _, rfl, _, _, rfl, .inl ⟨_, SqL.of hq, rfl⟩, rfl, _, rfl, ?_⟩
    refine iteNS rfl ?_
    refine ⟨_, rfl, _, _, rfl, .inl ⟨_, SqL.of hq, rfl⟩, _, rfl, by omega, by rw [List.length_map]; omega, for_range (lo := 0) (n := (((ts.map V.str).length : Nat) : Int).toNat) (fun i σ H' => ∃ k : Option V, σ = [some (.ref p), some (.ref p2), k] ∧ H' = H) ⟨_, rfl, rfl⟩ ?_ ?_⟩
    · rintro i σ H' hi ⟨k, rfl, rfl⟩
      rw [Int.toNat_natCast, List.length_map] at hi
      have hg : (ts.map V.str)[i]? = some (.str ts[i]) := by
        rw [List.getElem?_map, List.getElem?_eq_getElem hi]
        rfl
      have ha : atI (ts.map V.str) ((0 : Int) + (i : Int)) = some (.str ts[i]) := by
        rw [Int.zero_add]
        exact atI_nat hg
      refine ⟨_, rfl, _, rfl, p, _, _, _, rfl, rfl, SqT.of hp, ha, _, .ty "str", .type "str", .type "str", true, rfl, .ty _, .base (.str _), kit_ty (by decide +kernel), true, rfl, ?_⟩
      refine iteNT ?_
      refine ⟨_, rfl, _, rfl, p, _, _, _, rfl, rfl, SqT.of hp, ha, _, rfl, _, rfl, p2, _, _, _, rfl, rfl, SqL.of hq, ha, rfl, _, rfl, ?_⟩
      refine iteNS rfl ?_
      exact ⟨_, rfl, rfl⟩
    · rintro σ H' ⟨k, rfl, rfl⟩
      exact q
theorem ok_law (T : Txt K mg) (D_tokens_of : Kept P w K mg base 3 "tokens_of" ["text"] spToks) (D__law_begin : Kept P w K mg base 1 "_law_begin" ["script"] (spBegin K)) (D__law_pick : Kept P w K mg base 2 "_law_pick" ["d", "row"] (spPick K)) (D__law_passage : Kept P w K mg base 5 "_law_passage" ["d"] spPassage) (D__law_tokens_of : Kept P w K mg base 2 "_law_tokens_of" ["text"] spToksL) (D__law_right : Kept P w K mg base 1 "_law_right" ["told", "due"] spRight) {f : Addr} {fd : FuncData} (F : FnP K "law" s_law f fd) : FnOk P w K mg base CX0 6 f fd ["script"] (spLaw K) := by
  refine F.ok sc_law (fun vs H Q E h => ?_) (fun cdv A outer s H vs Q E hr h => ?_)
  · obtain ⟨a, ns, rfl, _⟩ := h
    rfl
  · obtain ⟨a, ns, rfl, hS, hlen, q⟩ := h
    refine ⟨_, PSs.nox (pss_cons (ps_set (i := 1) sc_law.nd rfl (Or.inl rfl) (pe_d D__law_begin (hr.mono (by decide)) (by rfl) (pa_cons (pv 0) pa_nil)))
      (pss_cons (ps_set (i := 2) sc_law.nd rfl (Or.inl rfl) (pe_d D__law_passage (hr.mono (by decide)) (by rfl) (pa_cons (pv 1) pa_nil)))
      (pss_cons (ps_set (i := 3) sc_law.nd rfl (Or.inl rfl) (pe_d D__law_passage (hr.mono (by decide)) (by rfl) (pa_cons (pv 1) pa_nil)))
      (pss_cons (ps_set (i := 4) sc_law.nd rfl (Or.inl rfl) (pe_op op_add_str (pe_op op_add_str (pv 2) (pe_d D__law_pick (hr.mono (by decide)) (by rfl) (pa_cons (pv 1) (pa_cons (pe_lst (pa_cons pe_str (pa_cons pe_str (pa_cons pe_str (pa_cons pe_str pa_nil))))) pa_nil)))) (pv 3)))
      (pss_cons (ps_set (i := 5) sc_law.nd rfl (Or.inl rfl) (pe_d D__law_tokens_of (hr.mono (by decide)) (by rfl) (pa_cons (pv 2) pa_nil)))
      (pss_cons (ps_if (pt_not (pt_val (pe_d D__law_right (hr.mono (by decide)) (by rfl) (pa_cons (pe_d D_tokens_of (hr.mono (by decide)) (by rfl) (pa_cons (pv 2) pa_nil)) (pa_cons (pv 5) pa_nil))))) (pss_one (ps_ret pe_bl)) pss_nil)
      (pss_cons (ps_if (pt_not (pt_val (pe_d D__law_right (hr.mono (by decide)) (by rfl) (pa_cons (pe_d D_tokens_of (hr.mono (by decide)) (by rfl) (pa_cons (pv 3) pa_nil)) (pa_cons (pe_d D__law_tokens_of (hr.mono (by decide)) (by rfl) (pa_cons (pv 3) pa_nil)) pa_nil))))) (pss_one (ps_ret pe_bl)) pss_nil)
      (pss_cons (ps_if (pt_not (pt_val (pe_d D__law_right (hr.mono (by decide)) (by rfl) (pa_cons (pe_d D_tokens_of (hr.mono (by decide)) (by rfl) (pa_cons (pv 4) pa_nil)) (pa_cons (pe_d D__law_tokens_of (hr.mono (by decide)) (by rfl) (pa_cons (pv 4) pa_nil)) pa_nil))))) (pss_one (ps_ret pe_bl)) pss_nil)
      (pss_one (ps_ret (pe_d D__law_right (hr.mono (by decide)) (by rfl) (pa_cons (pe_d D_tokens_of (hr.mono (by decide)) (by rfl) (pa_cons (pv 2) pa_nil)) (pa_cons (pv 5) pa_nil))))))))))))), ?_⟩
    refine ⟨_, rfl, a, ns, rfl, hS, hlen, fun S D H1 s1 fD d => ?_⟩
    refine ⟨_, rfl, S, D, rfl, d, fun H2 z1 hz1 g2 => ?_⟩
    refine ⟨_, rfl, S, D, rfl, g2.1, fun H3 z2 hz2 g3 => ?_⟩
    refine ⟨_, rfl, _, rfl, by show 4 ≤ sizeLine; decide, fun p hp => ?_⟩
    have g4 := Go.new (o := .lst [.str "", .str " ", .str "\n", .str ";"]) g3.1 hp
    refine ⟨S, D, _, _, rfl, g4.1, fun H' gg => .inr ⟨p, rfl, SqL.of (gg.2 _ _ upd_same (g3.1.free hp).1)⟩, by decide, by decide, fun H5 x hx g5 => ?_⟩
    obtain ⟨y, rfl, hy⟩ := short_of (n := 12) (ss := ["", " ", "\n", ";"]) (by decide +kernel) hx
    refine ⟨_, _, rfl, rfl, line5 (by omega), _, rfl, _, _, rfl, rfl, line5 (by rw [PySem.Str.length_append]; omega), ?_⟩
    have hw : (z1 ++ y ++ z2).length ≤ 50000 := by
      rw [PySem.Str.length_append, PySem.Str.length_append]
      omega
    have tl : ∀ z : Str, z.length ≤ 50000 → (toks z).length ≤ 50000 := fun z h => Nat.le_trans (tk_len _ _) h
    refine ⟨_, rfl, z1, rfl, by omega, fun H6 p1 s6 h6 => ?_⟩
    refine ⟨_, rfl, z1, rfl, by omega, fun H7 p2 s7 h7 => ⟨_, rfl, p2, p1, toks z1, rfl, h7, s7 _ _ h6, tl z1 (by omega), true, rfl, ?_⟩⟩
    refine iteNT ?_
    refine ⟨_, rfl, z2, rfl, by omega, fun H8 p3 s8 h8 => ⟨_, rfl, z2, rfl, by omega, fun H9 p4 s9 h9 => ⟨p3, p4, toks z2, rfl, s9 _ _ h8, h9, tl z2 (by omega), true, rfl, ?_⟩⟩⟩
    refine iteNT ?_
    refine ⟨_, rfl, _, rfl, hw, fun H10 p5 s10 h10 => ⟨_, rfl, _, rfl, hw, fun H11 p6 s11 h11 => ⟨p5, p6, _, rfl, s11 _ _ h10, h11, tl _ hw, true, rfl, ?_⟩⟩⟩
    refine iteNT ?_
    refine ⟨_, rfl, z1, rfl, by omega, fun H12 p7 s12 h12 => ⟨_, rfl, p7, p1, toks z1, rfl, h12, s12 _ _ (s11 _ _ (s10 _ _ (s9 _ _ (s8 _ _ (s7 _ _ h6))))), tl z1 (by omega), q H12⟩⟩
end
end Mt
namespace Mt
open PySem PySem.Spec PyProof.Rows L2
def dd_tokens_of : He.DefD := ⟨("tokens_of", none), "tokens_of", "tokens_of", defArgs s_tokens_of, defBody s_tokens_of, defScope s_tokens_of, [], []⟩
def dd_end_of_token : He.DefD := ⟨("end_of_token", none), "end_of_token", "end_of_token", defArgs s_end_of_token, defBody s_end_of_token, defScope s_end_of_token, [], []⟩
def dd_is_of_run : He.DefD := ⟨("is_of_run", none), "is_of_run", "is_of_run", defArgs s_is_of_run, defBody s_is_of_run, defScope s_is_of_run, [], []⟩
def dd__law_begin : He.DefD := ⟨("_law_begin", none), "_law_begin", "_law_begin", defArgs s__law_begin, defBody s__law_begin, defScope s__law_begin, [], []⟩
def dd__law_draw : He.DefD := ⟨("_law_draw", none), "_law_draw", "_law_draw", defArgs s__law_draw, defBody s__law_draw, defScope s__law_draw, [], []⟩
def dd__law_pick : He.DefD := ⟨("_law_pick", none), "_law_pick", "_law_pick", defArgs s__law_pick, defBody s__law_pick, defScope s__law_pick, [], []⟩
def dd__law_rare : He.DefD := ⟨("_law_rare", none), "_law_rare", "_law_rare", defArgs s__law_rare, defBody s__law_rare, defScope s__law_rare, [], []⟩
def dd__law_small : He.DefD := ⟨("_law_small", none), "_law_small", "_law_small", defArgs s__law_small, defBody s__law_small, defScope s__law_small, [], []⟩
def dd__law_is_run : He.DefD := ⟨("_law_is_run", none), "_law_is_run", "_law_is_run", defArgs s__law_is_run, defBody s__law_is_run, defScope s__law_is_run, [], []⟩
def dd__law_signs : He.DefD := ⟨("_law_signs", none), "_law_signs", "_law_signs", defArgs s__law_signs, defBody s__law_signs, defScope s__law_signs, [], []⟩
def dd__law_raw : He.DefD := ⟨("_law_raw", none), "_law_raw", "_law_raw", defArgs s__law_raw, defBody s__law_raw, defScope s__law_raw, [], []⟩
def dd__law_piece : He.DefD := ⟨("_law_piece", none), "_law_piece", "_law_piece", defArgs s__law_piece, defBody s__law_piece, defScope s__law_piece, [], []⟩
def dd__law_passage : He.DefD := ⟨("_law_passage", none), "_law_passage", "_law_passage", defArgs s__law_passage, defBody s__law_passage, defScope s__law_passage, [], []⟩
def dd__law_tokens_of : He.DefD := ⟨("_law_tokens_of", none), "_law_tokens_of", "_law_tokens_of", defArgs s__law_tokens_of, defBody s__law_tokens_of, defScope s__law_tokens_of, [], []⟩
def dd__law_right : He.DefD := ⟨("_law_right", none), "_law_right", "_law_right", defArgs s__law_right, defBody s__law_right, defScope s__law_right, [], []⟩
def dd_law : He.DefD := ⟨("law", none), "law", "law", defArgs s_law, defBody s_law, defScope s_law, [], []⟩
def dds : List He.DefD := [dd_tokens_of, dd_end_of_token, dd_is_of_run, dd__law_begin, dd__law_draw, dd__law_pick, dd__law_rare, dd__law_small, dd__law_is_run, dd__law_signs, dd__law_raw, dd__law_piece, dd__law_passage, dd__law_tokens_of, dd__law_right, dd_law]
def fas : List He.Fa := [.glo "tokens_of", .glo "end_of_token", .glo "is_of_run", .glo "_law_begin", .glo "_law_draw", .glo "_law_pick", .glo "_law_rare", .glo "_law_small", .glo "_law_is_run", .glo "_law_signs", .glo "_law_raw", .glo "_law_piece", .glo "_law_passage", .glo "_law_tokens_of", .glo "_law_right", .glo "law", .free "int", .free "len", .free "abs", .free "isinstance", .free "range", .free "tuple", .free "str", .free "min", .free "max", .str "LETTERS" LETz, .str "DIGITS" DIGz, .str "CAPITALS" CAPz]
def exM (K : PySem.W.Frag) : Bool := true
abbrev R : PySem.W.OpenRow := PySem.W.OpenLaw.row PySem.Challenge.rw_meantrace_k04_tokens
abbrev hk : PySem.W.Hook := hookM 4 fas dds exM
def ob (s : PySem.W.SharedT) : AlM := obsM 4 fas dds exM (HandSHeadRun.getT s)
theorem ob_eq (s : PySem.W.SharedT) : ob s = hk.obs s.abs := obsM_eq (HandSHeadRun.getT_eq s)
def names : List PySem.Str := ["LETTERS", "DIGITS", "CAPITALS", "tokens_of", "end_of_token", "is_of_run", "_law_begin", "_law_draw", "_law_pick", "_law_rare", "_law_small", "_law_is_run", "_law_signs", "_law_raw", "_law_piece", "_law_passage", "_law_tokens_of", "_law_right"]
theorem run (w : World) : HandSHeadRun.RunEq R (PySem.W.view R.prog [20]) hk ob 3000 names w := by
  intro os; kernel_rfl
theorem facts {P : Program} {w : World} {K : PySem.W.Frag} {h : Heap} {mg : Str → Option Value} {f : Addr} (X : K.In h) (G : h.Ns mainGlobals mg) (hfa : mg ("law" : Str) = some (.ref f)) (c : SaysM fas dds exM K) :
    ∃ fd : FuncData, (∀ (s : Shared) (v : Value), BindsTo s fd ⟨[v], []⟩ [("script", v)]) ∧ ∀ base : Heap, K.In base → base.Ns mainGlobals mg → FnOk P w K mg base CX0 6 f fd ["script"] (spLaw K) := by
  obtain ⟨fd, F⟩ := c.1.def_ 15 (d := dd_law) rfl
  have e := hfa.symm.trans (He.glo_ok X G (c.1.fact 15 (f := .glo "law") rfl))
  cases e
  have T : Txt K mg := ⟨He.free_ok X G (c.1.fact 16 (f := .free "int") rfl), He.free_ok X G (c.1.fact 17 (f := .free "len") rfl), He.free_ok X G (c.1.fact 18 (f := .free "abs") rfl), He.free_ok X G (c.1.fact 19 (f := .free "isinstance") rfl), He.free_ok X G (c.1.fact 20 (f := .free "range") rfl), He.free_ok X G (c.1.fact 21 (f := .free "tuple") rfl), He.free_ok X G (c.1.fact 22 (f := .free "str") rfl), He.free_ok X G (c.1.fact 23 (f := .free "min") rfl), He.free_ok X G (c.1.fact 24 (f := .free "max") rfl), He.str_ok X G (c.1.fact 25 (f := .str "LETTERS" LETz) rfl), He.str_ok X G (c.1.fact 26 (f := .str "DIGITS" DIGz) rfl), He.str_ok X G (c.1.fact 27 (f := .str "CAPITALS" CAPz) rfl)⟩
  have b := FunD.bindsA (ps := ["script"]) F fun _ _ _ _ _ _ us hl => match us, hl with | [_], _ => rfl
  refine ⟨fd, fun s v => b s [v] rfl, fun base _ _ => ?_⟩
  have D_is_of_run : Kept P w K mg base 1 "is_of_run" ["sign"] spRun := kept_of (st := s_is_of_run) X G (c.1.def_ 2 (d := dd_is_of_run) rfl) (c.1.fact 2 (f := .glo "is_of_run") rfl) (fun _ _ _ _ _ _ us hl => match us, hl with | [_], _ => rfl) (fun f fd F => ok_is_of_run T F)
  have D__law_begin : Kept P w K mg base 1 "_law_begin" ["script"] (spBegin K) := kept_of (st := s__law_begin) X G (c.1.def_ 3 (d := dd__law_begin) rfl) (c.1.fact 3 (f := .glo "_law_begin") rfl) (fun _ _ _ _ _ _ us hl => match us, hl with | [_], _ => rfl) (fun f fd F => ok__law_begin T F)
  have D__law_draw : Kept P w K mg base 1 "_law_draw" ["d", "many"] spDraw := kept_of (st := s__law_draw) X G (c.1.def_ 4 (d := dd__law_draw) rfl) (c.1.fact 4 (f := .glo "_law_draw") rfl) (fun _ _ _ _ _ _ us hl => match us, hl with | [_, _], _ => rfl) (fun f fd F => ok__law_draw T F)
  have D__law_is_run : Kept P w K mg base 1 "_law_is_run" ["token"] spRun := kept_of (st := s__law_is_run) X G (c.1.def_ 8 (d := dd__law_is_run) rfl) (c.1.fact 8 (f := .glo "_law_is_run") rfl) (fun _ _ _ _ _ _ us hl => match us, hl with | [_], _ => rfl) (fun f fd F => ok__law_is_run T F)
  have D__law_signs : Kept P w K mg base 1 "_law_signs" [] spSigns := kept_of (st := s__law_signs) X G (c.1.def_ 9 (d := dd__law_signs) rfl) (c.1.fact 9 (f := .glo "_law_signs") rfl) (fun _ _ _ _ _ _ us hl => match us, hl with | [], _ => rfl) (fun f fd F => ok__law_signs T F)
  have D__law_right : Kept P w K mg base 1 "_law_right" ["told", "due"] spRight := kept_of (st := s__law_right) X G (c.1.def_ 14 (d := dd__law_right) rfl) (c.1.fact 14 (f := .glo "_law_right") rfl) (fun _ _ _ _ _ _ us hl => match us, hl with | [_, _], _ => rfl) (fun f fd F => ok__law_right T F)
  have D_end_of_token : Kept P w K mg base 2 "end_of_token" ["text", "at"] spEnd := kept_of (st := s_end_of_token) X G (c.1.def_ 1 (d := dd_end_of_token) rfl) (c.1.fact 1 (f := .glo "end_of_token") rfl) (fun _ _ _ _ _ _ us hl => match us, hl with | [_, _], _ => rfl) (fun f fd F => ok_end_of_token T D_is_of_run F)
  have D__law_pick : Kept P w K mg base 2 "_law_pick" ["d", "row"] (spPick K) := kept_of (st := s__law_pick) X G (c.1.def_ 5 (d := dd__law_pick) rfl) (c.1.fact 5 (f := .glo "_law_pick") rfl) (fun _ _ _ _ _ _ us hl => match us, hl with | [_, _], _ => rfl) (fun f fd F => ok__law_pick T D__law_draw F)
  have D__law_rare : Kept P w K mg base 2 "_law_rare" ["d", "many"] spRare := kept_of (st := s__law_rare) X G (c.1.def_ 6 (d := dd__law_rare) rfl) (c.1.fact 6 (f := .glo "_law_rare") rfl) (fun _ _ _ _ _ _ us hl => match us, hl with | [_, _], _ => rfl) (fun f fd F => ok__law_rare T D__law_draw F)
  have D__law_tokens_of : Kept P w K mg base 2 "_law_tokens_of" ["text"] spToksL := kept_of (st := s__law_tokens_of) X G (c.1.def_ 13 (d := dd__law_tokens_of) rfl) (c.1.fact 13 (f := .glo "_law_tokens_of") rfl) (fun _ _ _ _ _ _ us hl => match us, hl with | [_], _ => rfl) (fun f fd F => ok__law_tokens_of T D__law_is_run F)
  have D_tokens_of : Kept P w K mg base 3 "tokens_of" ["text"] spToks := kept_of (st := s_tokens_of) X G (c.1.def_ 0 (d := dd_tokens_of) rfl) (c.1.fact 0 (f := .glo "tokens_of") rfl) (fun _ _ _ _ _ _ us hl => match us, hl with | [_], _ => rfl) (fun f fd F => ok_tokens_of T D_end_of_token F)
  have D__law_small : Kept P w K mg base 3 "_law_small" ["d", "most"] spSmall := kept_of (st := s__law_small) X G (c.1.def_ 7 (d := dd__law_small) rfl) (c.1.fact 7 (f := .glo "_law_small") rfl) (fun _ _ _ _ _ _ us hl => match us, hl with | [_, _], _ => rfl) (fun f fd F => ok__law_small T D__law_draw D__law_rare F)
  have D__law_raw : Kept P w K mg base 3 "_law_raw" ["d", "size"] spRaw := kept_of (st := s__law_raw) X G (c.1.def_ 10 (d := dd__law_raw) rfl) (c.1.fact 10 (f := .glo "_law_raw") rfl) (fun _ _ _ _ _ _ us hl => match us, hl with | [_, _], _ => rfl) (fun f fd F => ok__law_raw T D__law_pick D__law_signs F)
  have D__law_piece : Kept P w K mg base 4 "_law_piece" ["d"] spPiece := kept_of (st := s__law_piece) X G (c.1.def_ 11 (d := dd__law_piece) rfl) (c.1.fact 11 (f := .glo "_law_piece") rfl) (fun _ _ _ _ _ _ us hl => match us, hl with | [_], _ => rfl) (fun f fd F => ok__law_piece T D__law_draw D__law_pick D__law_small D__law_signs F)
  have D__law_passage : Kept P w K mg base 5 "_law_passage" ["d"] spPassage := kept_of (st := s__law_passage) X G (c.1.def_ 12 (d := dd__law_passage) rfl) (c.1.fact 12 (f := .glo "_law_passage") rfl) (fun _ _ _ _ _ _ us hl => match us, hl with | [_], _ => rfl) (fun f fd F => ok__law_passage T D__law_draw D__law_rare D__law_raw D__law_piece F)
  exact ok_law T D_tokens_of D__law_begin D__law_pick D__law_passage D__law_tokens_of D__law_right F
end Mt
open PySem PySem.W PySem.Calls PyProof.Rows
set_option maxHeartbeats 0 in
theorem PySem.Challenge.cw_meantrace_k04_tokens_holds : PySem.Challenge.rw_meantrace_k04_tokens.Holds := by
  w_on; o_law
  refine HandSHeadRun.head_any (r := OpenLaw.row PySem.Challenge.rw_meantrace_k04_tokens) (q := view (OpenLaw.row PySem.Challenge.rw_meantrace_k04_tokens).prog [20]) (H := Mt.hk) (ob := Mt.ob) (M := 3000) (loose := Mt.names) (d := HandSHeadRun.topDef (OpenLaw.row PySem.Challenge.rw_meantrace_k04_tokens).prog 20) (kwd := []) Mt.ob_eq
    (by kernel_rfl) (fun s => by kernel_rfl) Mt.run (by kernel_rfl) (by kernel_rfl) (by kernel_rfl) (by rfl) (by first | assumption | decide +kernel) (by decide +kernel) ⟨rfl, rfl, rfl, rfl, rfl, by decide +kernel⟩ ?hw ?hc
  case hw => w_witness2
  case hc =>
    refine L2.walk_ofE (l := PySem.Challenge.rw_meantrace_k04_tokens) (n := 63) (k := 6) (x := "script") (CX := L2.CX0) rfl (by decide) (by kernel_rfl) ⟨rfl, by decide, by decide⟩ ?F (fun _ _ _ _ z => z)
    intro w mg fa h Y G hmg0
    obtain ⟨K, KX, c⟩ := Y
    have hmg : mg ("law" : PySem.Str) = some (.ref fa) := by
      have e : (HandSHeadRun.topDef (OpenLaw.row PySem.Challenge.rw_meantrace_k04_tokens).prog 20).name = ("law" : PySem.Str) := by kernel_rfl
      rw [← e]
      exact hmg0
    obtain ⟨fd, hb, hF⟩ := Mt.facts (P := (PySem.Challenge.rw_meantrace_k04_tokens).prog) (w := w) KX G hmg c
    exact ⟨K, fd, Mt.spLaw K, KX, hb, fun H a ns hl hO hS => ⟨a, ns, rfl, hS, hl, fun _ => rfl⟩, hF⟩
