import PyProof.Rows.All
import Wide.All
import OpenK.AllK
import Wide.FinOn
import KE.KStateDown
import HandS.ForMost
import HandS.Wide
import HandS.IsInst
import HandS.Walk
import HandS.Style
import HandS.Evl
import HandS.StrMore
import HandS.Exc
import HandS.WordsExc
import HandS.Defaults
import HandS.Head0
import HandS.Head1
import HandS.Head2
import HandS.HeadEnd
import HandS.HeadHook1
import HandS.HeadHook2
import HandS.Gcd
import HandS.Head3
import HandS.Star
import HandS.RaiseMore
import PySem.Challenge.RW_meantrace_k06_models_written
set_option Elab.async false
set_option linter.all false
set_option maxRecDepth 100000
/-! Our own words over the hand layer: defs of the top by name, the draws' state, heaps that go on. -/
namespace Mt
open PySem PySem.Spec PyProof.Rows L2
section
variable {P : Program} {w : World} {K : PySem.W.Frag} {mg : Str → Option Value} {base : Heap}
abbrev FnP (K : PySem.W.Frag) (x : Str) (st : Stmt) (f : Addr) (fd : FuncData) : Prop := FunD K x x (defArgs st) (defBody st) (defScope st) [] [] f fd
/-- a def that keeps its promise -/
def Kept (P : Program) (w : World) (K : PySem.W.Frag) (mg : Str → Option Value) (base : Heap) (k : Nat) (x : Str) (ps : List Str) (sp : Sp) : Prop :=
  ∃ f fd, FnOk P w K mg base CX0 k f fd ps sp ∧ mg x = some (.ref f) ∧ PySem.W.keepIn K (.ref f) = true ∧ Binds K fd ps []
/-- what the head tells: facts by names, defs, one more word of one's own -/
abbrev AlM : Type := He.AlD × Bool
def obsM (n : Nat) (fa : List He.Fa) (fn : List He.DefD) (ex : PySem.W.Frag → Bool) (g : Addr → Option Obj) : AlM := (He.obsDG n fa fn g, ex (He.frG g (He.asD g n)))
def SaysM (fa : List He.Fa) (fn : List He.DefD) (ex : PySem.W.Frag → Bool) (K : PySem.W.Frag) : Prop := He.SaysD fa fn K ∧ ex K = true
def hookM (n : Nat) (fa : List He.Fa) (fn : List He.DefD) (ex : PySem.W.Frag → Bool) : PySem.W.Hook where
  α := AlM
  obs := fun s => obsM n fa fn ex s.heap.get?
  val := fun _ => (He.valD fn, true)
  says := fun _ h => ∃ K : PySem.W.Frag, K.In h ∧ SaysM fa fn ex K
  of := fun _ _ e => ⟨_, He.frG_in, congrArg (fun z : AlM => z.1) e, congrArg (fun z : AlM => z.2) e⟩
  keeps := fun _ _ _ ⟨K, hK, c⟩ k => ⟨K, PySem.W.Frag.In.keeps hK k, c⟩
theorem obsM_eq {n : Nat} {fa : List He.Fa} {fn : List He.DefD} {ex : PySem.W.Frag → Bool} {g : Addr → Option Obj} {s : Shared} (h : ∀ a, g a = s.heap.get? a) : obsM n fa fn ex g = (hookM n fa fn ex).obs s := by
  have e : g = s.heap.get? := funext h
  rw [e] <;> rfl
theorem kept_of {h : Heap} (X : K.In h) (G : h.Ns mainGlobals mg) {x : Str} {ps : List Str} {st : Stmt} {k : Nat} {sp : Sp}
    (hd : ∃ fd, FnP K x st (He.ga K x) fd) (hg : (He.Fa.glo x).ok K = true)
    (hb : ∀ (kV doc pm : Value) (an : Option Addr) (cdv ct : Value) (us : List Value), us.length = ps.length → bindArgs (PySem.W.fnOf x x (defArgs st) (defBody st) (defScope st) .none kV doc pm an cdv ct) ⟨us, []⟩ = pure (ps.zip us))
    (ok : ∀ f fd, FnP K x st f fd → FnOk P w K mg base CX0 k f fd ps sp) : Kept P w K mg base k x ps sp := by
  obtain ⟨fd, F⟩ := hd
  exact ⟨_, fd, ok _ fd F, He.glo_ok X G hg, F.kp, F.bindsN hb⟩
end
section
variable {X : Cx}
theorem pe_d {k : Nat} {x : Str} {ps : List Str} {sp : Sp} {e : Expr} {es : List Expr} {t : TA} {p pos : Pos} (D : Kept X.prog X.w X.K X.mg X.base k x ps sp) (hr : Room k X.A) (hg : Gl X x) (ha : PA X (e :: es) t)
    (hdb : (x == ("__debug__" : Str)) = false := by decide) (he : starEach (e :: es) X.env = (false, eval e X.env) :: starEach es X.env := by rfl) (hpl : (backTo pos (starEach es X.env)).any (·.1) = false := by rfl) :
    PE X (.Call (.Name x p) (e :: es) [] pos) (tCall sp [] E0 t) := by
  obtain ⟨f, fd, F, g, kp, b⟩ := D
  exact pe_call F hr hg g kp b .nil pass0 ha hdb he hpl
theorem pe_d0 {k : Nat} {x : Str} {ps : List Str} {sp : Sp} {p pos : Pos} (D : Kept X.prog X.w X.K X.mg X.base k x ps sp) (hr : Room k X.A) (hg : Gl X x) (hdb : (x == ("__debug__" : Str)) = false := by decide) :
    PE X (.Call (.Name x p) [] [] pos) (tCall sp [] E0 tNil) := by
  obtain ⟨f, fd, F, g, kp, b⟩ := D
  exact pe_call0 F hr hg g kp b .nil pass0 hdb
/-- a text of the module; an object of the module -/
theorem pe_gs {x z : Str} {pos : Pos} (h : ∃ t, X.mg x = some (.str z t)) (hg : Gl X x) (hd : (x == ("__debug__" : Str)) = false := by decide) : PE X (.Name x pos) (tC (.str z)) := by
  obtain ⟨t, h⟩ := h
  exact pe_glob hg h ⟨_, rfl⟩ hd
/-- xs[i] op= e reads xs[i] -/
theorem get_list : PGet X (rIxL X.K) := by
  intro pins s σ H o i ov iv Q I ro ri h
  obtain ⟨p, xs, i, z, rfl, rfl, hq, he, q⟩ := h
  cases ro
  obtain ⟨t, rfl⟩ := ri
  obtain ⟨its, r, pl, hz⟩ := I.list hq
  obtain ⟨j, h1, h2, h3, h4, h5⟩ := atI_get he
  obtain ⟨w, ew, rw'⟩ := r.get h2
  have hl := r.length
  have hn := line63
  have fin : EP X pins σ Q w s := ⟨z, H, I, rw', q⟩
  by_cases h0 : 0 ≤ i
  · have hj : i.toNat = j := by
      rw [seqIndex_of h0 h5] at h1
      exact Option.some.inj h1
    exact wpAny_mono (wpAny_getItem_list (Q := fun r s' => r = w ∧ EP X pins σ Q r s') pl.isList h0 (by omega) (by rw [hj]; simpa using ew) ⟨rfl, fin⟩) (fun _ _ q => q.2) (fun _ _ q => q)
  · have hj : (i + (its.toArray.size : Int)).toNat = j := by
      rw [seqIndex_neg (by omega) h4] at h1
      rw [List.size_toArray, ← hl]
      exact Option.some.inj h1
    exact wpAny_mono (wpAny_getItem_list_neg (Q := fun r s' => r = w ∧ EP X pins σ Q r s') pl.isList (by omega) (by rw [List.size_toArray] <;> omega) (by omega) (by rw [hj]; simpa using ew) ⟨rfl, fin⟩) (fun _ _ q => q.2) (fun _ _ q => q)
end

/-! ### the draws: [cells, place, rest, seed] at D -/
structure DrawAt (S D : Addr) (H : Hp) : Prop where
  ne : S ≠ D
  cells : ∃ cs : List Int, H S = some (.lst (cs.map V.int))
  at_ : ∃ i r c : Int, 0 ≤ i ∧ H D = some (.lst [.ref S, .int i, .int r, .int c])
/-- all else that is tracked stays -/
def Keep (D : Addr) (H H' : Hp) : Prop := ∀ b o, H b = some o → b ≠ D → H' b = some o
def Go (S D : Addr) (H H' : Hp) : Prop := DrawAt S D H' ∧ Keep D H H'
theorem Keep.refl {D : Addr} {H : Hp} : Keep D H H := fun _ _ h _ => h
theorem Keep.trans {D : Addr} {H H1 H2 : Hp} (a : Keep D H H1) (b : Keep D H1 H2) : Keep D H H2 := fun x o h n => b x o (a x o h n) n
theorem Go.trans {S D : Addr} {H H1 H2 : Hp} (a : Go S D H H1) (b : Go S D H1 H2) : Go S D H H2 := ⟨b.1, a.2.trans b.2⟩
theorem Keep.set {D : Addr} {H H' : Hp} {o : HO} (k : Keep D H H') : Keep D H (upd H' D o) := fun b u h n => by
  rw [upd_ne n]
  exact k b u h n
theorem DrawAt.set {S D : Addr} {H : Hp} (d : DrawAt S D H) {i r c : Int} (h : 0 ≤ i) : DrawAt S D (upd H D (.lst [.ref S, .int i, .int r, .int c])) :=
  ⟨d.ne, d.cells.imp fun cs h => by rw [upd_ne d.ne]; exact h, ⟨i, r, c, h, upd_same⟩⟩
theorem DrawAt.new {S D p : Addr} {H : Hp} {o : HO} (d : DrawAt S D H) (h : H p = none) : DrawAt S D (upd H p o) := by
  obtain ⟨cs, h1⟩ := d.cells
  obtain ⟨i, r, c, h0, h2⟩ := d.at_
  exact ⟨d.ne, ⟨cs, by rw [upd_ne (ne_of_none h1 h)]; exact h1⟩, ⟨i, r, c, h0, by rw [upd_ne (ne_of_none h2 h)]; exact h2⟩⟩
theorem Keep.new {D p : Addr} {H : Hp} {o : HO} (h : H p = none) : Keep D H (upd H p o) := fun b u e _ => by
  rw [upd_ne (ne_of_none e h)]
  exact e
theorem Go.new {S D p : Addr} {H : Hp} {o : HO} (d : DrawAt S D H) (h : H p = none) : Go S D H (upd H p o) := ⟨d.new h, Keep.new h⟩
theorem Go.same {S D : Addr} {H H' : Hp} (d : DrawAt S D H) (h : Same H H') : Go S D H H' := by
  obtain ⟨cs, h1⟩ := d.cells
  obtain ⟨i, r, c, h0, h2⟩ := d.at_
  exact ⟨⟨d.ne, ⟨cs, h _ _ h1⟩, ⟨i, r, c, h0, h _ _ h2⟩⟩, fun b o e _ => h b o e⟩
theorem Go.refl {S D : Addr} {H : Hp} (d : DrawAt S D H) : Go S D H H := ⟨d, Keep.refl⟩
/-- a fresh place stays fresh when looked at from behind -/
theorem DrawAt.free {S D p : Addr} {H : Hp} (d : DrawAt S D H) (h : H p = none) : p ≠ D ∧ p ≠ S := by
  obtain ⟨cs, h1⟩ := d.cells
  obtain ⟨i, r, c, h0, h2⟩ := d.at_
  exact ⟨(ne_of_none h2 h).symm, (ne_of_none h1 h).symm⟩
theorem Go.free {S D p : Addr} {H H' : Hp} (g : Go S D H H') (d : DrawAt S D H) (h : H' p = none) : H p = none := by
  cases q : H p with
  | none => rfl
  | some o =>
    by_cases e : p = D
    · exact absurd e (g.1.free h).1
    · rw [g.2 p o q e] at h
      cases h
def spDraw : Sp := fun vs H Q _ => ∃ (S D : Addr) (many : Int), vs = [.ref D, .int many] ∧ CDivW 0 many ∧ DrawAt S D H ∧ ∀ H' v, 0 ≤ v → v < many → Go S D H H' → Q (.int v) H'
end Mt
namespace Mt
open PySem PySem.Spec PyProof.Rows L2
def topS (i : Nat) : Stmt := PySem.Challenge.pw_meantrace_k06_models_written.main.body.getD i (.Pass ⟨0, 0, 0, 0⟩)
abbrev s_write_model : Stmt := topS 1
abbrev N_write_model : List Str := ["model", "_", "base", "streams", "items", "processes", "tokens", "item", "process", "token"]
theorem sc_write_model : FnScope N_write_model ["model"] (defScope s_write_model) := ⟨rfl, rfl, rfl, by decide +kernel, rfl, by decide +kernel, by decide +kernel⟩
abbrev s_spaced : Stmt := topS 2
abbrev N_spaced : List Str := ["token"]
theorem sc_spaced : FnScope N_spaced ["token"] (defScope s_spaced) := ⟨rfl, rfl, rfl, by decide +kernel, rfl, by decide +kernel, by decide +kernel⟩
abbrev s_item_tokens : Stmt := topS 3
abbrev N_item_tokens : List Str := ["item", "word", "spans", "units", "ticks", "room"]
theorem sc_item_tokens : FnScope N_item_tokens ["item"] (defScope s_item_tokens) := ⟨rfl, rfl, rfl, by decide +kernel, rfl, by decide +kernel, by decide +kernel⟩
abbrev s_listed : Stmt := topS 4
abbrev N_listed : List Str := ["rows", "tokens", "row"]
theorem sc_listed : FnScope N_listed ["rows"] (defScope s_listed) := ⟨rfl, rfl, rfl, by decide +kernel, rfl, by decide +kernel, by decide +kernel⟩
abbrev s_process_tokens : Stmt := topS 5
abbrev N_process_tokens : List Str := ["process", "_", "name", "start", "once", "cycle"]
theorem sc_process_tokens : FnScope N_process_tokens ["process"] (defScope s_process_tokens) := ⟨rfl, rfl, rfl, by decide +kernel, rfl, by decide +kernel, by decide +kernel⟩
abbrev s_body_tokens : Stmt := topS 6
abbrev N_body_tokens : List Str := ["body", "tokens", "statement"]
theorem sc_body_tokens : FnScope N_body_tokens ["body"] (defScope s_body_tokens) := ⟨rfl, rfl, rfl, by decide +kernel, rfl, by decide +kernel, by decide +kernel⟩
abbrev s_statement_tokens : Stmt := topS 7
abbrev N_statement_tokens : List Str := ["statement", "word", "parts", "name", "n", "part"]
theorem sc_statement_tokens : FnScope N_statement_tokens ["statement"] (defScope s_statement_tokens) := ⟨rfl, rfl, rfl, by decide +kernel, rfl, by decide +kernel, by decide +kernel⟩
abbrev s_draw_tokens : Stmt := topS 8
abbrev N_draw_tokens : List Str := ["statement", "_", "name", "arms", "tokens", "digits", "body", "digit"]
theorem sc_draw_tokens : FnScope N_draw_tokens ["statement"] (defScope s_draw_tokens) := ⟨rfl, rfl, rfl, by decide +kernel, rfl, by decide +kernel, by decide +kernel⟩
abbrev s_use_tokens : Stmt := topS 9
abbrev N_use_tokens : List Str := ["statement", "_", "name", "rank", "patience", "body", "otherwise", "tokens"]
theorem sc_use_tokens : FnScope N_use_tokens ["statement"] (defScope s_use_tokens) := ⟨rfl, rfl, rfl, by decide +kernel, rfl, by decide +kernel, by decide +kernel⟩
abbrev s_if_tokens : Stmt := topS 10
abbrev N_if_tokens : List Str := ["statement", "_", "gauge", "name", "n", "body", "otherwise", "tokens"]
theorem sc_if_tokens : FnScope N_if_tokens ["statement"] (defScope s_if_tokens) := ⟨rfl, rfl, rfl, by decide +kernel, rfl, by decide +kernel, by decide +kernel⟩
abbrev s__law_begin : Stmt := topS 12
abbrev N__law_begin : List Str := ["script", "cell"]
theorem sc__law_begin : FnScope N__law_begin ["script"] (defScope s__law_begin) := ⟨rfl, rfl, rfl, by decide +kernel, rfl, by decide +kernel, by decide +kernel⟩
abbrev s__law_draw : Stmt := topS 13
abbrev N__law_draw : List Str := ["d", "many", "found", "size", "cell"]
theorem sc__law_draw : FnScope N__law_draw ["d", "many"] (defScope s__law_draw) := ⟨rfl, rfl, rfl, by decide +kernel, rfl, by decide +kernel, by decide +kernel⟩
abbrev s__law_pick : Stmt := topS 14
abbrev N__law_pick : List Str := ["d", "row"]
theorem sc__law_pick : FnScope N__law_pick ["d", "row"] (defScope s__law_pick) := ⟨rfl, rfl, rfl, by decide +kernel, rfl, by decide +kernel, by decide +kernel⟩
abbrev s__law_rare : Stmt := topS 15
abbrev N__law_rare : List Str := ["d", "many"]
theorem sc__law_rare : FnScope N__law_rare ["d", "many"] (defScope s__law_rare) := ⟨rfl, rfl, rfl, by decide +kernel, rfl, by decide +kernel, by decide +kernel⟩
abbrev s__law_small : Stmt := topS 16
abbrev N__law_small : List Str := ["d", "most"]
theorem sc__law_small : FnScope N__law_small ["d", "most"] (defScope s__law_small) := ⟨rfl, rfl, rfl, by decide +kernel, rfl, by decide +kernel, by decide +kernel⟩
abbrev s__law_reserved : Stmt := topS 17
abbrev N__law_reserved : List Str := ["text"]
theorem sc__law_reserved : FnScope N__law_reserved [] (defScope s__law_reserved) := ⟨rfl, rfl, rfl, by decide +kernel, rfl, by decide +kernel, by decide +kernel⟩
abbrev s__law_word : Stmt := topS 18
abbrev N__law_word : List Str := ["d", "text", "k"]
theorem sc__law_word : FnScope N__law_word ["d"] (defScope s__law_word) := ⟨rfl, rfl, rfl, by decide +kernel, rfl, by decide +kernel, by decide +kernel⟩
abbrev s__law_t_plain : Stmt := topS 19
abbrev N__law_t_plain : List Str := ["d", "word", "k"]
theorem sc__law_t_plain : FnScope N__law_t_plain ["d", "word"] (defScope s__law_t_plain) := ⟨rfl, rfl, rfl, by decide +kernel, rfl, by decide +kernel, by decide +kernel⟩
abbrev s__law_t_arms : Stmt := topS 20
abbrev N__law_t_arms : List Str := ["d", "left", "depth", "arms", "k", "digits", "j"]
theorem sc__law_t_arms : FnScope N__law_t_arms ["d", "left", "depth"] (defScope s__law_t_arms) := ⟨rfl, rfl, rfl, by decide +kernel, rfl, by decide +kernel, by decide +kernel⟩
abbrev s__law_t_nest : Stmt := topS 21
abbrev N__law_t_nest : List Str := ["d", "word", "left", "depth", "name", "rank", "body", "patience", "gauge", "n"]
theorem sc__law_t_nest : FnScope N__law_t_nest ["d", "word", "left", "depth"] (defScope s__law_t_nest) := ⟨rfl, rfl, rfl, by decide +kernel, rfl, by decide +kernel, by decide +kernel⟩
abbrev s__law_t_body : Stmt := topS 22
abbrev N__law_t_body : List Str := ["d", "left", "depth", "menu", "body", "k", "word"]
theorem sc__law_t_body : FnScope N__law_t_body ["d", "left", "depth"] (defScope s__law_t_body) := ⟨rfl, rfl, rfl, by decide +kernel, rfl, by decide +kernel, by decide +kernel⟩
abbrev s__law_t_item : Stmt := topS 23
abbrev N__law_t_item : List Str := ["d", "word", "name", "k"]
theorem sc__law_t_item : FnScope N__law_t_item ["d"] (defScope s__law_t_item) := ⟨rfl, rfl, rfl, by decide +kernel, rfl, by decide +kernel, by decide +kernel⟩
abbrev s__law_t_model : Stmt := topS 24
abbrev N__law_t_model : List Str := ["d", "most", "depth", "base", "streams", "k", "items", "left", "processes", "name", "start", "once"]
theorem sc__law_t_model : FnScope N__law_t_model ["d", "most", "depth"] (defScope s__law_t_model) := ⟨rfl, rfl, rfl, by decide +kernel, rfl, by decide +kernel, by decide +kernel⟩
abbrev s__law_tower : Stmt := topS 25
abbrev N__law_tower : List Str := ["d", "many", "body", "k", "way"]
theorem sc__law_tower : FnScope N__law_tower ["d", "many"] (defScope s__law_tower) := ⟨rfl, rfl, rfl, by decide +kernel, rfl, by decide +kernel, by decide +kernel⟩
abbrev s__law_w_body : Stmt := topS 26
abbrev N__law_w_body : List Str := ["body", "odd", "statement"]
theorem sc__law_w_body : FnScope N__law_w_body ["body", "odd"] (defScope s__law_w_body) := ⟨rfl, rfl, rfl, by decide +kernel, rfl, by decide +kernel, by decide +kernel⟩
abbrev s__law_w_statement : Stmt := topS 27
abbrev N__law_w_statement : List Str := ["statement", "odd", "word", "part", "text", "digits", "body", "digit", "extra"]
theorem sc__law_w_statement : FnScope N__law_w_statement ["statement", "odd"] (defScope s__law_w_statement) := ⟨rfl, rfl, rfl, by decide +kernel, rfl, by decide +kernel, by decide +kernel⟩
abbrev s__law_w_item : Stmt := topS 28
abbrev N__law_w_item : List Str := ["item", "text", "span"]
theorem sc__law_w_item : FnScope N__law_w_item ["item"] (defScope s__law_w_item) := ⟨rfl, rfl, rfl, by decide +kernel, rfl, by decide +kernel, by decide +kernel⟩
abbrev s__law_w_model : Stmt := topS 29
abbrev N__law_w_model : List Str := ["model", "odd", "text", "name", "item", "process"]
theorem sc__law_w_model : FnScope N__law_w_model ["model", "odd"] (defScope s__law_w_model) := ⟨rfl, rfl, rfl, by decide +kernel, rfl, by decide +kernel, by decide +kernel⟩
abbrev s__law_bounded : Stmt := topS 30
abbrev N__law_bounded : List Str := ["d", "model"]
theorem sc__law_bounded : FnScope N__law_bounded ["d"] (defScope s__law_bounded) := ⟨rfl, rfl, rfl, by decide +kernel, rfl, by decide +kernel, by decide +kernel⟩
abbrev s__law_good : Stmt := topS 31
abbrev N__law_good : List Str := ["model", "told"]
theorem sc__law_good : FnScope N__law_good ["model"] (defScope s__law_good) := ⟨rfl, rfl, rfl, by decide +kernel, rfl, by decide +kernel, by decide +kernel⟩
abbrev s_law : Stmt := topS 32
abbrev N_law : List Str := ["script", "d", "first", "second", "high", "bodies", "deep"]
theorem sc_law : FnScope N_law ["script"] (defScope s_law) := ⟨rfl, rfl, rfl, by decide +kernel, rfl, by decide +kernel, by decide +kernel⟩
structure Txt (K : PySem.W.Frag) (mg : Str → Option Value) : Prop where
  b_int : mg "int" = none
  b_len : mg "len" = none
  b_abs : mg "abs" = none
  b_isinstance : mg "isinstance" = none
  b_range : mg "range" = none
  b_tuple : mg "tuple" = none
  b_str : mg "str" = none
  b_min : mg "min" = none
theorem upd_upd {H : Hp} {p : Addr} {a b : HO} : upd (upd H p a) p b = upd H p b := by
  funext x
  unfold upd
  split <;> rfl
theorem take_map_succ {α β : Type} {f : α → β} {l : List α} {i : Nat} {c : α} (h : l[i]? = some c) : (l.take i).map f ++ [f c] = (l.take (i + 1)).map f := by
  rw [List.take_add_one, h, List.map_append]
  rfl
theorem divW_of {n : Int} (h : 0 < n) (h2 : n < 2 ^ 64) : CDivW 0 n := wide_div h (b := 64) (by omega) (by decide) (by decide)
theorem getV {ns : List Int} {i : Nat} {x : V} (h : (ns.map V.int)[i]? = some x) : ∃ z, x = .int z ∧ ns[i]? = some z := by
  rw [List.getElem?_map] at h
  cases e : ns[i]? with
  | none =>
    rw [e] at h
    cases h
  | some z =>
    rw [e] at h
    exact ⟨z, (Option.some.inj h).symm, rfl⟩
def spBegin (K : PySem.W.Frag) : Sp := fun vs H Q _ => ∃ (a : Addr) (ns : List Int), vs = [.ref a] ∧ SqL K H a (ns.map V.int) ∧ ns.length ≤ 63 ∧ ∀ S D H', Same H H' → H D = none → DrawAt S D H' → Q (.ref D) H'
/-- a text or a list, what it holds -/
def Row (K : PySem.W.Frag) (H : Hp) (v : V) (xs : List V) : Prop := (∃ z : Str, v = .str z ∧ xs = z.cps.toList.map fun c => .str ⟨#[c]⟩) ∨ ∃ p, v = .ref p ∧ SqL K H p xs
def spPick (K : PySem.W.Frag) : Sp := fun vs H Q _ => ∃ (S D : Addr) (r : V) (xs : List V), vs = [.ref D, r] ∧ DrawAt S D H ∧ (∀ H', Go S D H H' → Row K H' r xs) ∧ 0 < xs.length ∧ xs.length ≤ 100000 ∧ ∀ H' x, x ∈ xs → Go S D H H' → Q x H'

theorem same_new {H : Hp} {p : Addr} {o : HO} (h : H p = none) : Same H (upd H p o) := fun b x e => by
  rw [upd_ne (ne_of_none e h)]
  exact e
/-- a change at a place that H does not know -/
theorem same_mut {H H' : Hp} {p : Addr} {o : HO} (s : Same H H') (h : H p = none) : Same H (upd H' p o) := fun b u e => by
  rw [upd_ne (ne_of_none e h)]
  exact s b u e
theorem iteNT {A B : Prop} (h : B) : if (!true) = true then A else B := iteF h
theorem line5 {n : Nat} (h : n ≤ 100000) : n ≤ sizeLine := Nat.le_trans h (by decide)
theorem line6 {n : Nat} (h : n < 100000) : n < sizeLine := Nat.lt_of_lt_of_le h (by decide)
/-! ### str of a text or of a number -/
theorem call_strB {X : Cx} : CallR X (.type "str") (fun xs H Q => (∃ i, xs = [.int i] ∧ i.natAbs.log2 < 1920 ∧ Q (.str (toString i)) H) ∨ ∃ a, xs = [.str a] ∧ Q (.str a) H) := by
  intro pins s σ H xs us Q I r h
  rcases h with h | h
  · exact call_str_int pins s σ H xs us Q I r h
  · exact SkE.call_str_str pins s σ H xs us Q I r h
/-! ### data as it stands in the heap -/
def KeepT (H H' : Hp) : Prop := ∀ p xs, Rd H p (.tup xs) → Rd H' p (.tup xs)
theorem KeepT.of_same {H H' : Hp} (s : Same H H') : KeepT H H' := fun p xs h => by
  rcases h with h | ⟨o, h⟩
  · exact .inl (s _ _ h)
  · exact .inr ⟨o, s _ _ h⟩
theorem KeepT.trans {H H1 H2 : Hp} (a : KeepT H H1) (b : KeepT H1 H2) : KeepT H H2 := fun p xs h => b p xs (a p xs h)
mutual
def noL : PyData → Bool
  | .list _ => false
  | .dict _ => false
  | .tuple ds => noLs ds
  | _ => true
def noLs : List PyData → Bool
  | [] => true
  | d :: ds => noL d && noLs ds
end
theorem sqt_keep {K : PySem.W.Frag} {H H' : Hp} {a : Addr} {xs : List V} (k : KeepT H H') (h : SqT K H a xs) : SqT K H' a xs := by
  rcases h with h | h
  · exact .inl (k _ _ h)
  · exact .inr h
mutual
theorem dp_keep {K : PySem.W.Frag} {H H' : Hp} (k : KeepT H H') : ∀ (d : PyData) (v : V), noL d = true → Dp K H v d → Dp K H' v d
  | .none, _, _, h => by
    cases h
    exact .non
  | .bool b, _, _, h => by
    cases h
    exact .bl b
  | .int i, _, _, h => by
    cases h
    exact .int i
  | .str x, _, _, h => by
    cases h
    exact .str x
  | .list ds, _, n, _ => by
    have n2 : false = true := n
    cases n2
  | .dict ds, _, n, _ => by
    have n2 : false = true := n
    cases n2
  | .tuple ds, _, n, h => by
    cases h with
    | tup h1 h2 => exact .tup (sqt_keep k h1) (dpA_keep k ds _ n h2)
theorem dpA_keep {K : PySem.W.Frag} {H H' : Hp} (k : KeepT H H') : ∀ (ds : List PyData) (xs : List V), noLs ds = true → DpAll K H xs ds → DpAll K H' xs ds
  | [], _, _, h => by
    cases h
    exact .nil
  | d :: ds, _, n, h => by
    cases h with
    | cons h1 h2 =>
      have n2 : (noL d && noLs ds) = true := n
      rw [Bool.and_eq_true] at n2
      exact .cons (dp_keep k d _ n2.1 h1) (dpA_keep k ds _ n2.2 h2)
end
theorem dp_tup {K : PySem.W.Frag} {H : Hp} {v : V} {ds : List PyData} (h : Dp K H v (.tuple ds)) : ∃ a xs, v = .ref a ∧ SqT K H a xs ∧ DpAll K H xs ds := by
  cases h with
  | tup h1 h2 => exact ⟨_, _, rfl, h1, h2⟩
theorem dp_str {K : PySem.W.Frag} {H : Hp} {v : V} {z : Str} (h : Dp K H v (.str z)) : v = .str z := by
  cases h
  rfl
theorem dp_int {K : PySem.W.Frag} {H : Hp} {v : V} {z : Int} (h : Dp K H v (.int z)) : v = .int z := by
  cases h
  rfl
theorem dp_non {K : PySem.W.Frag} {H : Hp} {v : V} (h : Dp K H v .none) : v = .non := by
  cases h
  rfl
theorem dpA_nil {K : PySem.W.Frag} {H : Hp} {xs : List V} (h : DpAll K H xs []) : xs = [] := by
  cases h
  rfl
theorem dpA_cons {K : PySem.W.Frag} {H : Hp} {xs : List V} {d : PyData} {ds : List PyData} (h : DpAll K H xs (d :: ds)) : ∃ x r, xs = x :: r ∧ Dp K H x d ∧ DpAll K H r ds := by
  cases h with
  | cons h1 h2 => exact ⟨_, _, rfl, h1, h2⟩
theorem dpA_len {K : PySem.W.Frag} {H : Hp} : ∀ {ds : List PyData} {xs : List V}, DpAll K H xs ds → xs.length = ds.length
  | [], _, h => by rw [dpA_nil h]; rfl
  | d :: ds, _, h => by
    obtain ⟨x, r, rfl, _, h2⟩ := dpA_cons h
    rw [List.length_cons, List.length_cons, dpA_len h2]
theorem dpA_at {K : PySem.W.Frag} {H : Hp} : ∀ {ds : List PyData} {xs : List V} {i : Nat} {x : V}, DpAll K H xs ds → xs[i]? = some x → ∃ d, ds[i]? = some d ∧ Dp K H x d
  | [], _, i, x, h, e => by
    rw [dpA_nil h] at e
    simp at e
  | d :: ds, _, 0, x, h, e => by
    obtain ⟨y, r, rfl, h1, h2⟩ := dpA_cons h
    have e2 : y = x := Option.some.inj e
    subst e2
    exact ⟨d, rfl, h1⟩
  | d :: ds, _, i + 1, x, h, e => by
    obtain ⟨y, r, rfl, h1, h2⟩ := dpA_cons h
    obtain ⟨d', h3, h4⟩ := dpA_at (i := i) (x := x) h2 (by simpa using e)
    exact ⟨d', by simpa using h3, h4⟩
/-! ### trees -/
inductive Atm where
  | s (x : Str) | i (n : Int)
def num (n : Int) : Str := toString n
def Atm.d : Atm → PyData
  | .s x => .str x
  | .i n => .int n
def Atm.t : Atm → Str
  | .s x => x
  | .i n => num n
inductive S1 (B : Type) where
  | plain (w : Str) (as : List Atm)
  | parts (w : Str) (ps : List (Str × Int))
  | draw (nm : Str) (arms : List (List Int × B))
  | use (nm : Str) (r : Int) (pt : Option Int) (b o : B)
  | iff (g nm : Str) (n : Int) (b o : B)
  | loop (n : Int) (b : B)
  | guard (b h : B)
def Bd : Nat → Type
  | 0 => Empty
  | n + 1 => List (S1 (Bd n))
def dPart (p : Str × Int) : PyData := .tuple [.str p.1, .int p.2]
def dArm {B : Type} (db : B → PyData) (a : List Int × B) : PyData := .tuple [.tuple (a.1.map PyData.int), db a.2]
def dOpt : Option Int → PyData
  | none => .none
  | some x => .int x
def dS {B : Type} (db : B → PyData) : S1 B → PyData
  | .plain w as => .tuple (.str w :: as.map Atm.d)
  | .parts w ps => .tuple [.str w, .tuple (ps.map dPart)]
  | .draw nm arms => .tuple [.str "draw", .str nm, .tuple (arms.map (dArm db))]
  | .use nm r pt b o => .tuple [.str "use", .str nm, .int r, dOpt pt, db b, db o]
  | .iff g nm n b o => .tuple [.str "if", .str g, .str nm, .int n, db b, db o]
  | .loop n b => .tuple [.str "loop", .int n, db b]
  | .guard b h => .tuple [.str "guard", db b, db h]
def dB : (n : Nat) → Bd n → PyData
  | 0, e => nomatch e
  | n + 1, ss => .tuple (List.map (dS (dB n)) ss)
def empB : (n : Nat) → Bd n → Bool
  | 0, e => nomatch e
  | _ + 1, ss => List.isEmpty ss
/-- rows with commas between them -/
def lst (acc : List Str) : List (List Str) → List Str
  | [] => acc
  | r :: rs => lst ((if acc.isEmpty = true then acc else acc ++ ([","] : List Str)) ++ r) rs
def tArm {B : Type} (tb : B → List Str) (a : List Int × B) : List Str := ("at" : Str) :: (a.1.map num ++ tb a.2)
def tS {B : Type} (tb : B → List Str) (em : B → Bool) : S1 B → List Str
  | .plain w as => w :: (as.map Atm.t ++ ([";"] : List Str))
  | .parts w ps => w :: (lst [] (ps.map fun p => [p.1, num p.2]) ++ ([";"] : List Str))
  | .draw nm arms => (["draw", nm, "{"] : List Str) ++ arms.flatMap (tArm tb) ++ (["}"] : List Str)
  | .use nm r none b _ => (["use", nm, "rank", num r] : List Str) ++ tb b
  | .use nm r (some p) b o => (["use", nm, "rank", num r] : List Str) ++ (("patience" : Str) :: num p :: (tb b ++ (("else" : Str) :: tb o)))
  | .iff g nm n b o => if em o = true then (["if", g, nm, num n] : List Str) ++ tb b else ((["if", g, nm, num n] : List Str) ++ tb b) ++ (("else" : Str) :: tb o)
  | .loop n b => ("loop" : Str) :: num n :: tb b
  | .guard b h => ("guard" : Str) :: (tb b ++ (("handle" : Str) :: tb h))
def tB : (n : Nat) → Bd n → List Str
  | 0, e => nomatch e
  | n + 1, ss => (["{"] : List Str) ++ List.flatMap (tS (tB n) (empB n)) ss ++ (["}"] : List Str)
/-- how many statements -/
def cS {B : Type} (cb : B → Nat) : S1 B → Nat
  | .plain _ _ => 1
  | .parts _ _ => 1
  | .draw _ arms => 1 + (arms.map fun a => cb a.2).sum
  | .use _ _ _ b o => 1 + cb b + cb o
  | .iff _ _ _ b o => 1 + cb b + cb o
  | .loop _ b => 1 + cb b
  | .guard b h => 1 + cb b + cb h
def cB : (n : Nat) → Bd n → Nat
  | 0, e => nomatch e
  | n + 1, ss => (List.map (cS (cB n)) ss).sum
/-! ### what is drawn -/
def PLAIN : List Str := (["hold", "mark", "add", "drop", "load", "unload", "interrupt", "stop", "end"] : List String).map Str.ofString
def BRACE : List Str := (["{", "}", ";"] : List String).map Str.ofString
def okN (z : Str) : Prop := z.length ≤ 9 ∧ inV (.str z) (BRACE.map V.str) = false
def okI (n : Int) : Prop := 0 ≤ n ∧ n ≤ 9
def okA : Atm → Prop
  | .s x => okN x
  | .i n => okI n
def okS {B : Type} (ob : B → Prop) : S1 B → Prop
  | .plain w as => w ∈ PLAIN ∧ as.length ≤ 2 ∧ ∀ a ∈ as, okA a
  | .parts w ps => (w = "put" ∨ w = "take") ∧ 0 < ps.length ∧ ps.length ≤ 9 ∧ ∀ p ∈ ps, okN p.1 ∧ okI p.2
  | .draw nm arms => okN nm ∧ arms.length ≤ 6 ∧ ∀ a ∈ arms, 0 < a.1.length ∧ a.1.length ≤ 6 ∧ (∀ i ∈ a.1, okI i) ∧ ob a.2
  | .use nm r pt b o => okN nm ∧ okI r ∧ (∀ x, pt = some x → okI x) ∧ ob b ∧ ob o
  | .iff g nm n b o => okN g ∧ okN nm ∧ okI n ∧ ob b ∧ ob o
  | .loop n b => okI n ∧ ob b
  | .guard b h => ob b ∧ ob h
def okB : (n : Nat) → Bd n → Prop
  | 0, e => nomatch e
  | n + 1, ss => ∀ s ∈ (show List (S1 (Bd n)) from ss), okS (okB n) s
theorem dig_all : (List.range 10).all (fun k => decide ((num (k : Nat)).length = 1) && (!inV (.str (num (k : Nat))) (BRACE.map V.str))) = true := by decide +kernel
theorem num_ok {n : Int} (h : okI n) : (num n).length = 1 ∧ okN (num n) := by
  obtain ⟨h0, h1⟩ := h
  have := List.all_eq_true.mp dig_all n.toNat (List.mem_range.mpr (by omega))
  rw [show ((n.toNat : Nat) : Int) = n by omega, Bool.and_eq_true] at this
  have h2 := of_decide_eq_true this.1
  exact ⟨h2, by omega, by simpa using this.2⟩
theorem num_log {n : Int} (h : okI n) : n.natAbs.log2 < 1920 := by
  obtain ⟨h0, h1⟩ := h
  have : n.natAbs < 2 ^ 4 := by omega
  exact Nat.lt_of_lt_of_le (PySem.Flt.log2_lt_of (by decide) this) (by decide)
mutual
theorem noLs_map {α : Type} (f : α → PyData) : ∀ l : List α, (∀ x ∈ l, noL (f x) = true) → noLs (l.map f) = true
  | [], _ => rfl
  | x :: r, h => by
    show (noL (f x) && noLs (r.map f)) = true
    rw [h x List.mem_cons_self, noLs_map f r fun y hy => h y (List.mem_cons_of_mem _ hy)]
    rfl
end
theorem dS_noL {B : Type} {db : B → PyData} (hb : ∀ b, noL (db b) = true) : ∀ s : S1 B, noL (dS db s) = true
  | .plain w as => noLs_map Atm.d as fun a _ => by cases a <;> rfl
  | .parts w ps => by
    show (noL (.str w) && (noLs (ps.map dPart) && true)) = true
    rw [noLs_map dPart ps fun _ _ => rfl]
    rfl
  | .draw nm arms => by
    show (true && (true && (noLs (arms.map (dArm db)) && true))) = true
    rw [noLs_map (dArm db) arms fun a _ => by
      show (noLs (a.1.map PyData.int) && (noL (db a.2) && true)) = true
      rw [noLs_map PyData.int a.1 fun _ _ => rfl, hb a.2]
      rfl]
    rfl
  | .use nm r pt b o => by
    show (true && (true && (true && (noL (dOpt pt) && (noL (db b) && (noL (db o) && true)))))) = true
    rw [hb b, hb o]
    cases pt <;> rfl
  | .iff g nm n b o => by
    show (true && (true && (true && (true && (noL (db b) && (noL (db o) && true)))))) = true
    rw [hb b, hb o]
    rfl
  | .loop n b => by
    show (true && (true && (noL (db b) && true))) = true
    rw [hb b]
    rfl
  | .guard b h => by
    show (true && (noL (db b) && (noL (db h) && true))) = true
    rw [hb b, hb h]
    rfl
theorem dB_noL : ∀ (n : Nat) (b : Bd n), noL (dB n b) = true
  | 0, e => nomatch e
  | n + 1, ss => noLs_map (dS (dB n)) ss fun s _ => dS_noL (dB_noL n) s

/-! ### sizes -/
theorem fm_take {α β : Type} (f : α → List β) : ∀ (l : List α) (i : Nat), ((l.take i).flatMap f).length ≤ (l.flatMap f).length
  | _, 0 => Nat.zero_le _
  | [], _ + 1 => Nat.le_refl _
  | x :: r, i + 1 => by
    rw [List.take_succ_cons, List.flatMap_cons, List.flatMap_cons, List.length_append, List.length_append]
    have := fm_take f r i
    omega
theorem fm_mem {α β : Type} (f : α → List β) : ∀ (l : List α) (x : α), x ∈ l → (f x).length ≤ (l.flatMap f).length
  | y :: r, x, h => by
    rw [List.flatMap_cons, List.length_append]
    rcases List.mem_cons.mp h with h | h
    · subst h
      omega
    · have := fm_mem f r x h
      omega
theorem sum_mem : ∀ (l : List Nat) (x : Nat), x ∈ l → x ≤ l.sum
  | y :: r, x, h => by
    rw [List.sum_cons]
    rcases List.mem_cons.mp h with h | h
    · subst h
      omega
    · have := sum_mem r x h
      omega
theorem lst_len : ∀ (rs : List (List Str)) (acc : List Str), (lst acc rs).length ≤ acc.length + (rs.map fun r => r.length + 1).sum
  | [], acc => Nat.le_refl _
  | r :: rs, acc => by
    have hA : (if acc.isEmpty = true then acc else acc ++ ([","] : List Str)).length ≤ acc.length + 1 := by
      split
      · omega
      · rw [List.length_append, List.length_singleton]
        omega
    have := lst_len rs ((if acc.isEmpty = true then acc else acc ++ ([","] : List Str)) ++ r)
    rw [List.length_append] at this
    rw [List.map_cons, List.sum_cons]
    show (lst ((if acc.isEmpty = true then acc else acc ++ ([","] : List Str)) ++ r) rs).length ≤ _
    omega
theorem sum_const {α : Type} (f : α → Nat) (k : Nat) : ∀ l : List α, (∀ x ∈ l, f x ≤ k) → (l.map f).sum ≤ k * l.length
  | [], _ => Nat.zero_le _
  | x :: r, h => by
    rw [List.map_cons, List.sum_cons, List.length_cons, Nat.mul_succ]
    have := sum_const f k r fun y hy => h y (List.mem_cons_of_mem _ hy)
    have := h x List.mem_cons_self
    omega
theorem tS_len {B : Type} {tb : B → List Str} {em : B → Bool} {cb : B → Nat} {ob : B → Prop} (hb : ∀ b, ob b → (tb b).length ≤ 64 * cb b + 2) : ∀ s : S1 B, okS ob s → (tS tb em s).length ≤ 64 * cS cb s
  | .plain w as, ⟨_, h, _⟩ => by
    show (w :: (as.map Atm.t ++ _)).length ≤ 64 * 1
    rw [List.length_cons, List.length_append, List.length_map, List.length_singleton]
    omega
  | .parts w ps, ⟨_, _, h, _⟩ => by
    show (w :: (lst [] _ ++ _)).length ≤ 64 * 1
    have := lst_len (ps.map fun p => [p.1, num p.2]) []
    rw [List.map_map] at this
    have h2 := sum_const ((fun r : List Str => r.length + 1) ∘ fun p : Str × Int => [p.1, num p.2]) 3 ps fun _ _ => Nat.le_refl _
    rw [List.length_cons, List.length_append, List.length_singleton]
    rw [List.length_nil] at this
    omega
  | .draw nm arms, ⟨_, h, h2⟩ => by
    show (_ ++ arms.flatMap (tArm tb) ++ _).length ≤ 64 * (1 + (arms.map fun a => cb a.2).sum)
    have key : ∀ l : List (List Int × B), (∀ a ∈ l, 0 < a.1.length ∧ a.1.length ≤ 6 ∧ (∀ i ∈ a.1, okI i) ∧ ob a.2) → (l.flatMap (tArm tb)).length ≤ 9 * l.length + 64 * (l.map fun a => cb a.2).sum := fun l => by
      induction l with
      | nil => intro _; exact Nat.zero_le _
      | cons a r ih =>
        intro hh
        have h3 := ih fun y hy => hh y (List.mem_cons_of_mem _ hy)
        obtain ⟨_, h4, _, h5⟩ := hh a List.mem_cons_self
        have h6 := hb _ h5
        rw [List.flatMap_cons, List.length_append, List.length_cons, List.map_cons, List.sum_cons]
        have e : (tArm tb a).length = 1 + (a.1.length + (tb a.2).length) := by
          show (_ :: (a.1.map num ++ tb a.2)).length = _
          rw [List.length_cons, List.length_append, List.length_map]
          omega
        omega
    have := key arms h2
    rw [List.length_append, List.length_append, List.length_singleton]
    show 3 + _ + 1 ≤ _
    omega
  | .use nm r none b o, ⟨_, _, _, h, _⟩ => by
    show ((["use", nm, "rank", num r] : List Str) ++ tb b).length ≤ 64 * (1 + cb b + cb o)
    have := hb _ h
    simp only [List.length_append, List.length_cons, List.length_nil]
    omega
  | .use nm r (some p) b o, ⟨_, _, _, h, h2⟩ => by
    show ((["use", nm, "rank", num r] : List Str) ++ (("patience" : Str) :: num p :: (tb b ++ (("else" : Str) :: tb o)))).length ≤ 64 * (1 + cb b + cb o)
    have := hb _ h
    have := hb _ h2
    simp only [List.length_append, List.length_cons, List.length_nil]
    omega
  | .iff g nm n b o, ⟨_, _, _, h, h2⟩ => by
    have := hb _ h
    have := hb _ h2
    show (if em o = true then (["if", g, nm, num n] : List Str) ++ tb b else ((["if", g, nm, num n] : List Str) ++ tb b) ++ (("else" : Str) :: tb o)).length ≤ 64 * (1 + cb b + cb o)
    split <;> (simp only [List.length_append, List.length_cons, List.length_nil]; omega)
  | .loop n b, ⟨_, h⟩ => by
    have := hb _ h
    show (("loop" : Str) :: num n :: tb b).length ≤ 64 * (1 + cb b)
    simp only [List.length_cons]
    omega
  | .guard b o, ⟨h, h2⟩ => by
    have := hb _ h
    have := hb _ h2
    show (("guard" : Str) :: (tb b ++ (("handle" : Str) :: tb o))).length ≤ 64 * (1 + cb b + cb o)
    simp only [List.length_append, List.length_cons]
    omega
theorem fm_len {α β : Type} (f : α → List β) (c : α → Nat) : ∀ l : List α, (∀ x ∈ l, (f x).length ≤ 64 * c x) → (l.flatMap f).length ≤ 64 * (l.map c).sum
  | [], _ => Nat.zero_le _
  | x :: r, h => by
    rw [List.flatMap_cons, List.length_append, List.map_cons, List.sum_cons]
    have := fm_len f c r fun y hy => h y (List.mem_cons_of_mem _ hy)
    have := h x List.mem_cons_self
    omega
theorem tB_len : ∀ (n : Nat) (b : Bd n), okB n b → (tB n b).length ≤ 64 * cB n b + 2
  | 0, e, _ => nomatch e
  | n + 1, ss, h => by
    show (_ ++ List.flatMap (tS (tB n) (empB n)) ss ++ _).length ≤ 64 * (List.map (cS (cB n)) ss).sum + 2
    have := fm_len (tS (tB n) (empB n)) (cS (cB n)) ss fun s hs => tS_len (tB_len n) s (h s hs)
    rw [List.length_append, List.length_append]
    show 1 + _ + 1 ≤ _
    omega
theorem Paired.at {α β : Type} {R : α → β → Prop} : ∀ {xs : List α} {ys : List β} {i : Nat} {x : α}, Paired R xs ys → xs[i]? = some x → ∃ y, ys[i]? = some y ∧ R x y
  | _, _, _, _, .nil, e => by simp at e
  | _, _, 0, _, .cons r _, e => by
    have e : _ = _ := Option.some.inj e
    subst e
    exact ⟨_, rfl, r⟩
  | _, _, i + 1, x, .cons _ t, e => by
    obtain ⟨y, h1, h2⟩ := Paired.at (i := i) (x := x) t (by simpa using e)
    exact ⟨y, by simpa using h1, h2⟩
theorem snoc_str (l : List Str) (z : Str) : l.map V.str ++ [V.str z] = (l ++ [z]).map V.str := by
  rw [List.map_append]
  rfl
theorem ext_str (l r : List Str) : l.map V.str ++ r.map V.str = (l ++ r).map V.str := List.map_append.symm
theorem map_at {α : Type} {f : α → PyData} {l : List α} {i : Nat} {d : PyData} (h : (l.map f)[i]? = some d) : ∃ x, l[i]? = some x ∧ f x = d := by
  rw [List.getElem?_map] at h
  cases e : l[i]? with
  | none =>
    rw [e] at h
    cases h
  | some x =>
    rw [e] at h
    exact ⟨x, rfl, Option.some.inj h⟩
theorem fm_succ {α β : Type} {f : α → List β} {l : List α} {i : Nat} {x : α} (h : l[i]? = some x) : (l.take (i + 1)).flatMap f = (l.take i).flatMap f ++ f x := by
  rw [List.take_add_one, h, List.flatMap_append]
  simp
theorem plain_all : PLAIN.all (fun w => (!inV (.str w) [V.str "put", .str "take"]) && ((!decide (V.str w = .str "draw")) && ((!decide (V.str w = .str "use")) && ((!decide (V.str w = .str "if")) && ((!decide (V.str w = .str "loop")) && (!decide (V.str w = .str "guard"))))))) = true := by decide +kernel
theorem plain_no {w : Str} (h : w ∈ PLAIN) : inV (.str w) [V.str "put", .str "take"] = false ∧ decide (V.str w = .str "draw") = false ∧ decide (V.str w = .str "use") = false ∧ decide (V.str w = .str "if") = false ∧ decide (V.str w = .str "loop") = false ∧ decide (V.str w = .str "guard") = false := by
  have := List.all_eq_true.mp plain_all w h
  simp only [Bool.and_eq_true, Bool.not_eq_true'] at this
  exact this
/-! ### promises -/
def spc (t : Str) : Str := if inV (.str t) (BRACE.map V.str) = true then t ++ "\n" else t ++ " "
def spSpaced : Sp := fun vs H Q _ => ∃ t : Str, vs = [.str t] ∧ t.length ≤ 100 ∧ ∀ H', Same H H' → Q (.str (spc t)) H'
/-- a list of lists of texts -/
def RowsAt (H : Hp) : List V → List (List Str) → Prop := Paired fun v r => ∃ p, v = .ref p ∧ H p = some (.lst (r.map V.str))
def RowsN (L : Addr) (H : Hp) : List V → List (List Str) → Prop := Paired fun v r => ∃ p, v = .ref p ∧ p ≠ L ∧ H p = some (.lst (r.map V.str))
def spListed (K : PySem.W.Frag) : Sp := fun vs H Q _ => ∃ (p : Addr) (xs : List V) (rs : List (List Str)), vs = [.ref p] ∧ SqL K H p xs ∧ RowsAt H xs rs ∧ rs.length ≤ 100 ∧ (∀ r ∈ rs, r.length ≤ 10) ∧ ∀ H' q, Same H H' → H' q = some (.lst ((lst [] rs).map V.str)) → Q (.ref q) H'
def Gives (Q : VK) (H : Hp) (ts : List Str) : Prop := ∀ (H' : Hp) (p : Addr), Same H H' → H' p = some (.lst (ts.map V.str)) → Q (.ref p) H'
def spBodyT (K : PySem.W.Frag) (n : Nat) : Sp := fun vs H Q _ => ∃ (v : V) (b : Bd n), vs = [v] ∧ Dp K H v (dB n b) ∧ okB n b ∧ cB n b ≤ 200 ∧ Gives Q H (tB n b)
def spStmT (K : PySem.W.Frag) (n : Nat) : Sp := fun vs H Q _ => ∃ (v : V) (s : S1 (Bd n)), vs = [v] ∧ Dp K H v (dS (dB n) s) ∧ okS (okB n) s ∧ cS (cB n) s ≤ 200 ∧ Gives Q H (tS (tB n) (empB n) s)
/-- of one kind alone -/
def spKindT (K : PySem.W.Frag) (n : Nat) (k : S1 (Bd n) → Prop) : Sp := fun vs H Q _ => ∃ (v : V) (s : S1 (Bd n)), vs = [v] ∧ k s ∧ Dp K H v (dS (dB n) s) ∧ okS (okB n) s ∧ cS (cB n) s ≤ 200 ∧ Gives Q H (tS (tB n) (empB n) s)
def isDraw {B : Type} : S1 B → Prop
  | .draw _ _ => True
  | _ => False
def isUse {B : Type} : S1 B → Prop
  | .use _ _ _ _ _ => True
  | _ => False
def isIf {B : Type} : S1 B → Prop
  | .iff _ _ _ _ _ => True
  | _ => False
theorem dp_emp {K : PySem.W.Frag} {H : Hp} : ∀ {n : Nat} {b : Bd n} {v : V}, Dp K H v (dB n b) → ∃ a xs, v = .ref a ∧ SqT K H a xs ∧ xs.isEmpty = empB n b
  | 0, b, _, _ => nomatch b
  | n + 1, b, v, h => by
    obtain ⟨a, xs, rfl, hT, hA⟩ := dp_tup (ds := List.map (dS (dB n)) b) h
    refine ⟨a, xs, rfl, hT, ?_⟩
    have := dpA_len hA
    show xs.isEmpty = List.isEmpty b
    cases hb : (show List (S1 (Bd n)) from b) with
    | nil =>
      have e : (List.map (dS (dB n)) b) = [] := by
        show List.map (dS (dB n)) (show List (S1 (Bd n)) from b) = []
        rw [hb]
        rfl
      rw [e] at hA
      rw [dpA_nil hA]
      rfl
    | cons x r =>
      have e : (List.map (dS (dB n)) b) = dS (dB n) x :: List.map (dS (dB n)) r := by
        show List.map (dS (dB n)) (show List (S1 (Bd n)) from b) = _
        rw [hb]
        rfl
      rw [e] at hA
      obtain ⟨y, t, rfl, _, _⟩ := dpA_cons hA
      rfl
section
variable {P : Program} {w : World} {K : PySem.W.Frag} {mg : Str → Option Value} {base : Heap}
theorem ok_spaced (T : Txt K mg) {f : Addr} {fd : FuncData} (F : FnP K "spaced" s_spaced f fd) : FnOk P w K mg base CX0 1 f fd ["token"] spSpaced := by
  refine F.ok sc_spaced (fun vs H Q E h => ?_) (fun cdv A outer s H vs Q E hr h => ?_)
  · obtain ⟨t, rfl, _⟩ := h
    rfl
  · obtain ⟨t, rfl, ht, q⟩ := h
    refine ⟨_, PSs.nox (pss_cons (ps_if (pt_cmpR op_in_seq (pv 0) (pe_tup (pa_cons pe_str (pa_cons pe_str (pa_cons pe_str pa_nil)))) (by rfl)) (pss_one (ps_ret (pe_op op_add_str (pv 0) pe_str))) pss_nil)
      (pss_one (ps_ret (pe_op op_add_str (pv 0) pe_str)))), ?_⟩
    refine ⟨_, rfl, by show 3 ≤ sizeLine; decide, fun p hp => ⟨p, BRACE.map V.str, rfl, .inr (SqT.of upd_same), rfl, by decide +kernel, _, rfl, ?_⟩⟩
    show (if inV (.str t) (BRACE.map V.str) = true then _ else _)
    have q1 := q _ (same_new (o := .tup (BRACE.map V.str)) hp)
    unfold spc at q1
    cases e : inV (.str t) (BRACE.map V.str) with
    | true =>
      rw [e] at q1
      exact ⟨_, rfl, _, _, rfl, rfl, line5 (show _ + 1 ≤ 100000 by omega), q1⟩
    | false =>
      rw [e] at q1
      exact ⟨_, rfl, _, _, rfl, rfl, line5 (show _ + 1 ≤ 100000 by omega), q1⟩
theorem ok_listed (T : Txt K mg) {f : Addr} {fd : FuncData} (F : FnP K "listed" s_listed f fd) : FnOk P w K mg base CX0 1 f fd ["rows"] (spListed K) := by
  refine F.ok sc_listed (fun vs H Q E h => ?_) (fun cdv A outer s H vs Q E hr h => ?_)
  · obtain ⟨p, xs, rs, rfl, _⟩ := h
    rfl
  · obtain ⟨p, xs, rs, rfl, hS, hR, hl, hz, q⟩ := h
    refine ⟨_, PSs.nox (pss_cons (ps_set (i := 1) sc_listed.nd rfl (Or.inl rfl) (pe_lst pa_nil))
      (pss_cons (ps_for PassesOwn.never rfl (pi_list (pv 0)) (pg_name (i := 2) sc_listed.nd rfl (Or.inl rfl)) (pss_cons (ps_if (pt_truth (pv 1) (by intro _; rfl)) (pss_one (ps_expr (pe_bm PySem.F.plainAttrs_list PySem.F.slot_list_append PySem.F.type_list_append mt_append (pv 1) (pa_cons pe_str pa_nil)))) pss_nil)
      (pss_one (ps_expr (pe_bm PySem.F.plainAttrs_list PySem.F.slot_list_extend PySem.F.type_list_extend mt_extend (pv 1) (pa_cons (pv 2) pa_nil))))))
      (pss_one (ps_ret (pv 1))))), ?_⟩
    refine ⟨Nat.zero_le _, fun L hL => ?_⟩
    have hxl : xs.length = rs.length := Paired.length hR
    refine ⟨_, rfl, p, rfl, ⟨_, (same_new hL).seq hS⟩, for_list (K := K) (a := p) (xs := xs) (fun i σ H' => ∃ (y : Option V) (acc : List Str), σ = [some (.ref p), some (.ref L), y] ∧ Same H H' ∧ H' L = some (.lst (acc.map V.str)) ∧ lst acc (rs.drop i) = lst [] rs ∧ acc.length ≤ 11 * i) ⟨none, [], rfl, same_new hL, upd_same, rfl, Nat.le_refl _⟩ (fun i σ H' _ ⟨_, _, _, s1, _⟩ => s1.seq hS) ?_ ?_⟩
    · rintro i x σ H' hi ⟨y, acc, rfl, s1, hA, hE, hal⟩
      obtain ⟨r, hr0, q0, rfl, hq0⟩ := Paired.at hR hi
      have hil := (List.getElem?_eq_some_iff.mp hr0).1
      have ed : rs.drop i = r :: rs.drop (i + 1) := by
        rw [List.drop_eq_getElem_cons hil, (List.getElem?_eq_some_iff.mp hr0).2]
      rw [ed] at hE
      have hE2 : lst ((if acc.isEmpty = true then acc else acc ++ ([","] : List Str)) ++ r) (rs.drop (i + 1)) = lst [] rs := hE
      have hq1 := s1 _ _ hq0
      have nq := ne_of_none hq0 hL
      have hr10 := hz r (List.mem_of_getElem? hr0)
      refine ⟨_, rfl, _, .inl ⟨_, SqL.of hA, rfl⟩, ?_⟩
      cases acc with
      | nil =>
        refine iteF ?_
        refine ⟨_, rfl, .inl ⟨rfl, _, SqL.of hA⟩, _, rfl, L, q0, _, _, rfl, rfl, hA, hq1, line5 (by rw [List.length_map]; show 0 + _ ≤ _; rw [List.length_map]; omega), _, r, rfl, same_mut s1 hL, upd_same, hE2, by omega⟩
      | cons a0 ac =>
        refine iteT ?_
        have e1 : (upd H' L (.lst ((a0 :: ac).map V.str ++ [V.str ","]))) q0 = some (.lst (r.map V.str)) := by
          rw [upd_ne nq]
          exact hq1
        refine ⟨_, rfl, .inl ⟨rfl, _, SqL.of hA⟩, L, _, _, rfl, rfl, hA, line6 (by rw [List.length_map]; omega), ?_⟩
        refine ⟨_, rfl, .inl ⟨rfl, _, SqL.of upd_same⟩, _, rfl, L, q0, _, _, rfl, rfl, upd_same, e1, line5 ?_, _, (a0 :: ac) ++ ([","] : List Str) ++ r, rfl, ?_, ?_, hE2, ?_⟩
        · rw [List.length_append, List.length_map, List.length_map, List.length_singleton]
          omega
        · rw [upd_upd]
          exact same_mut s1 hL
        · rw [upd_same, List.map_append, List.map_append]
          rfl
        · rw [List.length_append, List.length_append, List.length_singleton]
          omega
    · rintro σ H' ⟨y, acc, rfl, s1, hA, hE, hal⟩
      rw [List.drop_eq_nil_of_le (by omega)] at hE
      have e : acc = lst [] rs := hE
      rw [e] at hA
      exact ⟨_, rfl, q H' L s1 hA⟩
/-- body_tokens, one level up -/
theorem ok_body {n : Nat} (T : Txt K mg) (D_statement_tokens : Kept P w K mg base (3 * n + 3) "statement_tokens" ["statement"] (spStmT K n)) {f : Addr} {fd : FuncData} (F : FnP K "body_tokens" s_body_tokens f fd) :
    FnOk P w K mg base CX0 (3 * n + 4) f fd ["body"] (spBodyT K (n + 1)) := by
  refine F.ok sc_body_tokens (fun vs H Q E h => ?_) (fun cdv A outer s H vs Q E hr h => ?_)
  · obtain ⟨v, b, rfl, _⟩ := h
    rfl
  · obtain ⟨v, b, rfl, hd, ok, hc, q⟩ : ∃ (v : V) (b : List (S1 (Bd n))), vs = [v] ∧ Dp K H v (.tuple (b.map (dS (dB n)))) ∧ (∀ s ∈ b, okS (okB n) s) ∧ (b.map (cS (cB n))).sum ≤ 200 ∧ Gives Q H (([("{" : Str)] ++ b.flatMap (tS (tB n) (empB n))) ++ [("}" : Str)]) := h
    refine ⟨_, PSs.nox (pss_cons (ps_set (i := 1) sc_body_tokens.nd rfl (Or.inl rfl) (pe_lst (pa_cons pe_str pa_nil)))
      (pss_cons (ps_for PassesOwn.never rfl (pi_tup (pv 0)) (pg_name (i := 2) sc_body_tokens.nd rfl (Or.inl rfl)) (pss_one (ps_expr (pe_bm PySem.F.plainAttrs_list PySem.F.slot_list_extend PySem.F.type_list_extend mt_extend (pv 1) (pa_cons (pe_d D_statement_tokens (hr.mono (by omega)) (by rfl) (pa_cons (pv 2) pa_nil)) pa_nil)))))
      (pss_cons (ps_expr (pe_bm PySem.F.plainAttrs_list PySem.F.slot_list_append PySem.F.type_list_append mt_append (pv 1) (pa_cons pe_str pa_nil)))
      (pss_one (ps_ret (pv 1)))))), ?_⟩
    obtain ⟨a, xs, rfl, hT, hA⟩ := dp_tup hd
    have tl := fm_len (tS (tB n) (empB n)) (cS (cB n)) b fun s hs => tS_len (tB_len n) s (ok s hs)
    refine ⟨by show 1 ≤ sizeLine; decide, fun L hL => ?_⟩
    have s0 := same_new (o := .lst [V.str "{"]) hL
    have xl : xs.length = b.length := by
      have := dpA_len hA
      rw [List.length_map] at this
      exact this
    refine ⟨_, rfl, a, rfl, ⟨_, sqt_keep (KeepT.of_same s0) hT⟩, for_tup (K := K) (a := a) (xs := xs) (fun i σ H' => ∃ y : Option V, σ = [some (.ref a), some (.ref L), y] ∧ Same H H' ∧ H' L = some (.lst ((([("{" : Str)] ++ (b.take i).flatMap (tS (tB n) (empB n))).map V.str)))) ⟨none, rfl, s0, upd_same⟩ (fun i σ H' _ ⟨_, _, s1, _⟩ => sqt_keep (KeepT.of_same s1) hT) ?_ ?_⟩
    · rintro i x σ H' hi ⟨y, rfl, s1, hL1⟩
      obtain ⟨d, hd1, hd2⟩ := dpA_at hA hi
      rw [List.getElem?_map] at hd1
      obtain ⟨s, hs, rfl⟩ : ∃ s, b[i]? = some s ∧ dS (dB n) s = d := by
        cases e : b[i]? with
        | none =>
          rw [e] at hd1
          cases hd1
        | some s =>
          rw [e] at hd1
          exact ⟨s, rfl, Option.some.inj hd1⟩
      have hm := List.mem_of_getElem? hs
      have hc1 : cS (cB n) s ≤ 200 := Nat.le_trans (sum_mem _ _ (List.mem_map_of_mem hm)) hc
      refine ⟨_, rfl, .inl ⟨rfl, _, SqL.of hL1⟩, _, rfl, x, s, rfl, dp_keep (KeepT.of_same s1) _ _ (dS_noL (dB_noL n) s) hd2, ok s hm, hc1, fun H2 p s2 hp => ?_⟩
      have z1 := fm_take (tS (tB n) (empB n)) b i
      have z2 := fm_mem (tS (tB n) (empB n)) b s hm
      refine ⟨L, p, _, _, rfl, rfl, s2 _ _ hL1, hp, line5 ?_, _, rfl, same_mut (s1.trans s2) hL, ?_⟩
      · rw [List.length_map, List.length_map, List.length_append, List.length_singleton]
        omega
      · rw [upd_same, ← List.map_append, List.append_assoc]
        rw [List.take_add_one, hs, List.flatMap_append]
        simp
    · rintro σ H' ⟨y, rfl, s1, hL1⟩
      rw [List.take_of_length_le (by omega)] at hL1
      refine ⟨_, rfl, .inl ⟨rfl, _, SqL.of hL1⟩, L, _, _, rfl, rfl, hL1, line6 ?_, _, rfl, q _ L (same_mut s1 hL) ?_⟩
      · rw [List.length_map, List.length_append, List.length_singleton]
        omega
      · rw [upd_same, snoc_str]
theorem ok_draw_t {n : Nat} (T : Txt K mg) (D_body_tokens : Kept P w K mg base (3 * n + 1) "body_tokens" ["body"] (spBodyT K n)) {f : Addr} {fd : FuncData} (F : FnP K "draw_tokens" s_draw_tokens f fd) :
    FnOk P w K mg base CX0 (3 * n + 2) f fd ["statement"] (spKindT K n isDraw) := by
  refine F.ok sc_draw_tokens (fun vs H Q E h => ?_) (fun cdv A outer s H vs Q E hr h => ?_)
  · obtain ⟨v, b, rfl, _⟩ := h
    rfl
  · obtain ⟨v, s, rfl, hk, hd, ok, hc, q⟩ := h
    cases s with
    | draw nm arms =>
      obtain ⟨ok1, ok2, ok3⟩ := ok
      obtain ⟨a, xs, rfl, hT, hA⟩ := dp_tup hd
      obtain ⟨x0, r0, rfl, h0, hA⟩ := dpA_cons hA
      obtain ⟨x1, r1, rfl, h1, hA⟩ := dpA_cons hA
      obtain ⟨x2, r2, rfl, h2, hA⟩ := dpA_cons hA
      cases dpA_nil hA
      cases dp_str h0
      cases dp_str h1
      obtain ⟨pa, ys, rfl, hTa, hAa⟩ := dp_tup h2
      refine ⟨_, PSs.nox (pss_cons (ps_asg (pv 0) (pg_tup rfl (pgs_cons (pg_name (i := 1) sc_draw_tokens.nd rfl (Or.inl rfl)) (pgs_cons (pg_name (i := 2) sc_draw_tokens.nd rfl (Or.inl rfl)) (pgs_cons (pg_name (i := 3) sc_draw_tokens.nd rfl (Or.inl rfl)) pgs_nil)))))
      (pss_cons (ps_set (i := 4) sc_draw_tokens.nd rfl (Or.inl rfl) (pe_lst (pa_cons pe_str (pa_cons (pv 2) (pa_cons pe_str pa_nil)))))
      (pss_cons (ps_for PassesOwn.never rfl (pi_tup (pv 3)) (pg_tup rfl (pgs_cons (pg_name (i := 5) sc_draw_tokens.nd rfl (Or.inl rfl)) (pgs_cons (pg_name (i := 6) sc_draw_tokens.nd rfl (Or.inl rfl)) pgs_nil))) (pss_cons (ps_expr (pe_bm PySem.F.plainAttrs_list PySem.F.slot_list_append PySem.F.type_list_append mt_append (pv 4) (pa_cons pe_str pa_nil)))
      (pss_cons (ps_expr (pe_bm PySem.F.plainAttrs_list PySem.F.slot_list_extend PySem.F.type_list_extend mt_extend (pv 4) (pa_cons (pe_lc (own := [("digit", 7)]) (g := (gName 7)) (tt := tYes) rfl sc_draw_tokens.nd (pi_tup (pv 5)) (blkOk_by (N := N_draw_tokens) (sc := defScope s_draw_tokens) (by decide +kernel)) (fun _ _ _ _ _ => (pg_name (i := 7) sc_draw_tokens.nd rfl (Or.inl rfl))) (fun _ _ _ _ _ => pts_nil) (fun _ _ _ _ _ => (pe_callTy call_str_int (by rfl) T.b_str (by decide +kernel) (pa_cons (pv 7) pa_nil)))) pa_nil)))
      (pss_one (ps_expr (pe_bm PySem.F.plainAttrs_list PySem.F.slot_list_extend PySem.F.type_list_extend mt_extend (pv 4) (pa_cons (pe_d D_body_tokens (hr.mono (by omega)) (by rfl) (pa_cons (pv 6) pa_nil)) pa_nil)))))))
      (pss_cons (ps_expr (pe_bm PySem.F.plainAttrs_list PySem.F.slot_list_append PySem.F.type_list_append mt_append (pv 4) (pa_cons pe_str pa_nil)))
      (pss_one (ps_ret (pv 4))))))), ?_⟩
      refine ⟨_, rfl, a, _, rfl, hT, rfl, _, _, rfl, _, _, rfl, _, _, rfl, rfl, ?_⟩
      refine ⟨_, rfl, by show 3 ≤ sizeLine; decide, fun L hL => ?_⟩
      have s0 := same_new (o := .lst [V.str "draw", .str nm, .str "{"]) hL
      have yl : ys.length = arms.length := by
        have := dpA_len hAa
        rw [List.length_map] at this
        exact this
      have tlen := tS_len (tb := tB n) (em := empB n) (cb := cB n) (tB_len n) (.draw nm arms) ⟨ok1, ok2, ok3⟩
      have tl2 : ((["draw", nm, "{"] : List Str) ++ arms.flatMap (tArm (tB n)) ++ ([("}" : Str)])).length ≤ 12800 := Nat.le_trans tlen (by omega)
      rw [List.length_append, List.length_append, List.length_singleton] at tl2
      refine ⟨_, rfl, pa, rfl, ⟨_, sqt_keep (KeepT.of_same s0) hTa⟩, for_tup (K := K) (a := pa) (xs := ys) (fun i σ H' => ∃ y5 y6 : Option V, σ = [some (.ref a), some (.str "draw"), some (.str nm), some (.ref pa), some (.ref L), y5, y6, none] ∧ Same H H' ∧ H' L = some (.lst (((["draw", nm, "{"] : List Str) ++ (arms.take i).flatMap (tArm (tB n))).map V.str))) ⟨none, none, rfl, s0, upd_same⟩ (fun i σ H' _ ⟨_, _, _, s1, _⟩ => sqt_keep (KeepT.of_same s1) hTa) ?_ ?_⟩
      · rintro i x σ H' hi ⟨y5, y6, rfl, s1, hL1⟩
        obtain ⟨d, hd1, hd2⟩ := dpA_at hAa hi
        obtain ⟨am, ham, rfl⟩ := map_at hd1
        have hm := List.mem_of_getElem? ham
        obtain ⟨am0, am6, amI, amB⟩ := ok3 am hm
        obtain ⟨pb, zs, rfl, hTb, hAb⟩ := dp_tup hd2
        obtain ⟨z0, t0, rfl, g0, hAb⟩ := dpA_cons hAb
        obtain ⟨z1, t1, rfl, g1, hAb⟩ := dpA_cons hAb
        cases dpA_nil hAb
        obtain ⟨pd, ds, rfl, hTd, hAd⟩ := dp_tup g0
        have dl : ds.length = am.1.length := by
          have := dpA_len hAd
          rw [List.length_map] at this
          exact this
        have f1 := fm_take (tArm (tB n)) arms i
        have f2 := fm_mem (tArm (tB n)) arms am hm
        have f3 : (tArm (tB n) am).length = am.1.length + (tB n am.2).length + 1 := by
          show (("at" : Str) :: (am.1.map num ++ tB n am.2)).length = _
          rw [List.length_cons, List.length_append, List.length_map]
        refine ⟨pb, _, rfl, sqt_keep (KeepT.of_same s1) hTb, rfl, _, _, rfl, _, _, rfl, rfl, ?_⟩
        refine ⟨_, rfl, .inl ⟨rfl, _, SqL.of hL1⟩, L, _, _, rfl, rfl, hL1, line6 (by rw [List.length_map, List.length_append]; omega), ?_⟩
        rw [snoc_str]
        generalize hA1 : ((["draw", nm, "{"] : List Str) ++ (arms.take i).flatMap (tArm (tB n))) ++ [("at" : Str)] = A1
        have s2 := same_mut (o := .lst (A1.map V.str)) s1 hL
        have a1l : A1.length ≤ 13000 := by
          rw [← hA1, List.length_append, List.length_append, List.length_singleton]
          omega
        refine ⟨_, rfl, .inl ⟨rfl, _, SqL.of upd_same⟩, _, rfl, pd, rfl, ⟨_, sqt_keep (KeepT.of_same s2) hTd⟩, fun L2 hL2 => lc_tup (K := K) (a := pd) (xs := ds) (fun j H2 => Same (upd H' L (.lst (A1.map V.str))) H2 ∧ H2 L2 = some (.lst (((am.1.take j).map num).map V.str))) ⟨same_new hL2, upd_same⟩ (fun j H2 _ e => sqt_keep (KeepT.of_same (s2.trans e.1)) hTd) ?_ ?_⟩
        · rintro j x H2 hj ⟨s3, h3⟩
          obtain ⟨dd, e1, e2⟩ := dpA_at hAd hj
          obtain ⟨dg, e3, rfl⟩ := map_at e1
          cases dp_int e2
          have hjl := (List.getElem?_eq_some_iff.mp e3).1
          refine ⟨rfl, _, rfl, dg, rfl, num_log (amI dg (List.mem_of_getElem? e3)), _, h3, line6 (by rw [List.length_map, List.length_map, List.length_take]; omega), same_mut s3 hL2, ?_⟩
          rw [upd_same, ← take_map_succ (f := num) e3]
          exact congrArg (fun l => some (HO.lst l)) (snoc_str _ _)
        · rintro H2 ⟨s3, h3⟩
          rw [List.take_of_length_le (by omega)] at h3
          have hL3 := s3 _ _ (upd_same (a := L))
          have n2 : L2 ≠ L := fun e => by
            rw [e, upd_same] at hL2
            cases hL2
          refine ⟨L, L2, _, _, rfl, rfl, hL3, h3, line5 (by rw [List.length_map, List.length_map, List.length_map]; omega), ?_⟩
          rw [ext_str]
          have s4 : Same H (upd H2 L (.lst ((A1 ++ am.1.map num).map V.str))) := same_mut (s2.trans s3) hL
          have cbm : cB n am.2 ≤ 200 := by
            have h7 : 1 + (arms.map fun a => cB n a.2).sum ≤ 200 := hc
            have h8 := sum_mem _ _ (List.mem_map_of_mem (f := fun a : List Int × Bd n => cB n a.2) hm)
            omega
          refine ⟨_, rfl, .inl ⟨rfl, _, SqL.of upd_same⟩, _, rfl, z1, am.2, rfl, dp_keep (KeepT.of_same s4) _ _ (dB_noL n am.2) g1, amB, cbm, fun H5 p5 s5 h5 => ?_⟩
          have hL5 := s5 _ _ (upd_same (a := L))
          refine ⟨L, p5, _, _, rfl, rfl, hL5, h5, line5 (by rw [List.length_map, List.length_map, List.length_append, List.length_map]; omega), _, _, rfl, same_mut (s4.trans s5) hL, ?_⟩
          rw [upd_same, ext_str, fm_succ ham, ← hA1]
          refine congrArg (fun l : List Str => some (HO.lst (l.map V.str))) ?_
          show ((_ ++ _) ++ [("at" : Str)] ++ am.1.map num) ++ tB n am.2 = _ ++ (_ ++ (("at" : Str) :: (am.1.map num ++ tB n am.2)))
          simp only [List.append_assoc, List.cons_append, List.nil_append]
      · rintro σ H' ⟨y5, y6, rfl, s1, hL1⟩
        rw [List.take_of_length_le (by omega)] at hL1
        refine ⟨_, rfl, .inl ⟨rfl, _, SqL.of hL1⟩, L, _, _, rfl, rfl, hL1, line6 (by rw [List.length_map, List.length_append]; omega), _, rfl, q _ L (same_mut s1 hL) ?_⟩
        rw [upd_same, snoc_str]
        rfl
    | _ => exact hk.elim
theorem ok_use_t {n : Nat} (T : Txt K mg) (D_body_tokens : Kept P w K mg base (3 * n + 1) "body_tokens" ["body"] (spBodyT K n)) {f : Addr} {fd : FuncData} (F : FnP K "use_tokens" s_use_tokens f fd) :
    FnOk P w K mg base CX0 (3 * n + 2) f fd ["statement"] (spKindT K n isUse) := by
  refine F.ok sc_use_tokens (fun vs H Q E h => ?_) (fun cdv A outer s H vs Q E hr h => ?_)
  · obtain ⟨v, b, rfl, _⟩ := h
    rfl
  · obtain ⟨v, s, rfl, hk, hd, ok, hc, q⟩ := h
    cases s with
    | use nm r pt b o =>
      obtain ⟨ok1, ok2, ok3, ok4, ok5⟩ := ok
      obtain ⟨a, xs, rfl, hT, hA⟩ := dp_tup hd
      obtain ⟨x0, r0, rfl, h0, hA⟩ := dpA_cons hA
      obtain ⟨x1, r1, rfl, h1, hA⟩ := dpA_cons hA
      obtain ⟨x2, r2, rfl, h2, hA⟩ := dpA_cons hA
      obtain ⟨x3, r3, rfl, h3, hA⟩ := dpA_cons hA
      obtain ⟨x4, r4, rfl, h4, hA⟩ := dpA_cons hA
      obtain ⟨x5, r5, rfl, h5, hA⟩ := dpA_cons hA
      cases dpA_nil hA
      cases dp_str h0
      cases dp_str h1
      cases dp_int h2
      have hcb : 1 + cB n b + cB n o ≤ 200 := hc
      have lb := tB_len n b ok4
      have lo := tB_len n o ok5
      refine ⟨_, PSs.nox (pss_cons (ps_asg (pv 0) (pg_tup rfl (pgs_cons (pg_name (i := 1) sc_use_tokens.nd rfl (Or.inl rfl)) (pgs_cons (pg_name (i := 2) sc_use_tokens.nd rfl (Or.inl rfl)) (pgs_cons (pg_name (i := 3) sc_use_tokens.nd rfl (Or.inl rfl)) (pgs_cons (pg_name (i := 4) sc_use_tokens.nd rfl (Or.inl rfl)) (pgs_cons (pg_name (i := 5) sc_use_tokens.nd rfl (Or.inl rfl)) (pgs_cons (pg_name (i := 6) sc_use_tokens.nd rfl (Or.inl rfl)) pgs_nil))))))))
      (pss_cons (ps_set (i := 7) sc_use_tokens.nd rfl (Or.inl rfl) (pe_lst (pa_cons pe_str (pa_cons (pv 2) (pa_cons pe_str (pa_cons (pe_callTy call_str_int (by rfl) T.b_str (by decide +kernel) (pa_cons (pv 3) pa_nil)) pa_nil))))))
      (pss_cons (ps_if (pt_cmpR op_isN (pv 4) pe_non (nomark _)) (pss_one (ps_ret (pe_op op_cat (pv 7) (pe_d D_body_tokens (hr.mono (by omega)) (by rfl) (pa_cons (pv 5) pa_nil))))) pss_nil)
      (pss_one (ps_ret (pe_lst (StX.pa_star (pv 7) (pa_cons pe_str (pa_cons (pe_callTy call_str_int (by rfl) T.b_str (by decide +kernel) (pa_cons (pv 4) pa_nil)) (StX.pa_star (pe_d D_body_tokens (hr.mono (by omega)) (by rfl) (pa_cons (pv 5) pa_nil)) (pa_cons pe_str (StX.pa_star (pe_d D_body_tokens (hr.mono (by omega)) (by rfl) (pa_cons (pv 6) pa_nil)) pa_nil)))))))))))), ?_⟩
      refine ⟨_, rfl, a, _, rfl, hT, rfl, _, _, rfl, _, _, rfl, _, _, rfl, _, _, rfl, _, _, rfl, _, _, rfl, rfl, ?_⟩
      refine ⟨_, rfl, _, rfl, r, rfl, num_log ok2, by show 4 ≤ sizeLine; decide, fun L hL => ?_⟩
      have s0 := same_new (o := .lst [V.str "use", .str nm, .str "rank", .str (num r)]) hL
      have g4 := dp_keep (KeepT.of_same s0) _ _ (dB_noL n b) h4
      have g5 := dp_keep (KeepT.of_same s0) _ _ (dB_noL n o) h5
      cases pt with
      | none =>
        cases dp_non h3
        refine ⟨_, rfl, rfl, _, rfl, ?_⟩
        refine ⟨_, rfl, _, rfl, x4, b, rfl, g4, ok4, by omega, fun H1 p1 s1 hp1 => ?_⟩
        refine ⟨L, p1, _, _, rfl, rfl, s1 _ _ upd_same, hp1, line5 (by rw [List.length_map]; show 4 + _ ≤ _; omega), fun p2 hp2 => ?_⟩
        refine q _ p2 ((s0.trans s1).trans (same_new hp2)) ?_
        rw [upd_same]
        exact congrArg (fun l => some (HO.lst l)) (ext_str ["use", nm, "rank", num r] (tB n b))
      | some pp =>
        cases dp_int h3
        have okp := ok3 pp rfl
        refine ⟨_, rfl, rfl, _, rfl, ?_⟩
        refine ⟨_, rfl, L, _, rfl, .inr (SqL.of upd_same), ?_⟩
        refine ⟨_, rfl, pp, rfl, num_log okp, ?_⟩
        refine ⟨_, rfl, x4, b, rfl, g4, ok4, by omega, fun H1 p1 s1 hp1 => ⟨p1, _, rfl, .inr (SqL.of hp1), ?_⟩⟩
        refine ⟨_, rfl, x5, o, rfl, dp_keep (KeepT.of_same s1) _ _ (dB_noL n o) g5, ok5, by omega, fun H2 p2 s2 hp2 => ⟨p2, _, rfl, .inr (SqL.of hp2), ?_⟩⟩
        refine ⟨line5 ?_, fun p3 hp3 => ?_⟩
        · simp only [List.length_append, List.length_cons, List.length_nil, List.length_map]
          omega
        · refine q _ p3 (((s0.trans s1).trans s2).trans (same_new hp3)) ?_
          rw [upd_same]
          refine congrArg (fun l => some (HO.lst l)) ?_
          show [V.str "use", .str nm, .str "rank", .str (num r)] ++ (V.str "patience" :: .str (num pp) :: ((tB n b).map V.str ++ (V.str "else" :: ((tB n o).map V.str ++ [])))) = ((["use", nm, "rank", num r] : List Str) ++ (("patience" : Str) :: num pp :: (tB n b ++ (("else" : Str) :: tB n o)))).map V.str
          simp only [List.map_append, List.map_cons, List.map_nil, List.append_nil]
    | _ => exact hk.elim
theorem ok_if_t {n : Nat} (T : Txt K mg) (D_body_tokens : Kept P w K mg base (3 * n + 1) "body_tokens" ["body"] (spBodyT K n)) {f : Addr} {fd : FuncData} (F : FnP K "if_tokens" s_if_tokens f fd) :
    FnOk P w K mg base CX0 (3 * n + 2) f fd ["statement"] (spKindT K n isIf) := by
  refine F.ok sc_if_tokens (fun vs H Q E h => ?_) (fun cdv A outer s H vs Q E hr h => ?_)
  · obtain ⟨v, b, rfl, _⟩ := h
    rfl
  · obtain ⟨v, s, rfl, hk, hd, ok, hc, q⟩ := h
    cases s with
    | iff g nm r b o =>
      obtain ⟨ok1, ok2, ok3, ok4, ok5⟩ := ok
      obtain ⟨a, xs, rfl, hT, hA⟩ := dp_tup hd
      obtain ⟨x0, r0, rfl, h0, hA⟩ := dpA_cons hA
      obtain ⟨x1, r1, rfl, h1, hA⟩ := dpA_cons hA
      obtain ⟨x2, r2, rfl, h2, hA⟩ := dpA_cons hA
      obtain ⟨x3, r3, rfl, h3, hA⟩ := dpA_cons hA
      obtain ⟨x4, r4, rfl, h4, hA⟩ := dpA_cons hA
      obtain ⟨x5, r5, rfl, h5, hA⟩ := dpA_cons hA
      cases dpA_nil hA
      cases dp_str h0
      cases dp_str h1
      cases dp_str h2
      cases dp_int h3
      have hcb : 1 + cB n b + cB n o ≤ 200 := hc
      have lb := tB_len n b ok4
      have lo := tB_len n o ok5
      obtain ⟨ao, os, rfl, hTo, hemp⟩ := dp_emp h5
      refine ⟨_, PSs.nox (pss_cons (ps_asg (pv 0) (pg_tup rfl (pgs_cons (pg_name (i := 1) sc_if_tokens.nd rfl (Or.inl rfl)) (pgs_cons (pg_name (i := 2) sc_if_tokens.nd rfl (Or.inl rfl)) (pgs_cons (pg_name (i := 3) sc_if_tokens.nd rfl (Or.inl rfl)) (pgs_cons (pg_name (i := 4) sc_if_tokens.nd rfl (Or.inl rfl)) (pgs_cons (pg_name (i := 5) sc_if_tokens.nd rfl (Or.inl rfl)) (pgs_cons (pg_name (i := 6) sc_if_tokens.nd rfl (Or.inl rfl)) pgs_nil))))))))
      (pss_cons (ps_set (i := 7) sc_if_tokens.nd rfl (Or.inl rfl) (pe_lst (pa_cons pe_str (pa_cons (pv 2) (pa_cons (pv 3) (pa_cons (pe_callTy call_str_int (by rfl) T.b_str (by decide +kernel) (pa_cons (pv 4) pa_nil)) (StX.pa_star (pe_d D_body_tokens (hr.mono (by omega)) (by rfl) (pa_cons (pv 5) pa_nil)) pa_nil)))))))
      (pss_cons (ps_if (pt_not (pt_truth (pv 6) (by intro _; rfl))) (pss_one (ps_ret (pv 7))) pss_nil)
      (pss_one (ps_ret (pe_lst (StX.pa_star (pv 7) (pa_cons pe_str (StX.pa_star (pe_d D_body_tokens (hr.mono (by omega)) (by rfl) (pa_cons (pv 6) pa_nil)) pa_nil))))))))), ?_⟩
      refine ⟨_, rfl, a, _, rfl, hT, rfl, _, _, rfl, _, _, rfl, _, _, rfl, _, _, rfl, _, _, rfl, _, _, rfl, rfl, ?_⟩
      refine ⟨_, rfl, _, rfl, _, rfl, r, rfl, num_log ok3, _, rfl, x4, b, rfl, h4, ok4, by omega, fun H1 p1 s1 hp1 => ⟨p1, _, rfl, .inr (SqL.of hp1), line5 ?_, fun L hL => ?_⟩⟩
      · simp only [List.length_append, List.length_cons, List.length_nil, List.length_map]
        omega
      have s2 := s1.trans (same_new (o := .lst (V.str "if" :: .str g :: .str nm :: .str (num r) :: ((tB n b).map V.str ++ []))) hL)
      have eT : V.str "if" :: V.str g :: V.str nm :: V.str (num r) :: ((tB n b).map V.str ++ []) = ((["if", g, nm, num r] : List Str) ++ tB n b).map V.str := by
        simp only [List.map_append, List.map_cons, List.map_nil, List.append_nil]
        rfl
      refine ⟨_, rfl, _, .inr (.inl ⟨_, sqt_keep (KeepT.of_same s2) hTo, rfl⟩), ?_⟩
      rw [hemp]
      cases he : empB n o with
      | true =>
        refine iteT ?_
        refine ⟨_, rfl, q _ L s2 ?_⟩
        rw [upd_same]
        refine (congrArg (fun l => some (HO.lst l)) eT).trans ?_
        show _ = some (HO.lst ((if empB n o = true then ((["if", g, nm, num r] : List Str) ++ tB n b) else (((["if", g, nm, num r] : List Str) ++ tB n b) ++ (("else" : Str) :: tB n o))).map V.str))
        rw [if_pos he]
      | false =>
        refine iteF ?_
        refine ⟨_, rfl, L, _, rfl, .inr (SqL.of upd_same), _, rfl, _, o, rfl, dp_keep (KeepT.of_same s2) _ _ (dB_noL n o) h5, ok5, by omega, fun H2 p2 s3 hp2 => ⟨p2, _, rfl, .inr (SqL.of hp2), line5 ?_, fun p3 hp3 => ?_⟩⟩
        · simp only [List.length_append, List.length_cons, List.length_nil, List.length_map]
          omega
        · refine q _ p3 ((s2.trans s3).trans (same_new hp3)) ?_
          rw [upd_same]
          refine (congrArg (fun l => some (HO.lst (l ++ (V.str "else" :: (List.map V.str (tB n o) ++ []))))) eT).trans ?_
          show _ = some (HO.lst ((if empB n o = true then ((["if", g, nm, num r] : List Str) ++ tB n b) else (((["if", g, nm, num r] : List Str) ++ tB n b) ++ (("else" : Str) :: tB n o))).map V.str))
          rw [if_neg (by rw [he]; exact Bool.false_ne_true)]
          refine congrArg (fun l => some (HO.lst l)) ?_
          simp only [List.map_append, List.map_cons, List.map_nil, List.append_nil]
    | _ => exact hk.elim
theorem ok_stm {n : Nat} (T : Txt K mg) (D_listed : Kept P w K mg base 1 "listed" ["rows"] (spListed K)) (D_body_tokens : Kept P w K mg base (3 * n + 1) "body_tokens" ["body"] (spBodyT K n))
    (D_draw_tokens : Kept P w K mg base (3 * n + 2) "draw_tokens" ["statement"] (spKindT K n isDraw)) (D_use_tokens : Kept P w K mg base (3 * n + 2) "use_tokens" ["statement"] (spKindT K n isUse)) (D_if_tokens : Kept P w K mg base (3 * n + 2) "if_tokens" ["statement"] (spKindT K n isIf))
    {f : Addr} {fd : FuncData} (F : FnP K "statement_tokens" s_statement_tokens f fd) : FnOk P w K mg base CX0 (3 * n + 3) f fd ["statement"] (spStmT K n) := by
  refine F.ok sc_statement_tokens (fun vs H Q E h => ?_) (fun cdv A outer s H vs Q E hr h => ?_)
  · obtain ⟨v, b, rfl, _⟩ := h
    rfl
  · obtain ⟨v, s, rfl, hd, ok, hc, q⟩ := h
    refine ⟨_, PSs.nox (pss_cons (ps_set (i := 1) sc_statement_tokens.nd rfl (Or.inl rfl) (pe_ix ix_tup (pv 0) pe_int (fun _ _ => rfl)))
      (pss_cons (ps_if (pt_cmpR op_in_seq (pv 1) (pe_tup (pa_cons pe_str (pa_cons pe_str pa_nil))) (by rfl)) (pss_cons (ps_set (i := 2) sc_statement_tokens.nd rfl (Or.inl rfl) (pe_d D_listed (hr.mono (by omega)) (by rfl) (pa_cons (pe_lc (own := [("name", 3), ("n", 4)]) (g := (gTup K 2 (gCons (gName 3) (gCons (gName 4) gNil)))) (tt := tYes) rfl sc_statement_tokens.nd (pi_tup (pe_ix ix_tup (pv 0) pe_int (fun _ _ => rfl))) (blkOk_by (N := N_statement_tokens) (sc := defScope s_statement_tokens) (by decide +kernel)) (fun _ _ _ _ _ => (pg_tup rfl (pgs_cons (pg_name (i := 3) sc_statement_tokens.nd rfl (Or.inl rfl)) (pgs_cons (pg_name (i := 4) sc_statement_tokens.nd rfl (Or.inl rfl)) pgs_nil)))) (fun _ _ _ _ _ => pts_nil) (fun _ _ _ _ _ => (pe_lst (pa_cons (pv 3) (pa_cons (pe_callTy call_str_int (by rfl) T.b_str (by decide +kernel) (pa_cons (pv 4) pa_nil)) pa_nil))))) pa_nil)))
      (pss_one (ps_ret (pe_lst (pa_cons (pv 1) (StX.pa_star (pv 2) (pa_cons pe_str pa_nil))))))) pss_nil)
      (pss_cons (ps_if (pt_cmpR op_eq (pv 1) pe_str (nomark _)) (pss_one (ps_ret (pe_d D_draw_tokens (hr.mono (by omega)) (by rfl) (pa_cons (pv 0) pa_nil)))) pss_nil)
      (pss_cons (ps_if (pt_cmpR op_eq (pv 1) pe_str (nomark _)) (pss_one (ps_ret (pe_d D_use_tokens (hr.mono (by omega)) (by rfl) (pa_cons (pv 0) pa_nil)))) pss_nil)
      (pss_cons (ps_if (pt_cmpR op_eq (pv 1) pe_str (nomark _)) (pss_one (ps_ret (pe_d D_if_tokens (hr.mono (by omega)) (by rfl) (pa_cons (pv 0) pa_nil)))) pss_nil)
      (pss_cons (ps_if (pt_cmpR op_eq (pv 1) pe_str (nomark _)) (pss_one (ps_ret (pe_lst (pa_cons (pv 1) (pa_cons (pe_callTy call_str_int (by rfl) T.b_str (by decide +kernel) (pa_cons (pe_ix ix_tup (pv 0) pe_int (fun _ _ => rfl)) pa_nil)) (StX.pa_star (pe_d D_body_tokens (hr.mono (by omega)) (by rfl) (pa_cons (pe_ix ix_tup (pv 0) pe_int (fun _ _ => rfl)) pa_nil)) pa_nil)))))) pss_nil)
      (pss_cons (ps_if (pt_cmpR op_eq (pv 1) pe_str (nomark _)) (pss_one (ps_ret (pe_lst (pa_cons (pv 1) (StX.pa_star (pe_d D_body_tokens (hr.mono (by omega)) (by rfl) (pa_cons (pe_ix ix_tup (pv 0) pe_int (fun _ _ => rfl)) pa_nil)) (pa_cons pe_str (StX.pa_star (pe_d D_body_tokens (hr.mono (by omega)) (by rfl) (pa_cons (pe_ix ix_tup (pv 0) pe_int (fun _ _ => rfl)) pa_nil)) pa_nil))))))) pss_nil)
      (pss_one (ps_ret (pe_lst (StX.pa_star (pe_lc (own := [("part", 5)]) (g := (gName 5)) (tt := tYes) rfl sc_statement_tokens.nd (pi_tup (pv 0)) (blkOk_by (N := N_statement_tokens) (sc := defScope s_statement_tokens) (by decide +kernel)) (fun _ _ _ _ _ => (pg_name (i := 5) sc_statement_tokens.nd rfl (Or.inl rfl))) (fun _ _ _ _ _ => pts_nil) (fun _ _ _ _ _ => (pe_callTy call_strB (by rfl) T.b_str (by decide +kernel) (pa_cons (pv 5) pa_nil)))) (pa_cons pe_str pa_nil)))))))))))), ?_⟩
    cases s with
    | draw nm arms =>
      obtain ⟨a, xs, rfl, hT, hA⟩ := dp_tup (id hd)
      obtain ⟨x0, r0, rfl, h0, hA1⟩ := dpA_cons hA
      cases dp_str h0
      refine ⟨_, rfl, a, _, _, _, rfl, rfl, hT, atI_nat (j := 0) rfl, ?_⟩
      refine ⟨_, rfl, by show 2 ≤ sizeLine; decide, fun p hp => ⟨p, _, rfl, .inr (SqT.of upd_same), rfl, by decide +kernel, _, rfl, ?_⟩⟩
      have s1 := same_new (o := .tup [V.str "put", .str "take"]) hp
      refine ite2 (fun e => absurd e (by decide +kernel)) (fun _ => ?_)
      refine ⟨_, rfl, rfl, _, rfl, ?_⟩
      refine ite2 (fun _ => ?_) (fun e => absurd (decide_eq_true rfl) e)
      exact ⟨_, rfl, _, .draw nm arms, rfl, trivial, dp_keep (KeepT.of_same s1) _ _ (dS_noL (dB_noL n) _) hd, ok, hc, fun H2 p2 s2 h2 => q H2 p2 (s1.trans s2) h2⟩
    | use nm r pt b o =>
      obtain ⟨a, xs, rfl, hT, hA⟩ := dp_tup (id hd)
      obtain ⟨x0, r0, rfl, h0, hA1⟩ := dpA_cons hA
      cases dp_str h0
      refine ⟨_, rfl, a, _, _, _, rfl, rfl, hT, atI_nat (j := 0) rfl, ?_⟩
      refine ⟨_, rfl, by show 2 ≤ sizeLine; decide, fun p hp => ⟨p, _, rfl, .inr (SqT.of upd_same), rfl, by decide +kernel, _, rfl, ?_⟩⟩
      have s1 := same_new (o := .tup [V.str "put", .str "take"]) hp
      refine ite2 (fun e => absurd e (by decide +kernel)) (fun _ => ?_)
      refine ⟨_, rfl, rfl, _, rfl, ?_⟩
      refine ite2 (fun e => absurd e (by decide +kernel)) (fun _ => ?_)
      refine ⟨_, rfl, rfl, _, rfl, ?_⟩
      refine ite2 (fun _ => ?_) (fun e => absurd (decide_eq_true rfl) e)
      exact ⟨_, rfl, _, .use nm r pt b o, rfl, trivial, dp_keep (KeepT.of_same s1) _ _ (dS_noL (dB_noL n) _) hd, ok, hc, fun H2 p2 s2 h2 => q H2 p2 (s1.trans s2) h2⟩
    | iff g nm r b o =>
      obtain ⟨a, xs, rfl, hT, hA⟩ := dp_tup (id hd)
      obtain ⟨x0, r0, rfl, h0, hA1⟩ := dpA_cons hA
      cases dp_str h0
      refine ⟨_, rfl, a, _, _, _, rfl, rfl, hT, atI_nat (j := 0) rfl, ?_⟩
      refine ⟨_, rfl, by show 2 ≤ sizeLine; decide, fun p hp => ⟨p, _, rfl, .inr (SqT.of upd_same), rfl, by decide +kernel, _, rfl, ?_⟩⟩
      have s1 := same_new (o := .tup [V.str "put", .str "take"]) hp
      refine ite2 (fun e => absurd e (by decide +kernel)) (fun _ => ?_)
      refine ⟨_, rfl, rfl, _, rfl, ?_⟩
      refine ite2 (fun e => absurd e (by decide +kernel)) (fun _ => ?_)
      refine ⟨_, rfl, rfl, _, rfl, ?_⟩
      refine ite2 (fun e => absurd e (by decide +kernel)) (fun _ => ?_)
      refine ⟨_, rfl, rfl, _, rfl, ?_⟩
      refine ite2 (fun _ => ?_) (fun e => absurd (decide_eq_true rfl) e)
      exact ⟨_, rfl, _, .iff g nm r b o, rfl, trivial, dp_keep (KeepT.of_same s1) _ _ (dS_noL (dB_noL n) _) hd, ok, hc, fun H2 p2 s2 h2 => q H2 p2 (s1.trans s2) h2⟩
    | loop m b =>
      obtain ⟨a, xs, rfl, hT, hA⟩ := dp_tup (id hd)
      obtain ⟨x0, r0, rfl, h0, hA1⟩ := dpA_cons hA
      cases dp_str h0
      refine ⟨_, rfl, a, _, _, _, rfl, rfl, hT, atI_nat (j := 0) rfl, ?_⟩
      refine ⟨_, rfl, by show 2 ≤ sizeLine; decide, fun p hp => ⟨p, _, rfl, .inr (SqT.of upd_same), rfl, by decide +kernel, _, rfl, ?_⟩⟩
      have s1 := same_new (o := .tup [V.str "put", .str "take"]) hp
      refine ite2 (fun e => absurd e (by decide +kernel)) (fun _ => ?_)
      refine ⟨_, rfl, rfl, _, rfl, ?_⟩
      refine ite2 (fun e => absurd e (by decide +kernel)) (fun _ => ?_)
      refine ⟨_, rfl, rfl, _, rfl, ?_⟩
      refine ite2 (fun e => absurd e (by decide +kernel)) (fun _ => ?_)
      refine ⟨_, rfl, rfl, _, rfl, ?_⟩
      refine ite2 (fun e => absurd e (by decide +kernel)) (fun _ => ?_)
      refine ⟨_, rfl, rfl, _, rfl, ?_⟩
      refine ite2 (fun _ => ?_) (fun e => absurd (decide_eq_true rfl) e)
      obtain ⟨x1, r1, rfl, h1, hA2⟩ := dpA_cons hA1
      obtain ⟨x2, r2, rfl, h2, hA3⟩ := dpA_cons hA2
      cases dpA_nil hA3
      cases dp_int h1
      obtain ⟨ok1, ok2⟩ := ok
      have hcb : 1 + cB n b ≤ 200 := hc
      have lb := tB_len n b ok2
      have hT1 := sqt_keep (KeepT.of_same s1) hT
      refine ⟨_, rfl, _, rfl, a, _, _, _, rfl, rfl, hT1, atI_nat (j := 1) rfl, m, rfl, num_log ok1, ?_⟩
      refine ⟨_, rfl, a, _, _, _, rfl, rfl, hT1, atI_nat (j := 2) rfl, x2, b, rfl, dp_keep (KeepT.of_same s1) _ _ (dB_noL n b) h2, ok2, by omega, fun H2 p2 s2 hp2 => ⟨p2, _, rfl, .inr (SqL.of hp2), line5 ?_, fun p3 hp3 => ?_⟩⟩
      · simp only [List.length_append, List.length_cons, List.length_nil, List.length_map]
        omega
      · refine q _ p3 ((s1.trans s2).trans (same_new hp3)) ?_
        rw [upd_same]
        refine congrArg (fun l => some (HO.lst l)) ?_
        show V.str "loop" :: V.str (num m) :: ((tB n b).map V.str ++ []) = (("loop" : Str) :: num m :: tB n b).map V.str
        simp only [List.map_cons, List.append_nil]
    | guard b o =>
      obtain ⟨a, xs, rfl, hT, hA⟩ := dp_tup (id hd)
      obtain ⟨x0, r0, rfl, h0, hA1⟩ := dpA_cons hA
      cases dp_str h0
      refine ⟨_, rfl, a, _, _, _, rfl, rfl, hT, atI_nat (j := 0) rfl, ?_⟩
      refine ⟨_, rfl, by show 2 ≤ sizeLine; decide, fun p hp => ⟨p, _, rfl, .inr (SqT.of upd_same), rfl, by decide +kernel, _, rfl, ?_⟩⟩
      have s1 := same_new (o := .tup [V.str "put", .str "take"]) hp
      refine ite2 (fun e => absurd e (by decide +kernel)) (fun _ => ?_)
      refine ⟨_, rfl, rfl, _, rfl, ?_⟩
      refine ite2 (fun e => absurd e (by decide +kernel)) (fun _ => ?_)
      refine ⟨_, rfl, rfl, _, rfl, ?_⟩
      refine ite2 (fun e => absurd e (by decide +kernel)) (fun _ => ?_)
      refine ⟨_, rfl, rfl, _, rfl, ?_⟩
      refine ite2 (fun e => absurd e (by decide +kernel)) (fun _ => ?_)
      refine ⟨_, rfl, rfl, _, rfl, ?_⟩
      refine ite2 (fun e => absurd e (by decide +kernel)) (fun _ => ?_)
      refine ⟨_, rfl, rfl, _, rfl, ?_⟩
      refine ite2 (fun _ => ?_) (fun e => absurd (decide_eq_true rfl) e)
      obtain ⟨x1, r1, rfl, h1, hA2⟩ := dpA_cons hA1
      obtain ⟨x2, r2, rfl, h2, hA3⟩ := dpA_cons hA2
      cases dpA_nil hA3
      obtain ⟨ok1, ok2⟩ := ok
      have hcb : 1 + cB n b + cB n o ≤ 200 := hc
      have lb := tB_len n b ok1
      have lo := tB_len n o ok2
      have hT1 := sqt_keep (KeepT.of_same s1) hT
      refine ⟨_, rfl, _, rfl, a, _, _, _, rfl, rfl, hT1, atI_nat (j := 1) rfl, x1, b, rfl, dp_keep (KeepT.of_same s1) _ _ (dB_noL n b) h1, ok1, by omega, fun H2 p2 s2 hp2 => ⟨p2, _, rfl, .inr (SqL.of hp2), ?_⟩⟩
      have hT2 := sqt_keep (KeepT.of_same s2) hT1
      refine ⟨_, rfl, a, _, _, _, rfl, rfl, hT2, atI_nat (j := 2) rfl, x2, o, rfl, dp_keep (KeepT.of_same (s1.trans s2)) _ _ (dB_noL n o) h2, ok2, by omega, fun H3 p3 s3 hp3 => ⟨p3, _, rfl, .inr (SqL.of hp3), line5 ?_, fun p4 hp4 => ?_⟩⟩
      · simp only [List.length_append, List.length_cons, List.length_nil, List.length_map]
        omega
      · refine q _ p4 (((s1.trans s2).trans s3).trans (same_new hp4)) ?_
        rw [upd_same]
        refine congrArg (fun l => some (HO.lst l)) ?_
        show V.str "guard" :: ((tB n b).map V.str ++ (V.str "handle" :: ((tB n o).map V.str ++ []))) = (("guard" : Str) :: (tB n b ++ (("handle" : Str) :: tB n o))).map V.str
        simp only [List.map_append, List.map_cons, List.append_nil]
    | plain wd as =>
      obtain ⟨a, xs, rfl, hT, hA⟩ := dp_tup (id hd)
      obtain ⟨x0, r0, rfl, h0, hA0⟩ := dpA_cons hA
      cases dp_str h0
      obtain ⟨ok1, ok2, ok3⟩ := ok
      obtain ⟨w1, w2, w3, w4, w5, w6⟩ := plain_no ok1
      refine ⟨_, rfl, a, _, _, _, rfl, rfl, hT, atI_nat (j := 0) rfl, ?_⟩
      refine ⟨_, rfl, by show 2 ≤ sizeLine; decide, fun p hp => ⟨p, _, rfl, .inr (SqT.of upd_same), rfl, by decide +kernel, _, rfl, ?_⟩⟩
      have s1 := same_new (o := .tup [V.str "put", .str "take"]) hp
      refine ite2 (fun e => absurd e (by show ¬ inV (.str wd) [V.str "put", .str "take"] = true; rw [w1]; exact Bool.false_ne_true)) (fun _ => ?_)
      refine ⟨_, rfl, rfl, _, rfl, ?_⟩
      refine ite2 (fun e => absurd e (by rw [w2]; exact Bool.false_ne_true)) (fun _ => ?_)
      refine ⟨_, rfl, rfl, _, rfl, ?_⟩
      refine ite2 (fun e => absurd e (by rw [w3]; exact Bool.false_ne_true)) (fun _ => ?_)
      refine ⟨_, rfl, rfl, _, rfl, ?_⟩
      refine ite2 (fun e => absurd e (by rw [w4]; exact Bool.false_ne_true)) (fun _ => ?_)
      refine ⟨_, rfl, rfl, _, rfl, ?_⟩
      refine ite2 (fun e => absurd e (by rw [w5]; exact Bool.false_ne_true)) (fun _ => ?_)
      refine ⟨_, rfl, rfl, _, rfl, ?_⟩
      refine ite2 (fun e => absurd e (by rw [w6]; exact Bool.false_ne_true)) (fun _ => ?_)
      have hT1 := sqt_keep (KeepT.of_same s1) hT
      have xl : (V.str wd :: r0).length = as.length + 1 := by
        have := dpA_len hA
        simp only [List.length_cons, List.length_map] at this
        simp only [List.length_cons]
        exact this
      have e0 : (.str wd :: as.map Atm.d : List PyData) = (Atm.s wd :: as).map Atm.d := rfl
      rw [e0] at hA
      refine ⟨_, rfl, a, rfl, ⟨_, hT1⟩, fun L hL => lc_tup (K := K) (a := a) (xs := V.str wd :: r0) (fun j H2 => Same (upd H p (.tup [V.str "put", .str "take"])) H2 ∧ H2 L = some (.lst ((((Atm.s wd :: as).take j).map Atm.t).map V.str))) ⟨same_new hL, upd_same⟩ (fun j H2 _ e => sqt_keep (KeepT.of_same e.1) hT1) ?_ ?_⟩
      · rintro j x H2 hj ⟨s3, h3⟩
        obtain ⟨dd, e1, e2⟩ := dpA_at hA hj
        obtain ⟨am, e3, rfl⟩ := map_at e1
        have hjl := (List.getElem?_eq_some_iff.mp e3).1
        have ll : ((((Atm.s wd :: as).take j).map Atm.t).map V.str).length < sizeLine := line6 (by rw [List.length_map, List.length_map, List.length_take, List.length_cons]; omega)
        have ee : ∀ z : Str, z = am.t → Same (upd H p (.tup [V.str "put", .str "take"])) (upd H2 L (.lst ((((Atm.s wd :: as).take j).map Atm.t).map V.str ++ [V.str z]))) ∧ (upd H2 L (.lst ((((Atm.s wd :: as).take j).map Atm.t).map V.str ++ [V.str z]))) L = some (.lst ((((Atm.s wd :: as).take (j + 1)).map Atm.t).map V.str)) := fun z ez => by
          subst ez
          refine ⟨same_mut s3 hL, ?_⟩
          rw [upd_same, ← take_map_succ (f := Atm.t) e3]
          exact congrArg (fun l => some (HO.lst l)) (snoc_str _ _)
        cases am with
        | s z =>
          cases dp_str e2
          exact ⟨rfl, _, rfl, .inr ⟨z, rfl, _, h3, ll, ee z rfl⟩⟩
        | i z =>
          cases dp_int e2
          have hz : okI z := by
            have hm := List.mem_of_getElem? e3
            rcases List.mem_cons.mp hm with h | h
            · cases h
            · exact ok3 _ h
          exact ⟨rfl, _, rfl, .inl ⟨z, rfl, num_log hz, _, h3, ll, ee (num z) rfl⟩⟩
      · rintro H2 ⟨s3, h3⟩
        rw [List.take_of_length_le (by rw [xl]; exact Nat.le_refl _)] at h3
        refine ⟨L, _, rfl, .inr (SqL.of h3), line5 ?_, fun p3 hp3 => ?_⟩
        · simp only [List.length_append, List.length_cons, List.length_nil, List.length_map]
          omega
        · refine q _ p3 ((s1.trans s3).trans (same_new hp3)) ?_
          rw [upd_same]
          refine congrArg (fun l => some (HO.lst l)) ?_
          show (wd :: as.map Atm.t).map V.str ++ [V.str ";"] = (wd :: (as.map Atm.t ++ ([";"] : List Str))).map V.str
          simp only [List.map_append, List.map_cons, List.map_nil, List.cons_append]
    | parts wd ps =>
      obtain ⟨a, xs, rfl, hT, hA⟩ := dp_tup (id hd)
      obtain ⟨x0, r0, rfl, h0, hA1⟩ := dpA_cons hA
      obtain ⟨x1, r1, rfl, h1, hA2⟩ := dpA_cons hA1
      cases dpA_nil hA2
      cases dp_str h0
      obtain ⟨ok1, ok0, ok2, ok3⟩ := ok
      obtain ⟨pa, ys, rfl, hTa, hAa⟩ := dp_tup h1
      have yl : ys.length = ps.length := by
        have := dpA_len hAa
        rw [List.length_map] at this
        exact this
      refine ⟨_, rfl, a, _, _, _, rfl, rfl, hT, atI_nat (j := 0) rfl, ?_⟩
      refine ⟨_, rfl, by show 2 ≤ sizeLine; decide, fun p hp => ⟨p, _, rfl, .inr (SqT.of upd_same), rfl, by decide +kernel, _, rfl, ?_⟩⟩
      have s1 := same_new (o := .tup [V.str "put", .str "take"]) hp
      have w1 : inV (.str wd) [V.str "put", .str "take"] = true := by
        rcases ok1 with h | h <;> subst h <;> decide +kernel
      refine ite2 (fun _ => ?_) (fun e => absurd w1 e)
      have hT1 := sqt_keep (KeepT.of_same s1) hT
      have hTa1 := sqt_keep (KeepT.of_same s1) hTa
      refine ⟨_, rfl, a, _, _, _, rfl, rfl, hT1, atI_nat (j := 1) rfl, pa, rfl, ⟨_, hTa1⟩, fun L hL => lc_tup (K := K) (a := pa) (xs := ys) (fun j H2 => ∃ zs, Same (upd H p (.tup [V.str "put", .str "take"])) H2 ∧ H2 L = some (.lst zs) ∧ RowsN L H2 zs ((ps.take j).map fun p => [p.1, num p.2])) ⟨[], same_new hL, upd_same, .nil⟩ (fun j H2 _ ⟨_, e, _⟩ => sqt_keep (KeepT.of_same e) hTa1) ?_ ?_⟩
      · rintro j x H2 hj ⟨zs, s3, h3, h4⟩
        obtain ⟨dd, e1, e2⟩ := dpA_at hAa hj
        obtain ⟨pp, e3, rfl⟩ := map_at e1
        obtain ⟨pb, ws, rfl, hTb, hAb⟩ := dp_tup e2
        obtain ⟨z0, t0, rfl, g0, hAb1⟩ := dpA_cons hAb
        obtain ⟨z1, t1, rfl, g1, hAb2⟩ := dpA_cons hAb1
        cases dpA_nil hAb2
        cases dp_str g0
        cases dp_int g1
        have hjl := (List.getElem?_eq_some_iff.mp e3).1
        have okp := ok3 pp (List.mem_of_getElem? e3)
        have zl : zs.length = ((ps.take j).map fun p : Str × Int => ([p.1, num p.2] : List Str)).length := Paired.length h4
        rw [List.length_map, List.length_take] at zl
        refine ⟨pb, _, rfl, sqt_keep (KeepT.of_same (s1.trans s3)) hTb, rfl, _, _, rfl, _, _, rfl, rfl, rfl, ?_⟩
        refine ⟨_, rfl, _, rfl, pp.2, rfl, num_log okp.2, by show 2 ≤ sizeLine; decide, fun q0 hq0 => ?_⟩
        refine ⟨zs, by rw [upd_ne (ne_of_none h3 hq0)]; exact h3, line6 (by omega), zs ++ [V.ref q0], same_mut (s3.trans (same_new hq0)) hL, upd_same, ?_⟩
        rw [← take_map_succ (f := fun p : Str × Int => ([p.1, num p.2] : List Str)) e3]
        have nq : q0 ≠ L := fun e => by
          rw [e, h3] at hq0
          cases hq0
        refine Paired.snoc (Paired.mono (fun v r ⟨y, ey, ny, hy⟩ => ⟨y, ey, ny, by rw [upd_ne ny, upd_ne (ne_of_none hy hq0)]; exact hy⟩) h4) ⟨q0, rfl, nq, ?_⟩
        rw [upd_ne nq]
        exact upd_same
      · rintro H2 ⟨zs, s3, h3, h4⟩
        rw [List.take_of_length_le (by omega)] at h4
        have hln := lst_len (ps.map fun p => [p.1, num p.2]) []
        rw [List.map_map, List.length_nil] at hln
        have hl2 := sum_const ((fun r : List Str => r.length + 1) ∘ fun p : Str × Int => [p.1, num p.2]) 3 ps fun _ _ => Nat.le_refl _
        refine ⟨L, zs, _, rfl, SqL.of h3, Paired.mono (fun v r ⟨y, ey, _, hy⟩ => ⟨y, ey, hy⟩) h4, by rw [List.length_map]; omega, fun r hr => ?_, fun H3 q0 s4 hq0 => ?_⟩
        · obtain ⟨x, _, rfl⟩ := List.mem_map.mp hr
          show 2 ≤ 10
          decide
        · refine ⟨_, rfl, _, rfl, q0, _, rfl, .inr (SqL.of hq0), line5 ?_, fun p3 hp3 => ?_⟩
          · simp only [List.length_append, List.length_cons, List.length_nil, List.length_map]
            omega
          · refine q _ p3 (((s1.trans s3).trans s4).trans (same_new hp3)) ?_
            rw [upd_same]
            refine congrArg (fun l => some (HO.lst l)) ?_
            show V.str wd :: ((lst [] (ps.map fun p => [p.1, num p.2])).map V.str ++ [V.str ";"]) = (wd :: (lst [] (ps.map fun p => [p.1, num p.2]) ++ ([";"] : List Str))).map V.str
            simp only [List.map_append, List.map_cons, List.map_nil]
end
/-! ### items, processes, models -/
inductive It where
  | res (nm : Str) (spans : List (Int × Int))
  | belt (nm : Str) (l : Int) (room : Option Int)
  | two (w nm : Str) (a b : Int)
def dSpan (p : Int × Int) : PyData := .tuple [.int p.1, .int p.2]
def rSpan (p : Int × Int) : List Str := [num p.1, "for", num p.2]
def dI : It → PyData
  | .res nm spans => .tuple [.str "resource", .str nm, .tuple (spans.map dSpan)]
  | .belt nm l room => .tuple [.str "belt", .str nm, .int l, dOpt room]
  | .two w nm a b => .tuple [.str w, .str nm, .int a, .int b]
def tI : It → List Str
  | .res nm spans => ("resource" : Str) :: nm :: ("plan" : Str) :: (lst [] (spans.map rSpan) ++ ([";"] : List Str))
  | .belt nm l none => (["belt", nm, "length", num l, ";"] : List Str)
  | .belt nm l (some r) => (["belt", nm, "length", num l, "room", num r, ";"] : List Str)
  | .two w nm a b => ([w, nm, num a, "of", num b, ";"] : List Str)
def okIt : It → Prop
  | .res nm spans => okN nm ∧ 0 < spans.length ∧ spans.length ≤ 6 ∧ ∀ p ∈ spans, okI p.1 ∧ okI p.2
  | .belt nm l room => okN nm ∧ okI l ∧ ∀ x, room = some x → okI x
  | .two w nm a b => (w = "store" ∨ w = "counter") ∧ okN nm ∧ okI a ∧ okI b
abbrev Pr (n : Nat) : Type := Str × Int × Bd n × Bd n
def dP (n : Nat) (p : Pr n) : PyData := .tuple [.str "process", .str p.1, .int p.2.1, dB n p.2.2.1, dB n p.2.2.2]
def tP (n : Nat) (p : Pr n) : List Str := (["process", p.1, "at", num p.2.1] : List Str) ++ (tB n p.2.2.1 ++ (("cycle" : Str) :: tB n p.2.2.2))
def okP (n : Nat) (p : Pr n) : Prop := okN p.1 ∧ okI p.2.1 ∧ okB n p.2.2.1 ∧ okB n p.2.2.2
def cP (n : Nat) (p : Pr n) : Nat := cB n p.2.2.1 + cB n p.2.2.2
structure Mdl (n : Nat) where
  base : Int
  streams : List Str
  items : List It
  procs : List (Pr n)
def dM {n : Nat} (m : Mdl n) : PyData := .tuple [.str "model", .int m.base, .tuple (m.streams.map PyData.str), .tuple (m.items.map dI), .tuple (m.procs.map (dP n))]
def tM {n : Nat} (m : Mdl n) : List Str := (["model", num m.base, "streams"] : List Str) ++ (m.streams ++ [("{" : Str)]) ++ m.items.flatMap tI ++ m.procs.flatMap (tP n) ++ [("}" : Str)]
structure okM {n : Nat} (m : Mdl n) : Prop where
  base : okI m.base
  few1 : m.streams.length ≤ 6
  few2 : m.items.length ≤ 6
  few3 : m.procs.length ≤ 6
  st : ∀ z ∈ m.streams, okN z
  it : ∀ i ∈ m.items, okIt i
  pr : ∀ p ∈ m.procs, okP n p
  few : (m.procs.map (cP n)).sum ≤ 150
theorem dI_noL : ∀ i : It, noL (dI i) = true
  | .res nm spans => by
    show (true && (true && (noLs (spans.map dSpan) && true))) = true
    rw [noLs_map dSpan spans fun _ _ => rfl]
    rfl
  | .belt nm l none => rfl
  | .belt nm l (some _) => rfl
  | .two _ _ _ _ => rfl
theorem dP_noL (n : Nat) (p : Pr n) : noL (dP n p) = true := by
  show (true && (true && (true && (noL (dB n p.2.2.1) && (noL (dB n p.2.2.2) && true))))) = true
  rw [dB_noL, dB_noL]
  rfl
theorem tI_len : ∀ i : It, okIt i → (tI i).length ≤ 40
  | .res nm spans, ⟨_, _, h, _⟩ => by
    have := lst_len (spans.map rSpan) []
    rw [List.map_map, List.length_nil] at this
    have h2 := sum_const ((fun r : List Str => r.length + 1) ∘ rSpan) 4 spans fun _ _ => Nat.le_refl _
    show (_ :: nm :: _ :: (lst [] (spans.map rSpan) ++ _)).length ≤ 40
    simp only [List.length_append, List.length_cons, List.length_nil]
    omega
  | .belt nm l none, _ => by show 5 ≤ 40; decide
  | .belt nm l (some _), _ => by show 7 ≤ 40; decide
  | .two _ _ _ _, _ => by show 6 ≤ 40; decide
theorem tP_len (n : Nat) (p : Pr n) (h : okP n p) : (tP n p).length ≤ 64 * cP n p + 9 := by
  have h1 := tB_len n _ h.2.2.1
  have h2 := tB_len n _ h.2.2.2
  show ((["process", p.1, "at", num p.2.1] : List Str) ++ (tB n p.2.2.1 ++ (("cycle" : Str) :: tB n p.2.2.2))).length ≤ 64 * (cB n p.2.2.1 + cB n p.2.2.2) + 9
  simp only [List.length_append, List.length_cons, List.length_nil]
  omega
theorem fm_le {α β : Type} (f : α → List β) (c : α → Nat) (k : Nat) : ∀ l : List α, (∀ x ∈ l, (f x).length ≤ 64 * c x + k) → (l.flatMap f).length ≤ 64 * (l.map c).sum + k * l.length
  | [], _ => Nat.zero_le _
  | x :: r, h => by
    rw [List.flatMap_cons, List.length_append, List.map_cons, List.sum_cons, List.length_cons, Nat.mul_succ]
    have := fm_le f c k r fun y hy => h y (List.mem_cons_of_mem _ hy)
    have := h x List.mem_cons_self
    omega
theorem fm_c {α β : Type} (f : α → List β) (k : Nat) : ∀ l : List α, (∀ x ∈ l, (f x).length ≤ k) → (l.flatMap f).length ≤ k * l.length
  | [], _ => Nat.zero_le _
  | x :: r, h => by
    rw [List.flatMap_cons, List.length_append, List.length_cons, Nat.mul_succ]
    have := fm_c f k r fun y hy => h y (List.mem_cons_of_mem _ hy)
    have := h x List.mem_cons_self
    omega
/-! ### each token is short -/
abbrev okT (t : Str) : Prop := t.length ≤ 10
theorem okT_num {n : Int} (h : okI n) : okT (num n) := by
  have := (num_ok h).1
  show _ ≤ _
  omega
theorem okT_n {z : Str} (h : okN z) : okT z := Nat.le_succ_of_le h.1
theorem lst_mem : ∀ (rs : List (List Str)) (acc : List Str) (t : Str), t ∈ lst acc rs → t ∈ acc ∨ t = "," ∨ ∃ r ∈ rs, t ∈ r
  | [], acc, t, h => .inl h
  | r :: rs, acc, t, h => by
    rcases lst_mem rs _ t h with h | h | ⟨r', h1, h2⟩
    · rcases List.mem_append.mp h with h | h
      · split at h
        · exact .inl h
        · rcases List.mem_append.mp h with h | h
          · exact .inl h
          · exact .inr (.inl (List.mem_singleton.mp h))
      · exact .inr (.inr ⟨r, List.mem_cons_self, h⟩)
    · exact .inr (.inl h)
    · exact .inr (.inr ⟨r', List.mem_cons_of_mem _ h1, h2⟩)
theorem plain_len : PLAIN.all (fun w => decide (w.length ≤ 10)) = true := by decide +kernel
theorem tS_tok {B : Type} {tb : B → List Str} {em : B → Bool} {ob : B → Prop} (hb : ∀ b, ob b → ∀ t ∈ tb b, okT t) : ∀ s : S1 B, okS ob s → ∀ t ∈ tS tb em s, okT t
  | .plain w as, ⟨h1, _, h3⟩, t, ht => by
    rcases List.mem_cons.mp ht with h | h
    · subst h
      exact of_decide_eq_true (List.all_eq_true.mp plain_len _ h1)
    · rcases List.mem_append.mp h with h | h
      · obtain ⟨a, ha, rfl⟩ := List.mem_map.mp h
        have := h3 a ha
        cases a with
        | s z => exact okT_n this
        | i z => exact okT_num this
      · rw [List.mem_singleton.mp h]
        decide +kernel
  | .parts w ps, ⟨h1, _, _, h3⟩, t, ht => by
    rcases List.mem_cons.mp ht with h | h
    · subst h
      rcases h1 with h | h <;> subst h <;> decide +kernel
    · rcases List.mem_append.mp h with h | h
      · rcases lst_mem _ _ _ h with h | h | ⟨r, h4, h5⟩
        · exact absurd h List.not_mem_nil
        · subst h
          decide +kernel
        · obtain ⟨p, hp, rfl⟩ := List.mem_map.mp h4
          obtain ⟨o1, o2⟩ := h3 p hp
          simp only [List.mem_cons, List.not_mem_nil, or_false] at h5
          rcases h5 with h | h <;> subst h
          · exact okT_n o1
          · exact okT_num o2
      · rw [List.mem_singleton.mp h]
        decide +kernel
  | .draw nm arms, ⟨h1, _, h3⟩, t, ht => by
    have ht2 : t ∈ (["draw", nm, "{"] : List Str) ++ arms.flatMap (tArm tb) ++ (["}"] : List Str) := ht
    rw [List.mem_append, List.mem_append] at ht2
    rcases ht2 with (h | h) | h
    · simp only [List.mem_cons, List.not_mem_nil, or_false] at h
      rcases h with h | h | h <;> subst h
      · decide +kernel
      · exact okT_n h1
      · decide +kernel
    · obtain ⟨a, ha, h⟩ := List.mem_flatMap.mp h
      obtain ⟨_, _, o1, o2⟩ := h3 a ha
      rcases List.mem_cons.mp h with h | h
      · subst h
        decide +kernel
      · rcases List.mem_append.mp h with h | h
        · obtain ⟨i, hi, rfl⟩ := List.mem_map.mp h
          exact okT_num (o1 i hi)
        · exact hb _ o2 t h
    · rw [List.mem_singleton.mp h]
      decide +kernel
  | .use nm r none b o, ⟨h1, h2, _, h4, _⟩, t, ht => by
    have ht2 : t ∈ (["use", nm, "rank", num r] : List Str) ++ tb b := ht
    rcases List.mem_append.mp ht2 with h | h
    · simp only [List.mem_cons, List.not_mem_nil, or_false] at h
      rcases h with h | h | h | h <;> subst h
      · decide +kernel
      · exact okT_n h1
      · decide +kernel
      · exact okT_num h2
    · exact hb _ h4 t h
  | .use nm r (some p) b o, ⟨h1, h2, h3, h4, h5⟩, t, ht => by
    have ht2 : t ∈ (["use", nm, "rank", num r] : List Str) ++ (("patience" : Str) :: num p :: (tb b ++ (("else" : Str) :: tb o))) := ht
    rcases List.mem_append.mp ht2 with h | h
    · simp only [List.mem_cons, List.not_mem_nil, or_false] at h
      rcases h with h | h | h | h <;> subst h
      · decide +kernel
      · exact okT_n h1
      · decide +kernel
      · exact okT_num h2
    · rcases List.mem_cons.mp h with h | h
      · subst h
        decide +kernel
      · rcases List.mem_cons.mp h with h | h
        · subst h
          exact okT_num (h3 p rfl)
        · rcases List.mem_append.mp h with h | h
          · exact hb _ h4 t h
          · rcases List.mem_cons.mp h with h | h
            · subst h
              decide +kernel
            · exact hb _ h5 t h
  | .iff g nm n b o, ⟨h0, h1, h2, h4, h5⟩, t, ht => by
    have hd : ∀ t ∈ (["if", g, nm, num n] : List Str) ++ tb b, okT t := fun t h => by
      rcases List.mem_append.mp h with h | h
      · simp only [List.mem_cons, List.not_mem_nil, or_false] at h
        rcases h with h | h | h | h <;> subst h
        · decide +kernel
        · exact okT_n h0
        · exact okT_n h1
        · exact okT_num h2
      · exact hb _ h4 t h
    have ht2 : t ∈ (if em o = true then ((["if", g, nm, num n] : List Str) ++ tb b) else (((["if", g, nm, num n] : List Str) ++ tb b) ++ (("else" : Str) :: tb o))) := ht
    split at ht2
    · exact hd t ht2
    · rcases List.mem_append.mp ht2 with h | h
      · exact hd t h
      · rcases List.mem_cons.mp h with h | h
        · subst h
          decide +kernel
        · exact hb _ h5 t h
  | .loop n b, ⟨h1, h2⟩, t, ht => by
    rcases List.mem_cons.mp ht with h | h
    · subst h
      decide +kernel
    · rcases List.mem_cons.mp h with h | h
      · subst h
        exact okT_num h1
      · exact hb _ h2 t h
  | .guard b o, ⟨h1, h2⟩, t, ht => by
    rcases List.mem_cons.mp ht with h | h
    · subst h
      decide +kernel
    · rcases List.mem_append.mp h with h | h
      · exact hb _ h1 t h
      · rcases List.mem_cons.mp h with h | h
        · subst h
          decide +kernel
        · exact hb _ h2 t h
theorem tB_tok : ∀ (n : Nat) (b : Bd n), okB n b → ∀ t ∈ tB n b, okT t
  | 0, e, _, _, _ => nomatch e
  | n + 1, ss, h, t, ht => by
    have ht2 : t ∈ (["{"] : List Str) ++ List.flatMap (tS (tB n) (empB n)) ss ++ (["}"] : List Str) := ht
    rw [List.mem_append, List.mem_append] at ht2
    rcases ht2 with (h1 | h1) | h1
    · rw [List.mem_singleton.mp h1]
      decide +kernel
    · obtain ⟨s, hs, h2⟩ := List.mem_flatMap.mp h1
      exact tS_tok (tB_tok n) s (h s hs) t h2
    · rw [List.mem_singleton.mp h1]
      decide +kernel
/-! ### promises -/
/-- the signs of the whole -/
def flat (ts : List Str) : List Nat := ts.flatMap fun t => TL.tl (spc t)
def spItemT (K : PySem.W.Frag) : Sp := fun vs H Q _ => ∃ (v : V) (i : It), vs = [v] ∧ Dp K H v (dI i) ∧ okIt i ∧ Gives Q H (tI i)
def spProcT (K : PySem.W.Frag) (n : Nat) : Sp := fun vs H Q _ => ∃ (v : V) (p : Pr n), vs = [v] ∧ Dp K H v (dP n p) ∧ okP n p ∧ cP n p ≤ 150 ∧ Gives Q H (tP n p)
def spWrite (K : PySem.W.Frag) (n : Nat) : Sp := fun vs H Q _ => ∃ (v : V) (m : Mdl n), vs = [v] ∧ Dp K H v (dM m) ∧ okM m ∧ ∀ (H' : Hp) (z : Str), Same H H' → TL.tl z = flat (tM m) → Q (.str z) H'
theorem dpA_strs {K : PySem.W.Frag} {H : Hp} : ∀ {zs : List Str} {xs : List V}, DpAll K H xs (zs.map PyData.str) → xs = zs.map V.str
  | [], _, h => dpA_nil h
  | z :: zs, _, h => by
    obtain ⟨x, r, rfl, h1, h2⟩ := dpA_cons h
    rw [dp_str h1, dpA_strs h2]
    rfl
theorem joinL0 : ∀ l : List (List Nat), TL.joinL [] l = l.flatten
  | [] => rfl
  | [p] => by
    show p = _
    simp
  | p :: q :: r => by
    show p ++ ([] ++ TL.joinL [] (q :: r)) = _
    rw [joinL0 (q :: r)]
    rfl
theorem tl_join0 (ys : List Str) : TL.tl (Txt.join "" ys) = ys.flatMap TL.tl := by
  rw [TL.join_eq, TL.tl_join, show TL.tl "" = [] by decide +kernel, joinL0, List.flatMap_def]
theorem tI_tok : ∀ i : It, okIt i → ∀ t ∈ tI i, okT t
  | .res nm spans, ⟨h1, _, _, h3⟩, t, ht => by
    have ht2 : t ∈ ("resource" : Str) :: nm :: ("plan" : Str) :: (lst [] (spans.map rSpan) ++ ([";"] : List Str)) := ht
    simp only [List.mem_cons, List.mem_append, List.not_mem_nil, or_false] at ht2
    rcases ht2 with h | h | h | h | h
    · subst h
      decide +kernel
    · subst h
      exact okT_n h1
    · subst h
      decide +kernel
    · rcases lst_mem _ _ _ h with h | h | ⟨r, h4, h5⟩
      · exact absurd h List.not_mem_nil
      · subst h
        decide +kernel
      · obtain ⟨p, hp, rfl⟩ := List.mem_map.mp h4
        obtain ⟨o1, o2⟩ := h3 p hp
        have h6 : t ∈ ([num p.1, "for", num p.2] : List Str) := h5
        simp only [List.mem_cons, List.not_mem_nil, or_false] at h6
        rcases h6 with h | h | h <;> subst h
        · exact okT_num o1
        · decide +kernel
        · exact okT_num o2
    · subst h
      decide +kernel
  | .belt nm l none, ⟨h1, h2, _⟩, t, ht => by
    have ht2 : t ∈ (["belt", nm, "length", num l, ";"] : List Str) := ht
    simp only [List.mem_cons, List.not_mem_nil, or_false] at ht2
    rcases ht2 with h | h | h | h | h <;> subst h
    · decide +kernel
    · exact okT_n h1
    · decide +kernel
    · exact okT_num h2
    · decide +kernel
  | .belt nm l (some r), ⟨h1, h2, h3⟩, t, ht => by
    have ht2 : t ∈ (["belt", nm, "length", num l, "room", num r, ";"] : List Str) := ht
    simp only [List.mem_cons, List.not_mem_nil, or_false] at ht2
    rcases ht2 with h | h | h | h | h | h | h <;> subst h
    · decide +kernel
    · exact okT_n h1
    · decide +kernel
    · exact okT_num h2
    · decide +kernel
    · exact okT_num (h3 r rfl)
    · decide +kernel
  | .two w nm a b, ⟨h0, h1, h2, h3⟩, t, ht => by
    have ht2 : t ∈ ([w, nm, num a, "of", num b, ";"] : List Str) := ht
    simp only [List.mem_cons, List.not_mem_nil, or_false] at ht2
    rcases ht2 with h | h | h | h | h | h <;> subst h
    · rcases h0 with h | h <;> subst h <;> decide +kernel
    · exact okT_n h1
    · exact okT_num h2
    · decide +kernel
    · exact okT_num h3
    · decide +kernel
theorem tP_tok {n : Nat} (p : Pr n) (h : okP n p) : ∀ t ∈ tP n p, okT t := fun t ht => by
  obtain ⟨h1, h2, h3, h4⟩ := h
  have ht2 : t ∈ (["process", p.1, "at", num p.2.1] : List Str) ++ (tB n p.2.2.1 ++ (("cycle" : Str) :: tB n p.2.2.2)) := ht
  simp only [List.mem_cons, List.mem_append, List.not_mem_nil, or_false] at ht2
  rcases ht2 with (h | h | h | h) | h | h | h
  · subst h
    decide +kernel
  · subst h
    exact okT_n h1
  · subst h
    decide +kernel
  · subst h
    exact okT_num h2
  · exact tB_tok n _ h3 t h
  · subst h
    decide +kernel
  · exact tB_tok n _ h4 t h
theorem tM_tok {n : Nat} (m : Mdl n) (ok : okM m) : ∀ t ∈ tM m, okT t := fun t ht => by
  have ht2 : t ∈ (["model", num m.base, "streams"] : List Str) ++ (m.streams ++ [("{" : Str)]) ++ m.items.flatMap tI ++ m.procs.flatMap (tP n) ++ [("}" : Str)] := ht
  simp only [List.mem_cons, List.mem_append, List.not_mem_nil, or_false, List.mem_flatMap] at ht2
  rcases ht2 with ((((h | h | h) | h | h) | ⟨i, hi, h⟩) | ⟨p, hp, h⟩) | h
  · subst h
    decide +kernel
  · subst h
    exact okT_num ok.base
  · subst h
    decide +kernel
  · exact okT_n (ok.st t h)
  · subst h
    decide +kernel
  · exact tI_tok i (ok.it i hi) t h
  · exact tP_tok p (ok.pr p hp) t h
  · subst h
    decide +kernel
section
variable {P : Program} {w : World} {K : PySem.W.Frag} {mg : Str → Option Value} {base : Heap}
theorem ok_proc {n : Nat} (T : Txt K mg) (D_body_tokens : Kept P w K mg base (3 * n + 1) "body_tokens" ["body"] (spBodyT K n)) {f : Addr} {fd : FuncData} (F : FnP K "process_tokens" s_process_tokens f fd) :
    FnOk P w K mg base CX0 (3 * n + 2) f fd ["process"] (spProcT K n) := by
  refine F.ok sc_process_tokens (fun vs H Q E h => ?_) (fun cdv A outer s H vs Q E hr h => ?_)
  · obtain ⟨v, b, rfl, _⟩ := h
    rfl
  · obtain ⟨v, p, rfl, hd, ⟨ok1, ok2, ok3, ok4⟩, hc, q⟩ := h
    obtain ⟨a, xs, rfl, hT, hA⟩ := dp_tup hd
    obtain ⟨x0, r0, rfl, h0, hA1⟩ := dpA_cons hA
    obtain ⟨x1, r1, rfl, h1, hA2⟩ := dpA_cons hA1
    obtain ⟨x2, r2, rfl, h2, hA3⟩ := dpA_cons hA2
    obtain ⟨x3, r3, rfl, h3, hA4⟩ := dpA_cons hA3
    obtain ⟨x4, r4, rfl, h4, hA5⟩ := dpA_cons hA4
    cases dpA_nil hA5
    cases dp_str h0
    cases dp_str h1
    cases dp_int h2
    have hcb : cB n p.2.2.1 + cB n p.2.2.2 ≤ 150 := hc
    have lb := tB_len n _ ok3
    have lo := tB_len n _ ok4
    refine ⟨_, PSs.nox (pss_cons (ps_asg (pv 0) (pg_tup rfl (pgs_cons (pg_name (i := 1) sc_process_tokens.nd rfl (Or.inl rfl)) (pgs_cons (pg_name (i := 2) sc_process_tokens.nd rfl (Or.inl rfl)) (pgs_cons (pg_name (i := 3) sc_process_tokens.nd rfl (Or.inl rfl)) (pgs_cons (pg_name (i := 4) sc_process_tokens.nd rfl (Or.inl rfl)) (pgs_cons (pg_name (i := 5) sc_process_tokens.nd rfl (Or.inl rfl)) pgs_nil)))))))
      (pss_one (ps_ret (pe_lst (pa_cons pe_str (pa_cons (pv 2) (pa_cons pe_str (pa_cons (pe_callTy call_str_int (by rfl) T.b_str (by decide +kernel) (pa_cons (pv 3) pa_nil)) (StX.pa_star (pe_d D_body_tokens (hr.mono (by omega)) (by rfl) (pa_cons (pv 4) pa_nil)) (pa_cons pe_str (StX.pa_star (pe_d D_body_tokens (hr.mono (by omega)) (by rfl) (pa_cons (pv 5) pa_nil)) pa_nil))))))))))), ?_⟩
    refine ⟨_, rfl, a, _, rfl, hT, rfl, _, _, rfl, _, _, rfl, _, _, rfl, _, _, rfl, _, _, rfl, rfl, ?_⟩
    refine ⟨_, rfl, _, rfl, _, rfl, num_log ok2, _, rfl, x3, _, rfl, h3, ok3, by omega, fun H1 p1 s1 hp1 => ⟨p1, _, rfl, .inr (SqL.of hp1), ?_⟩⟩
    refine ⟨_, rfl, x4, _, rfl, dp_keep (KeepT.of_same s1) _ _ (dB_noL n _) h4, ok4, by omega, fun H2 p2 s2 hp2 => ⟨p2, _, rfl, .inr (SqL.of hp2), line5 ?_, fun p3 hp3 => ?_⟩⟩
    · simp only [List.length_append, List.length_cons, List.length_nil, List.length_map]
      omega
    · refine q _ p3 ((s1.trans s2).trans (same_new hp3)) ?_
      rw [upd_same]
      refine congrArg (fun l => some (HO.lst l)) ?_
      show V.str "process" :: V.str p.1 :: V.str "at" :: V.str (num p.2.1) :: ((tB n p.2.2.1).map V.str ++ (V.str "cycle" :: ((tB n p.2.2.2).map V.str ++ []))) = ((["process", p.1, "at", num p.2.1] : List Str) ++ (tB n p.2.2.1 ++ (("cycle" : Str) :: tB n p.2.2.2))).map V.str
      simp only [List.map_append, List.map_cons, List.map_nil, List.append_nil]
      rfl
theorem ok_item (T : Txt K mg) (D_listed : Kept P w K mg base 1 "listed" ["rows"] (spListed K)) {f : Addr} {fd : FuncData} (F : FnP K "item_tokens" s_item_tokens f fd) :
    FnOk P w K mg base CX0 2 f fd ["item"] (spItemT K) := by
  refine F.ok sc_item_tokens (fun vs H Q E h => ?_) (fun cdv A outer s H vs Q E hr h => ?_)
  · obtain ⟨v, b, rfl, _⟩ := h
    rfl
  · obtain ⟨v, it, rfl, hd, ok, q⟩ := h
    refine ⟨_, PSs.nox (pss_cons (ps_set (i := 1) sc_item_tokens.nd rfl (Or.inl rfl) (pe_ix ix_tup (pv 0) pe_int (fun _ _ => rfl)))
      (pss_cons (ps_if (pt_cmpR op_eq (pv 1) pe_str (nomark _)) (pss_cons (ps_set (i := 2) sc_item_tokens.nd rfl (Or.inl rfl) (pe_d D_listed (hr.mono (by decide)) (by rfl) (pa_cons (pe_lc (own := [("units", 3), ("ticks", 4)]) (g := (gTup K 2 (gCons (gName 3) (gCons (gName 4) gNil)))) (tt := tYes) rfl sc_item_tokens.nd (pi_tup (pe_ix ix_tup (pv 0) pe_int (fun _ _ => rfl))) (blkOk_by (N := N_item_tokens) (sc := defScope s_item_tokens) (by decide +kernel)) (fun _ _ _ _ _ => (pg_tup rfl (pgs_cons (pg_name (i := 3) sc_item_tokens.nd rfl (Or.inl rfl)) (pgs_cons (pg_name (i := 4) sc_item_tokens.nd rfl (Or.inl rfl)) pgs_nil)))) (fun _ _ _ _ _ => pts_nil) (fun _ _ _ _ _ => (pe_lst (pa_cons (pe_callTy call_str_int (by rfl) T.b_str (by decide +kernel) (pa_cons (pv 3) pa_nil)) (pa_cons pe_str (pa_cons (pe_callTy call_str_int (by rfl) T.b_str (by decide +kernel) (pa_cons (pv 4) pa_nil)) pa_nil)))))) pa_nil)))
      (pss_one (ps_ret (pe_lst (pa_cons (pv 1) (pa_cons (pe_ix ix_tup (pv 0) pe_int (fun _ _ => rfl)) (pa_cons pe_str (StX.pa_star (pv 2) (pa_cons pe_str pa_nil))))))))) pss_nil)
      (pss_cons (ps_if (pt_cmpR op_eq (pv 1) pe_str (nomark _)) (pss_cons (ps_set (i := 5) sc_item_tokens.nd rfl (Or.inl rfl) (pe_ifExp (pt_cmpR op_isN (pe_ix ix_tup (pv 0) pe_int (fun _ _ => rfl)) pe_non (nomark _)) (pe_lst pa_nil) (pe_lst (pa_cons pe_str (pa_cons (pe_callTy call_str_int (by rfl) T.b_str (by decide +kernel) (pa_cons (pe_ix ix_tup (pv 0) pe_int (fun _ _ => rfl)) pa_nil)) pa_nil)))))
      (pss_one (ps_ret (pe_lst (pa_cons (pv 1) (pa_cons (pe_ix ix_tup (pv 0) pe_int (fun _ _ => rfl)) (pa_cons pe_str (pa_cons (pe_callTy call_str_int (by rfl) T.b_str (by decide +kernel) (pa_cons (pe_ix ix_tup (pv 0) pe_int (fun _ _ => rfl)) pa_nil)) (StX.pa_star (pv 5) (pa_cons pe_str pa_nil)))))))))) pss_nil)
      (pss_one (ps_ret (pe_lst (pa_cons (pv 1) (pa_cons (pe_ix ix_tup (pv 0) pe_int (fun _ _ => rfl)) (pa_cons (pe_callTy call_str_int (by rfl) T.b_str (by decide +kernel) (pa_cons (pe_ix ix_tup (pv 0) pe_int (fun _ _ => rfl)) pa_nil)) (pa_cons pe_str (pa_cons (pe_callTy call_str_int (by rfl) T.b_str (by decide +kernel) (pa_cons (pe_ix ix_tup (pv 0) pe_int (fun _ _ => rfl)) pa_nil)) (pa_cons pe_str pa_nil)))))))))))), ?_⟩
    cases it with
    | res nm spans =>
      obtain ⟨a, xs, rfl, hT, hA⟩ := dp_tup (id hd)
      obtain ⟨x0, r0, rfl, h0, hA1⟩ := dpA_cons hA
      obtain ⟨x1, r1, rfl, h1, hA2⟩ := dpA_cons hA1
      obtain ⟨x2, r2, rfl, h2, hA3⟩ := dpA_cons hA2
      cases dpA_nil hA3
      cases dp_str h0
      cases dp_str h1
      obtain ⟨ok1, ok0, ok2, ok3⟩ := ok
      obtain ⟨pa, ys, rfl, hTa, hAa⟩ := dp_tup h2
      have yl : ys.length = spans.length := by
        have := dpA_len hAa
        rw [List.length_map] at this
        exact this
      refine ⟨_, rfl, a, _, _, _, rfl, rfl, hT, atI_nat (j := 0) rfl, ?_⟩
      refine ⟨_, rfl, rfl, _, rfl, ?_⟩
      refine ite2 (fun _ => ?_) (fun e => absurd (decide_eq_true rfl) e)
      refine ⟨_, rfl, a, _, _, _, rfl, rfl, hT, atI_nat (j := 2) rfl, pa, rfl, ⟨_, hTa⟩, fun L hL => lc_tup (K := K) (a := pa) (xs := ys) (fun j H2 => ∃ zs, Same H H2 ∧ H2 L = some (.lst zs) ∧ RowsN L H2 zs ((spans.take j).map rSpan)) ⟨[], same_new hL, upd_same, .nil⟩ (fun j H2 _ ⟨_, e, _⟩ => sqt_keep (KeepT.of_same e) hTa) ?_ ?_⟩
      · rintro j x H2 hj ⟨zs, s3, h3, h4⟩
        obtain ⟨dd, e1, e2⟩ := dpA_at hAa hj
        obtain ⟨pp, e3, rfl⟩ := map_at e1
        obtain ⟨pb, ws, rfl, hTb, hAb⟩ := dp_tup e2
        obtain ⟨z0, t0, rfl, g0, hAb1⟩ := dpA_cons hAb
        obtain ⟨z1, t1, rfl, g1, hAb2⟩ := dpA_cons hAb1
        cases dpA_nil hAb2
        cases dp_int g0
        cases dp_int g1
        have hjl := (List.getElem?_eq_some_iff.mp e3).1
        have okp := ok3 pp (List.mem_of_getElem? e3)
        have zl : zs.length = ((spans.take j).map rSpan).length := Paired.length h4
        rw [List.length_map, List.length_take] at zl
        refine ⟨pb, _, rfl, sqt_keep (KeepT.of_same s3) hTb, rfl, _, _, rfl, _, _, rfl, rfl, rfl, ?_⟩
        refine ⟨_, rfl, pp.1, rfl, num_log okp.1, _, rfl, pp.2, rfl, num_log okp.2, by show 3 ≤ sizeLine; decide, fun q0 hq0 => ?_⟩
        have nq : q0 ≠ L := fun e => by
          rw [e, h3] at hq0
          cases hq0
        refine ⟨zs, by rw [upd_ne (ne_of_none h3 hq0)]; exact h3, line6 (by omega), zs ++ [V.ref q0], same_mut (s3.trans (same_new hq0)) hL, upd_same, ?_⟩
        rw [← take_map_succ (f := rSpan) e3]
        refine Paired.snoc (Paired.mono (fun v r ⟨y, ey, ny, hy⟩ => ⟨y, ey, ny, by rw [upd_ne ny, upd_ne (ne_of_none hy hq0)]; exact hy⟩) h4) ⟨q0, rfl, nq, ?_⟩
        rw [upd_ne nq]
        exact upd_same
      · rintro H2 ⟨zs, s3, h3, h4⟩
        rw [List.take_of_length_le (by omega)] at h4
        have tl := tI_len (.res nm spans) ⟨ok1, ok0, ok2, ok3⟩
        have tl2 : (("resource" : Str) :: nm :: ("plan" : Str) :: (lst [] (spans.map rSpan) ++ ([";"] : List Str))).length ≤ 40 := tl
        simp only [List.length_append, List.length_cons, List.length_nil] at tl2
        refine ⟨L, zs, _, rfl, SqL.of h3, Paired.mono (fun v r ⟨y, ey, _, hy⟩ => ⟨y, ey, hy⟩) h4, by rw [List.length_map]; omega, fun r hr => ?_, fun H3 q0 s4 hq0 => ?_⟩
        · obtain ⟨x, _, rfl⟩ := List.mem_map.mp hr
          show 3 ≤ 10
          decide
        · refine ⟨_, rfl, _, rfl, a, _, _, _, rfl, rfl, sqt_keep (KeepT.of_same (s3.trans s4)) hT, atI_nat (j := 1) rfl, _, rfl, q0, _, rfl, .inr (SqL.of hq0), line5 ?_, fun p3 hp3 => ?_⟩
          · simp only [List.length_append, List.length_cons, List.length_nil, List.length_map]
            omega
          · refine q _ p3 ((s3.trans s4).trans (same_new hp3)) ?_
            rw [upd_same]
            refine congrArg (fun l => some (HO.lst l)) ?_
            show V.str "resource" :: V.str nm :: V.str "plan" :: ((lst [] (spans.map rSpan)).map V.str ++ [V.str ";"]) = (("resource" : Str) :: nm :: ("plan" : Str) :: (lst [] (spans.map rSpan) ++ ([";"] : List Str))).map V.str
            simp only [List.map_append, List.map_cons, List.map_nil]
    | belt nm l room =>
      obtain ⟨a, xs, rfl, hT, hA⟩ := dp_tup (id hd)
      obtain ⟨x0, r0, rfl, h0, hA1⟩ := dpA_cons hA
      obtain ⟨x1, r1, rfl, h1, hA2⟩ := dpA_cons hA1
      obtain ⟨x2, r2, rfl, h2, hA3⟩ := dpA_cons hA2
      obtain ⟨x3, r3, rfl, h3, hA4⟩ := dpA_cons hA3
      cases dpA_nil hA4
      cases dp_str h0
      cases dp_str h1
      cases dp_int h2
      obtain ⟨ok1, ok2, ok3⟩ := ok
      refine ⟨_, rfl, a, _, _, _, rfl, rfl, hT, atI_nat (j := 0) rfl, ?_⟩
      refine ⟨_, rfl, rfl, _, rfl, ?_⟩
      refine ite2 (fun e => absurd e (by decide +kernel)) (fun _ => ?_)
      refine ⟨_, rfl, rfl, _, rfl, ?_⟩
      refine ite2 (fun _ => ?_) (fun e => absurd (decide_eq_true rfl) e)
      cases room with
      | none =>
        cases dp_non h3
        refine ⟨_, rfl, a, _, _, _, rfl, rfl, hT, atI_nat (j := 3) rfl, rfl, _, rfl, ?_⟩
        refine ite2 (fun _ => ?_) (fun e => absurd (decide_eq_true rfl) e)
        refine ⟨Nat.zero_le _, fun L hL => ?_⟩
        have s1 := same_new (o := .lst []) hL
        have hT1 := sqt_keep (KeepT.of_same s1) hT
        refine ⟨_, rfl, _, rfl, a, _, _, _, rfl, rfl, hT1, atI_nat (j := 1) rfl, _, rfl, a, _, _, _, rfl, rfl, hT1, atI_nat (j := 2) rfl, l, rfl, num_log ok2, ?_⟩
        refine ⟨_, rfl, L, [], rfl, .inr (SqL.of upd_same), line5 (by show 5 ≤ 100000; decide), fun p3 hp3 => ?_⟩
        exact q _ p3 (s1.trans (same_new hp3)) (by rw [upd_same]; rfl)
      | some rr =>
        cases dp_int h3
        have okr := ok3 rr rfl
        refine ⟨_, rfl, a, _, _, _, rfl, rfl, hT, atI_nat (j := 3) rfl, rfl, _, rfl, ?_⟩
        refine ite2 (fun e => absurd e (by rw [decide_eq_false (fun z => by cases z)]; exact Bool.false_ne_true)) (fun _ => ?_)
        refine ⟨_, rfl, a, _, _, _, rfl, rfl, hT, atI_nat (j := 3) rfl, rr, rfl, num_log okr, by show 2 ≤ sizeLine; decide, fun L hL => ?_⟩
        have s1 := same_new (o := .lst [V.str "room", .str (num rr)]) hL
        have hT1 := sqt_keep (KeepT.of_same s1) hT
        refine ⟨_, rfl, _, rfl, a, _, _, _, rfl, rfl, hT1, atI_nat (j := 1) rfl, _, rfl, a, _, _, _, rfl, rfl, hT1, atI_nat (j := 2) rfl, l, rfl, num_log ok2, ?_⟩
        refine ⟨_, rfl, L, _, rfl, .inr (SqL.of upd_same), line5 (by show 7 ≤ 100000; decide), fun p3 hp3 => ?_⟩
        exact q _ p3 (s1.trans (same_new hp3)) (by rw [upd_same]; rfl)
    | two wd nm m1 m2 =>
      obtain ⟨a, xs, rfl, hT, hA⟩ := dp_tup (id hd)
      obtain ⟨x0, r0, rfl, h0, hA1⟩ := dpA_cons hA
      obtain ⟨x1, r1, rfl, h1, hA2⟩ := dpA_cons hA1
      obtain ⟨x2, r2, rfl, h2, hA3⟩ := dpA_cons hA2
      obtain ⟨x3, r3, rfl, h3, hA4⟩ := dpA_cons hA3
      cases dpA_nil hA4
      cases dp_str h0
      cases dp_str h1
      cases dp_int h2
      cases dp_int h3
      obtain ⟨ok0, ok1, ok2, ok3⟩ := ok
      have w1 : decide (V.str wd = V.str "resource") = false ∧ decide (V.str wd = V.str "belt") = false := by
        rcases ok0 with h | h <;> subst h <;> exact ⟨by decide +kernel, by decide +kernel⟩
      refine ⟨_, rfl, a, _, _, _, rfl, rfl, hT, atI_nat (j := 0) rfl, ?_⟩
      refine ⟨_, rfl, rfl, _, rfl, ?_⟩
      refine ite2 (fun e => absurd e (by rw [w1.1]; exact Bool.false_ne_true)) (fun _ => ?_)
      refine ⟨_, rfl, rfl, _, rfl, ?_⟩
      refine ite2 (fun e => absurd e (by rw [w1.2]; exact Bool.false_ne_true)) (fun _ => ?_)
      refine ⟨_, rfl, _, rfl, a, _, _, _, rfl, rfl, hT, atI_nat (j := 1) rfl, _, rfl, a, _, _, _, rfl, rfl, hT, atI_nat (j := 2) rfl, m1, rfl, num_log ok2, ?_⟩
      refine ⟨_, rfl, a, _, _, _, rfl, rfl, hT, atI_nat (j := 3) rfl, m2, rfl, num_log ok3, line5 (by show 6 ≤ 100000; decide), fun p3 hp3 => ?_⟩
      exact q _ p3 (same_new hp3) (by rw [upd_same]; rfl)
theorem ok_write {n : Nat} (T : Txt K mg) (D_spaced : Kept P w K mg base 1 "spaced" ["token"] spSpaced) (D_item_tokens : Kept P w K mg base 2 "item_tokens" ["item"] (spItemT K)) (D_process_tokens : Kept P w K mg base (3 * n + 2) "process_tokens" ["process"] (spProcT K n))
    {f : Addr} {fd : FuncData} (F : FnP K "write_model" s_write_model f fd) : FnOk P w K mg base CX0 (3 * n + 3) f fd ["model"] (spWrite K n) := by
  refine F.ok sc_write_model (fun vs H Q E h => ?_) (fun cdv A outer s H vs Q E hr h => ?_)
  · obtain ⟨v, b, rfl, _⟩ := h
    rfl
  · obtain ⟨v, m, rfl, hd, ok, q⟩ := h
    obtain ⟨a, xs, rfl, hT, hA⟩ := dp_tup hd
    obtain ⟨x0, r0, rfl, h0, hA1⟩ := dpA_cons hA
    obtain ⟨x1, r1, rfl, h1, hA2⟩ := dpA_cons hA1
    obtain ⟨x2, r2, rfl, h2, hA3⟩ := dpA_cons hA2
    obtain ⟨x3, r3, rfl, h3, hA4⟩ := dpA_cons hA3
    obtain ⟨x4, r4, rfl, h4, hA5⟩ := dpA_cons hA4
    cases dpA_nil hA5
    cases dp_str h0
    cases dp_int h1
    obtain ⟨p2, ys2, rfl, hT2, hA2'⟩ := dp_tup h2
    obtain ⟨p3, ys3, rfl, hT3, hA3'⟩ := dp_tup h3
    obtain ⟨p4, ys4, rfl, hT4, hA4'⟩ := dp_tup h4
    have e2 := dpA_strs hA2'
    subst e2
    have l3 : ys3.length = m.items.length := by
      have := dpA_len hA3'
      rw [List.length_map] at this
      exact this
    have l4 : ys4.length = m.procs.length := by
      have := dpA_len hA4'
      rw [List.length_map] at this
      exact this
    have f1 := ok.few1
    have f2 := ok.few2
    have f3 := ok.few3
    have f4 := ok.few
    have tl1 := fm_c tI 40 m.items fun i hi => tI_len i (ok.it i hi)
    have tl2 := fm_le (tP n) (cP n) 9 m.procs fun p hp => tP_len n p (ok.pr p hp)
    refine ⟨_, PSs.nox (pss_cons (ps_asg (pv 0) (pg_tup rfl (pgs_cons (pg_name (i := 1) sc_write_model.nd rfl (Or.inl rfl)) (pgs_cons (pg_name (i := 2) sc_write_model.nd rfl (Or.inl rfl)) (pgs_cons (pg_name (i := 3) sc_write_model.nd rfl (Or.inl rfl)) (pgs_cons (pg_name (i := 4) sc_write_model.nd rfl (Or.inl rfl)) (pgs_cons (pg_name (i := 5) sc_write_model.nd rfl (Or.inl rfl)) pgs_nil)))))))
      (pss_cons (ps_set (i := 6) sc_write_model.nd rfl (Or.inl rfl) (pe_lst (pa_cons pe_str (pa_cons (pe_callTy call_str_int (by rfl) T.b_str (by decide +kernel) (pa_cons (pv 2) pa_nil)) (pa_cons pe_str (StX.pa_star (pv 3) (pa_cons pe_str pa_nil)))))))
      (pss_cons (ps_for PassesOwn.never rfl (pi_tup (pv 4)) (pg_name (i := 7) sc_write_model.nd rfl (Or.inl rfl)) (pss_one (ps_expr (pe_bm PySem.F.plainAttrs_list PySem.F.slot_list_extend PySem.F.type_list_extend mt_extend (pv 6) (pa_cons (pe_d D_item_tokens (hr.mono (by omega)) (by rfl) (pa_cons (pv 7) pa_nil)) pa_nil)))))
      (pss_cons (ps_for PassesOwn.never rfl (pi_tup (pv 5)) (pg_name (i := 8) sc_write_model.nd rfl (Or.inl rfl)) (pss_one (ps_expr (pe_bm PySem.F.plainAttrs_list PySem.F.slot_list_extend PySem.F.type_list_extend mt_extend (pv 6) (pa_cons (pe_d D_process_tokens (hr.mono (by omega)) (by rfl) (pa_cons (pv 8) pa_nil)) pa_nil)))))
      (pss_cons (ps_expr (pe_bm PySem.F.plainAttrs_list PySem.F.slot_list_append PySem.F.type_list_append mt_append (pv 6) (pa_cons pe_str pa_nil)))
      (pss_one (ps_ret (pe_join pe_str (pe_lc (own := [("token", 9)]) (g := (gName 9)) (tt := tYes) rfl sc_write_model.nd (pi_list (pv 6)) (blkOk_by (N := N_write_model) (sc := defScope s_write_model) (by decide +kernel)) (fun _ _ _ _ _ => (pg_name (i := 9) sc_write_model.nd rfl (Or.inl rfl))) (fun _ _ _ _ _ => pts_nil) (fun _ _ _ _ _ => (pe_d D_spaced (hr.mono (by omega)) (by rfl) (pa_cons (pv 9) pa_nil)))))))))))), ?_⟩
    refine ⟨_, rfl, a, _, rfl, hT, rfl, _, _, rfl, _, _, rfl, _, _, rfl, _, _, rfl, _, _, rfl, rfl, ?_⟩
    refine ⟨_, rfl, m.base, rfl, num_log ok.base, _, rfl, p2, _, rfl, .inl hT2, line5 ?_, fun L hL => ?_⟩
    · simp only [List.length_append, List.length_cons, List.length_nil, List.length_map]
      omega
    generalize hpre : (["model", num m.base, "streams"] : List Str) ++ (m.streams ++ [("{" : Str)]) = pre
    have lpre : pre.length ≤ 20 := by
      rw [← hpre]
      simp only [List.length_append, List.length_cons, List.length_nil]
      omega
    have epre : (V.str "model" :: V.str (num m.base) :: V.str "streams" :: (m.streams.map V.str ++ [V.str "{"])) = pre.map V.str := by
      rw [← hpre]
      simp only [List.map_append, List.map_cons, List.map_nil]
      rfl
    have s0 : Same H (upd H L (.lst (V.str "model" :: V.str (num m.base) :: V.str "streams" :: (m.streams.map V.str ++ [V.str "{"])))) := same_new hL
    -- the items
    refine ⟨_, rfl, p3, rfl, ⟨_, sqt_keep (KeepT.of_same s0) hT3⟩, for_tup (K := K) (a := p3) (xs := ys3) (fun i σ H' => ∃ y : Option V, σ = [some (.ref a), some (.str "model"), some (.int m.base), some (.ref p2), some (.ref p3), some (.ref p4), some (.ref L), y, none, none] ∧ Same H H' ∧ H' L = some (.lst ((pre ++ (m.items.take i).flatMap tI).map V.str))) ⟨none, rfl, s0, ?_⟩ (fun i σ H' _ ⟨_, _, s1, _⟩ => sqt_keep (KeepT.of_same s1) hT3) ?_ ?_⟩
    · rw [List.take_zero, List.flatMap_nil, List.append_nil, ← epre]
      exact upd_same
    · rintro i x σ H' hi ⟨y, rfl, s1, hL1⟩
      obtain ⟨d, hd1, hd2⟩ := dpA_at hA3' hi
      obtain ⟨it, hit, rfl⟩ := map_at hd1
      have hm := List.mem_of_getElem? hit
      have z1 := fm_take tI m.items i
      have z2 := tI_len it (ok.it it hm)
      refine ⟨_, rfl, .inl ⟨rfl, _, SqL.of hL1⟩, _, rfl, x, it, rfl, dp_keep (KeepT.of_same s1) _ _ (dI_noL it) hd2, ok.it it hm, fun H2 p s2 hp => ?_⟩
      refine ⟨L, p, _, _, rfl, rfl, s2 _ _ hL1, hp, line5 ?_, _, rfl, same_mut (s1.trans s2) hL, ?_⟩
      · rw [List.length_map, List.length_map, List.length_append]
        omega
      · rw [upd_same, ext_str, fm_succ hit, List.append_assoc]
    · rintro σ H1 ⟨y7, rfl, s1, hL1⟩
      rw [List.take_of_length_le (by omega)] at hL1
      -- the processes
      refine ⟨_, rfl, p4, rfl, ⟨_, sqt_keep (KeepT.of_same s1) hT4⟩, for_tup (K := K) (a := p4) (xs := ys4) (fun i σ H' => ∃ y : Option V, σ = [some (.ref a), some (.str "model"), some (.int m.base), some (.ref p2), some (.ref p3), some (.ref p4), some (.ref L), y7, y, none] ∧ Same H H' ∧ H' L = some (.lst ((pre ++ m.items.flatMap tI ++ (m.procs.take i).flatMap (tP n)).map V.str))) ⟨none, rfl, s1, ?_⟩ (fun i σ H' _ ⟨_, _, s2, _⟩ => sqt_keep (KeepT.of_same s2) hT4) ?_ ?_⟩
      · rw [List.take_zero, List.flatMap_nil, List.append_nil]
        exact hL1
      · rintro i x σ H' hi ⟨y, rfl, s2, hL2⟩
        obtain ⟨d, hd1, hd2⟩ := dpA_at hA4' hi
        obtain ⟨pp, hpp, rfl⟩ := map_at hd1
        have hm := List.mem_of_getElem? hpp
        have z1 := fm_take (tP n) m.procs i
        have z2 := tP_len n pp (ok.pr pp hm)
        have z3 : cP n pp ≤ 150 := Nat.le_trans (sum_mem _ _ (List.mem_map_of_mem hm)) f4
        refine ⟨_, rfl, .inl ⟨rfl, _, SqL.of hL2⟩, _, rfl, x, pp, rfl, dp_keep (KeepT.of_same s2) _ _ (dP_noL n pp) hd2, ok.pr pp hm, z3, fun H2 p s3 hp => ?_⟩
        refine ⟨L, p, _, _, rfl, rfl, s3 _ _ hL2, hp, line5 ?_, _, rfl, same_mut (s2.trans s3) hL, ?_⟩
        · rw [List.length_map, List.length_map, List.length_append, List.length_append]
          omega
        · rw [upd_same, ext_str, fm_succ hpp, ← List.append_assoc]
      · rintro σ H2 ⟨y8, rfl, s2, hL2⟩
        rw [List.take_of_length_le (by omega)] at hL2
        have etM : pre ++ m.items.flatMap tI ++ m.procs.flatMap (tP n) ++ [("}" : Str)] = tM m := by
          rw [← hpre]
          rfl
        have ltM : (tM m).length ≤ 20000 := by
          rw [← etM, List.length_append, List.length_append, List.length_append, List.length_singleton]
          omega
        refine ⟨_, rfl, .inl ⟨rfl, _, SqL.of hL2⟩, L, _, _, rfl, rfl, hL2, line6 ?_, ?_⟩
        · rw [List.length_map, List.length_append, List.length_append]
          omega
        rw [snoc_str, etM]
        have s3 : Same H (upd H2 L (.lst ((tM m).map V.str))) := same_mut s2 hL
        have tok := tM_tok m ok
        refine ⟨⟨_, rfl⟩, _, rfl, L, rfl, ⟨_, SqL.of upd_same⟩, fun L2 hL2' => lc_list (K := K) (a := L) (xs := (tM m).map V.str) (fun j H3 => Same (upd H2 L (.lst ((tM m).map V.str))) H3 ∧ H3 L2 = some (.lst ((((tM m).take j).map spc).map V.str))) ⟨same_new hL2', upd_same⟩ (fun j H3 _ e => e.1.seq (SqL.of upd_same)) ?_ ?_⟩
        · rintro j x H3 hj ⟨s4, h4⟩
          obtain ⟨tk, hx, rfl⟩ : ∃ tk, (tM m)[j]? = some tk ∧ V.str tk = x := by
            rw [List.getElem?_map] at hj
            cases e : (tM m)[j]? with
            | none =>
              rw [e] at hj
              cases hj
            | some z =>
              rw [e] at hj
              exact ⟨z, rfl, Option.some.inj hj⟩
          have hjl := (List.getElem?_eq_some_iff.mp hx).1
          refine ⟨rfl, _, rfl, tk, rfl, Nat.le_trans (tok tk (List.mem_of_getElem? hx)) (by decide), fun H4 s5 => ⟨_, s5 _ _ h4, line6 (by rw [List.length_map, List.length_map, List.length_take]; omega), same_mut (s4.trans s5) hL2', ?_⟩⟩
          rw [upd_same, ← take_map_succ (f := spc) hx]
          exact congrArg (fun l => some (HO.lst l)) (snoc_str _ _)
        · rintro H3 ⟨s4, h4⟩
          rw [List.take_of_length_le (by rw [List.length_map]; exact Nat.le_refl _)] at h4
          refine ⟨_, L2, (tM m).map spc, rfl, rfl, .inl (SqL.of h4), ?_, ?_⟩
          · rw [List.map_map, List.length_map, show ("" : Str).length = 0 by decide +kernel, Nat.mul_zero, Nat.add_zero]
            have := sum_const ((fun z : Str => z.length) ∘ spc) 11 (tM m) fun t ht => by
              have h1 := tok t ht
              show (spc t).length ≤ 11
              unfold spc
              split
              · rw [PySem.Str.length_append]
                show t.length + 1 ≤ 11
                exact Nat.succ_le_succ h1
              · rw [PySem.Str.length_append]
                show t.length + 1 ≤ 11
                exact Nat.succ_le_succ h1
            omega
          · refine q H3 _ (s3.trans s4) ?_
            rw [tl_join0]
            unfold flat
            rw [List.flatMap_map]
end
end Mt
namespace Mt
open PySem PySem.Spec PyProof.Rows L2
theorem line7 {n : Nat} (h : n ≤ 1000000) : n ≤ sizeLine := Nat.le_trans h (by decide)
theorem flat_app (a b : List Str) : flat (a ++ b) = flat a ++ flat b := List.flatMap_append
theorem flat_cons (t : Str) (r : List Str) : flat (t :: r) = TL.tl (spc t) ++ flat r := List.flatMap_cons
theorem flat_nil : flat [] = [] := rfl
theorem spc_len (t : Str) : (TL.tl (spc t)).length = t.length + 1 := by
  rw [← TL.len_tl]
  unfold spc
  split <;> rw [PySem.Str.length_append] <;> rfl
theorem spc_n {t : Str} (h : okN t) : TL.tl (spc t) = TL.tl t ++ [32] := by
  unfold spc
  rw [if_neg (by rw [h.2]; exact Bool.false_ne_true), TL.tl_append]
  rfl
theorem flat_len : ∀ ts : List Str, (∀ t ∈ ts, okT t) → (flat ts).length ≤ 11 * ts.length
  | [], _ => Nat.zero_le _
  | t :: r, h => by
    have := flat_len r fun x hx => h x (List.mem_cons_of_mem _ hx)
    have h1 : t.length ≤ 10 := h t List.mem_cons_self
    rw [flat_cons, List.length_append, spc_len, List.length_cons]
    omega
theorem flat_fm {α : Type} (f : α → List Str) : ∀ l : List α, flat (l.flatMap f) = l.flatMap fun x => flat (f x)
  | [] => rfl
  | x :: r => by
    rw [List.flatMap_cons, List.flatMap_cons, flat_app, flat_fm f r]
theorem sum_tl : ∀ ys : List Str, (ys.map fun z => z.length).sum = (ys.flatMap TL.tl).length
  | [] => rfl
  | y :: r => by rw [List.map_cons, List.sum_cons, List.flatMap_cons, List.length_append, sum_tl r, TL.len_tl]
def GivesS (Q : VK) (H : Hp) (ts : List Str) : Prop := ∀ (H' : Hp) (z : Str), Same H H' → TL.tl z = flat ts → Q (.str z) H'
def Odd (H : Hp) (O : Addr) : Prop := H O = some (.lst [.int 0])
def spWB (K : PySem.W.Frag) (n : Nat) : Sp := fun vs H Q _ => ∃ (v : V) (O : Addr) (b : Bd n), vs = [v, .ref O] ∧ Odd H O ∧ Dp K H v (dB n b) ∧ okB n b ∧ cB n b ≤ 200 ∧ GivesS Q H (tB n b)
def spWS (K : PySem.W.Frag) (n : Nat) : Sp := fun vs H Q _ => ∃ (v : V) (O : Addr) (s : S1 (Bd n)), vs = [v, .ref O] ∧ Odd H O ∧ Dp K H v (dS (dB n) s) ∧ okS (okB n) s ∧ cS (cB n) s ≤ 200 ∧ GivesS Q H (tS (tB n) (empB n) s)
def spWI (K : PySem.W.Frag) : Sp := fun vs H Q _ => ∃ (v : V) (i : It), vs = [v] ∧ Dp K H v (dI i) ∧ okIt i ∧ GivesS Q H (tI i)
def spWM (K : PySem.W.Frag) (n : Nat) : Sp := fun vs H Q _ => ∃ (v : V) (O : Addr) (m : Mdl n), vs = [v, .ref O] ∧ Odd H O ∧ Dp K H v (dM m) ∧ okM m ∧ GivesS Q H (tM m)
theorem tS_okT {n : Nat} {s : S1 (Bd n)} (h : okS (okB n) s) : ∀ t ∈ tS (tB n) (empB n) s, okT t := tS_tok (tB_tok n) s h
theorem wb_len {n : Nat} {b : Bd n} (h : okB n b) (c : cB n b ≤ 200) {z : Str} (e : TL.tl z = flat (tB n b)) : z.length ≤ 150000 := by
  rw [TL.len_tl, e]
  have h1 := flat_len _ (tB_tok n b h)
  have h2 := tB_len n b h
  omega
section
variable {P : Program} {w : World} {K : PySem.W.Frag} {mg : Str → Option Value} {base : Heap}
theorem ok_wbody {n : Nat} (T : Txt K mg) (D__law_w_statement : Kept P w K mg base (2 * n + 2) "_law_w_statement" ["statement", "odd"] (spWS K n)) {f : Addr} {fd : FuncData} (F : FnP K "_law_w_body" s__law_w_body f fd) :
    FnOk P w K mg base CX0 (2 * n + 3) f fd ["body", "odd"] (spWB K (n + 1)) := by
  refine F.ok sc__law_w_body (fun vs H Q E h => ?_) (fun cdv A outer s H vs Q E hr h => ?_)
  · obtain ⟨v, O, b, rfl, _⟩ := h
    rfl
  · obtain ⟨v, O, b, rfl, hO, hd, ok, hc, q⟩ : ∃ (v : V) (O : Addr) (b : List (S1 (Bd n))), vs = [v, .ref O] ∧ Odd H O ∧ Dp K H v (.tuple (b.map (dS (dB n)))) ∧ (∀ s ∈ b, okS (okB n) s) ∧ (b.map (cS (cB n))).sum ≤ 200 ∧ GivesS Q H (([("{" : Str)] ++ b.flatMap (tS (tB n) (empB n))) ++ [("}" : Str)]) := h
    refine ⟨_, PSs.nox (pss_one (ps_ret (pe_op op_add_str (pe_op op_add_str pe_str (pe_join pe_str (pe_lc (own := [("statement", 2)]) (g := (gName 2)) (tt := tYes) rfl sc__law_w_body.nd (pi_tup (pv 0)) (blkOk_by (N := N__law_w_body) (sc := defScope s__law_w_body) (by decide +kernel)) (fun _ _ _ _ _ => (pg_name (i := 2) sc__law_w_body.nd rfl (Or.inl rfl))) (fun _ _ _ _ _ => pts_nil) (fun _ _ _ _ _ => (pe_d D__law_w_statement (hr.mono (by omega)) (by rfl) (pa_cons (pv 2) (pa_cons (pv 1) pa_nil))))))) pe_str))), ?_⟩
    obtain ⟨a, xs, rfl, hT, hA⟩ := dp_tup hd
    have tl := fm_len (tS (tB n) (empB n)) (cS (cB n)) b fun s hs => tS_len (tB_len n) s (ok s hs)
    have xl : xs.length = b.length := by
      have := dpA_len hA
      rw [List.length_map] at this
      exact this
    refine ⟨⟨_, rfl⟩, _, rfl, a, rfl, ⟨_, hT⟩, fun L hL => lc_tup (K := K) (a := a) (xs := xs) (fun j H2 => ∃ ys : List Str, Same H H2 ∧ H2 L = some (.lst (ys.map V.str)) ∧ ys.length = j ∧ ys.flatMap TL.tl = flat ((b.take j).flatMap (tS (tB n) (empB n)))) ⟨[], same_new hL, upd_same, rfl, rfl⟩ (fun j H2 _ ⟨_, e, _⟩ => sqt_keep (KeepT.of_same e) hT) ?_ ?_⟩
    · rintro j x H2 hj ⟨ys, s1, h3, yl, ye⟩
      obtain ⟨d, hd1, hd2⟩ := dpA_at hA hj
      obtain ⟨s, hs, rfl⟩ := map_at hd1
      have hm := List.mem_of_getElem? hs
      have hc1 : cS (cB n) s ≤ 200 := Nat.le_trans (sum_mem _ _ (List.mem_map_of_mem hm)) hc
      have hbl : b.length ≤ 200 := Nat.le_trans (by
        have : ∀ l : List (S1 (Bd n)), l.length ≤ (l.map (cS (cB n))).sum := fun l => by
          induction l with
          | nil => exact Nat.zero_le _
          | cons x r ih =>
            have : 1 ≤ cS (cB n) x := by cases x <;> (simp only [cS]; omega)
            rw [List.length_cons, List.map_cons, List.sum_cons]
            omega
        exact this b) hc
      have hjl := (List.getElem?_eq_some_iff.mp hs).1
      refine ⟨rfl, _, rfl, _, rfl, x, O, s, rfl, s1 _ _ hO, dp_keep (KeepT.of_same s1) _ _ (dS_noL (dB_noL n) s) hd2, ok s hm, hc1, fun H3 z s2 hz => ?_⟩
      refine ⟨_, s2 _ _ h3, line6 (by rw [List.length_map]; omega), ys ++ [z], same_mut (s1.trans s2) hL, ?_, ?_, ?_⟩
      · rw [upd_same, snoc_str]
      · rw [List.length_append, List.length_singleton, yl]
      · rw [List.flatMap_append, ye, fm_succ hs, flat_app, ← hz]
        show _ ++ (TL.tl z ++ []) = _
        rw [List.append_nil]
    · rintro H2 ⟨ys, s1, h3, yl, ye⟩
      rw [List.take_of_length_le (by omega)] at ye
      have jl := flat_len (b.flatMap (tS (tB n) (empB n))) fun t ht => by
        obtain ⟨s, hs, h⟩ := List.mem_flatMap.mp ht
        exact tS_okT (ok s hs) t h
      have e1 : TL.tl (Txt.join "" ys) = flat (b.flatMap (tS (tB n) (empB n))) := by
        rw [tl_join0, ye]
      have e2 : (Txt.join "" ys).length ≤ 150000 := by
        rw [TL.len_tl, e1]
        omega
      refine ⟨_, L, ys, rfl, rfl, .inl (SqL.of h3), ?_, ?_⟩
      · rw [sum_tl, ye, show ("" : Str).length = 0 by decide +kernel]
        omega
      · refine ⟨_, _, rfl, rfl, line7 ?_, _, _, rfl, rfl, line7 ?_, q _ _ s1 ?_⟩
        · show 2 + (Txt.join "" ys).length ≤ 1000000
          omega
        · rw [PySem.Str.length_append]
          show 2 + (Txt.join "" ys).length + 2 ≤ 1000000
          omega
        · rw [TL.tl_append, TL.tl_append, e1, flat_app, flat_app]
          rfl
end
end Mt
namespace Mt
open PySem PySem.Spec PyProof.Rows L2
theorem ll_use : ("use " : Str).length = 4 := by decide +kernel
theorem lt_use : TL.tl ("use " : Str) = [117, 115, 101, 32] := by decide +kernel
theorem ll_rank : (" rank " : Str).length = 6 := by decide +kernel
theorem lt_rank : TL.tl (" rank " : Str) = [32, 114, 97, 110, 107, 32] := by decide +kernel
theorem ll_sp : (" " : Str).length = 1 := by decide +kernel
theorem lt_sp : TL.tl (" " : Str) = [32] := by decide +kernel
theorem ll_pat : ("patience " : Str).length = 9 := by decide +kernel
theorem lt_pat : TL.tl ("patience " : Str) = [112, 97, 116, 105, 101, 110, 99, 101, 32] := by decide +kernel
theorem ll_els : ("else " : Str).length = 5 := by decide +kernel
theorem lt_els : TL.tl ("else " : Str) = [101, 108, 115, 101, 32] := by decide +kernel
theorem ll_iff : ("if " : Str).length = 3 := by decide +kernel
theorem lt_iff : TL.tl ("if " : Str) = [105, 102, 32] := by decide +kernel
theorem ll_loop : ("loop " : Str).length = 5 := by decide +kernel
theorem lt_loop : TL.tl ("loop " : Str) = [108, 111, 111, 112, 32] := by decide +kernel
theorem ll_grd : ("guard " : Str).length = 6 := by decide +kernel
theorem lt_grd : TL.tl ("guard " : Str) = [103, 117, 97, 114, 100, 32] := by decide +kernel
theorem ll_hdl : ("handle " : Str).length = 7 := by decide +kernel
theorem lt_hdl : TL.tl ("handle " : Str) = [104, 97, 110, 100, 108, 101, 32] := by decide +kernel
theorem ll_end : (" ;\n" : Str).length = 3 := by decide +kernel
theorem lt_end : TL.tl (" ;\n" : Str) = [32, 59, 10] := by decide +kernel
theorem ll_draw : ("draw " : Str).length = 5 := by decide +kernel
theorem lt_draw : TL.tl ("draw " : Str) = [100, 114, 97, 119, 32] := by decide +kernel
theorem ll_ob : (" {\n" : Str).length = 3 := by decide +kernel
theorem lt_ob : TL.tl (" {\n" : Str) = [32, 123, 10] := by decide +kernel
theorem ll_cb : ("}\n" : Str).length = 2 := by decide +kernel
theorem lt_cb : TL.tl ("}\n" : Str) = [125, 10] := by decide +kernel
theorem ll_at : ("at " : Str).length = 3 := by decide +kernel
theorem lt_at : TL.tl ("at " : Str) = [97, 116, 32] := by decide +kernel
theorem ll_com : (" , " : Str).length = 3 := by decide +kernel
theorem lt_com : TL.tl (" , " : Str) = [32, 44, 32] := by decide +kernel
theorem ll_e0 : ("" : Str).length = 0 := by decide +kernel
theorem lt_e0 : TL.tl ("" : Str) = [] := by decide +kernel
theorem ll_eob : ("else {\n}\n" : Str).length = 9 := by decide +kernel
theorem lt_eob : TL.tl ("else {\n}\n" : Str) = [101, 108, 115, 101, 32, 123, 10, 125, 10] := by decide +kernel
theorem ll_plan : ("plan " : Str).length = 5 := by decide +kernel
theorem lt_plan : TL.tl ("plan " : Str) = [112, 108, 97, 110, 32] := by decide +kernel
theorem ll_for : (" for " : Str).length = 5 := by decide +kernel
theorem lt_for : TL.tl (" for " : Str) = [32, 102, 111, 114, 32] := by decide +kernel
theorem ll_len : ("length " : Str).length = 7 := by decide +kernel
theorem lt_len : TL.tl ("length " : Str) = [108, 101, 110, 103, 116, 104, 32] := by decide +kernel
theorem ll_room : (" room " : Str).length = 6 := by decide +kernel
theorem lt_room : TL.tl (" room " : Str) = [32, 114, 111, 111, 109, 32] := by decide +kernel
theorem ll_of : (" of " : Str).length = 4 := by decide +kernel
theorem lt_of : TL.tl (" of " : Str) = [32, 111, 102, 32] := by decide +kernel
theorem ll_mdl : ("model " : Str).length = 6 := by decide +kernel
theorem lt_mdl : TL.tl ("model " : Str) = [109, 111, 100, 101, 108, 32] := by decide +kernel
theorem ll_strm : (" streams " : Str).length = 9 := by decide +kernel
theorem lt_strm : TL.tl (" streams " : Str) = [32, 115, 116, 114, 101, 97, 109, 115, 32] := by decide +kernel
theorem ll_proc : ("process " : Str).length = 8 := by decide +kernel
theorem lt_proc : TL.tl ("process " : Str) = [112, 114, 111, 99, 101, 115, 115, 32] := by decide +kernel
theorem ll_pat2 : (" at " : Str).length = 4 := by decide +kernel
theorem lt_pat2 : TL.tl (" at " : Str) = [32, 97, 116, 32] := by decide +kernel
theorem ll_cyc : ("cycle " : Str).length = 6 := by decide +kernel
theorem lt_cyc : TL.tl ("cycle " : Str) = [99, 121, 99, 108, 101, 32] := by decide +kernel
theorem ll_ob0 : ("{\n" : Str).length = 2 := by decide +kernel
theorem lt_ob0 : TL.tl ("{\n" : Str) = [123, 10] := by decide +kernel
theorem sw_0 : TL.tl (spc "use") = [117, 115, 101, 32] := by decide +kernel
theorem sw_1 : TL.tl (spc "rank") = [114, 97, 110, 107, 32] := by decide +kernel
theorem sw_2 : TL.tl (spc "patience") = [112, 97, 116, 105, 101, 110, 99, 101, 32] := by decide +kernel
theorem sw_3 : TL.tl (spc "else") = [101, 108, 115, 101, 32] := by decide +kernel
theorem sw_4 : TL.tl (spc "if") = [105, 102, 32] := by decide +kernel
theorem sw_5 : TL.tl (spc "loop") = [108, 111, 111, 112, 32] := by decide +kernel
theorem sw_6 : TL.tl (spc "guard") = [103, 117, 97, 114, 100, 32] := by decide +kernel
theorem sw_7 : TL.tl (spc "handle") = [104, 97, 110, 100, 108, 101, 32] := by decide +kernel
theorem sw_8 : TL.tl (spc "draw") = [100, 114, 97, 119, 32] := by decide +kernel
theorem sw_9 : TL.tl (spc "at") = [97, 116, 32] := by decide +kernel
theorem sw_10 : TL.tl (spc "put") = [112, 117, 116, 32] := by decide +kernel
theorem sw_11 : TL.tl (spc "take") = [116, 97, 107, 101, 32] := by decide +kernel
theorem sw_12 : TL.tl (spc "{") = [123, 10] := by decide +kernel
theorem sw_13 : TL.tl (spc "}") = [125, 10] := by decide +kernel
theorem sw_14 : TL.tl (spc ";") = [59, 10] := by decide +kernel
theorem sw_15 : TL.tl (spc ",") = [44, 32] := by decide +kernel
theorem sw_16 : TL.tl (spc "plan") = [112, 108, 97, 110, 32] := by decide +kernel
theorem sw_17 : TL.tl (spc "for") = [102, 111, 114, 32] := by decide +kernel
theorem sw_18 : TL.tl (spc "length") = [108, 101, 110, 103, 116, 104, 32] := by decide +kernel
theorem sw_19 : TL.tl (spc "room") = [114, 111, 111, 109, 32] := by decide +kernel
theorem sw_20 : TL.tl (spc "of") = [111, 102, 32] := by decide +kernel
theorem sw_21 : TL.tl (spc "model") = [109, 111, 100, 101, 108, 32] := by decide +kernel
theorem sw_22 : TL.tl (spc "streams") = [115, 116, 114, 101, 97, 109, 115, 32] := by decide +kernel
theorem sw_23 : TL.tl (spc "process") = [112, 114, 111, 99, 101, 115, 115, 32] := by decide +kernel
theorem sw_24 : TL.tl (spc "cycle") = [99, 121, 99, 108, 101, 32] := by decide +kernel
theorem sw_25 : TL.tl (spc "resource") = [114, 101, 115, 111, 117, 114, 99, 101, 32] := by decide +kernel
theorem sw_26 : TL.tl (spc "belt") = [98, 101, 108, 116, 32] := by decide +kernel
theorem sw_27 : TL.tl (spc "store") = [115, 116, 111, 114, 101, 32] := by decide +kernel
theorem sw_28 : TL.tl (spc "counter") = [99, 111, 117, 110, 116, 101, 114, 32] := by decide +kernel

theorem ixT {X : Cx} {K : PySem.W.Frag} (h : X.K = K) : IxR X (rIxT K) := h ▸ ix_tup
theorem num_fold (i : Int) : Str.ofString (toString i) = num i := rfl
theorem same_id {H : Hp} {p : Addr} {o : HO} (h : H p = some o) : Same H (upd H p o) := fun b x e => by
  by_cases q : b = p
  · rw [q] at e ⊢
    rw [upd_same, ← h, e]
  · rw [upd_ne q]
    exact e
theorem joinC : ∀ (ys : List (List Nat)) (y : List Nat), TL.joinL [32, 44, 32] (y :: ys) ++ [32] = (y ++ [32]) ++ ys.flatMap (fun y => 44 :: 32 :: (y ++ [32]))
  | [], y => by simp [TL.joinL]
  | z :: r, y => by
    show (y ++ ([32, 44, 32] ++ TL.joinL [32, 44, 32] (z :: r))) ++ [32] = _
    rw [List.append_assoc, List.append_assoc, joinC r z, List.flatMap_cons]
    simp only [List.append_assoc, List.cons_append, List.nil_append]
theorem joinS : ∀ (ys : List (List Nat)) (y : List Nat), TL.joinL [32] (y :: ys) ++ [32] = (y :: ys).flatMap (fun y => y ++ [32])
  | [], y => by simp [TL.joinL]
  | z :: r, y => by
    show (y ++ ([32] ++ TL.joinL [32] (z :: r))) ++ [32] = _
    rw [List.append_assoc, List.append_assoc, joinS r z, List.flatMap_cons (x := y), List.append_assoc]
theorem lst_cons (rs : List (List Str)) : ∀ acc : List Str, acc ≠ [] → lst acc rs = acc ++ rs.flatMap fun r => ("," : Str) :: r := by
  induction rs with
  | nil =>
    intro acc _
    show acc = _
    rw [List.flatMap_nil, List.append_nil]
  | cons r rs ih =>
    intro acc h
    show lst ((if acc.isEmpty = true then acc else acc ++ ([","] : List Str)) ++ r) rs = _
    rw [if_neg (by rw [List.isEmpty_iff]; exact h), ih _ (by simp), List.flatMap_cons]
    simp only [List.append_assoc, List.cons_append, List.nil_append]
theorem tl_joinC (ys : List Str) (rs : List (List Str)) (h : ys.map (fun y => TL.tl y ++ [32]) = rs.map flat) (ne : ∀ r ∈ rs, r ≠ []) (h0 : rs ≠ []) : TL.tl (Txt.join " , " ys) ++ [32] = flat (lst [] rs) := by
  rw [TL.join_eq, TL.tl_join, lt_com]
  cases rs with
  | nil => exact absurd rfl h0
  | cons r rs =>
    cases ys with
    | nil => cases h
    | cons y ys =>
      rw [List.map_cons, List.map_cons] at h
      injection h with h1 h2
      show TL.joinL [32, 44, 32] (TL.tl y :: ys.map TL.tl) ++ [32] = flat (lst ([] ++ r) rs)
      rw [joinC, h1, List.nil_append, lst_cons rs r (ne r List.mem_cons_self), flat_app, flat_fm]
      congr 1
      clear ne h0 h1
      induction ys generalizing rs with
      | nil =>
        cases rs with
        | nil => rfl
        | cons r rs => cases h2
      | cons y ys ih =>
        cases rs with
        | nil => cases h2
        | cons r rs =>
          rw [List.map_cons, List.map_cons] at h2
          injection h2 with h3 h4
          rw [List.map_cons, List.flatMap_cons, List.flatMap_cons, ih rs h4, flat_cons, h3]
          rfl
theorem tl_joinS {ts : List Str} (h0 : ts ≠ []) (ok : ∀ t ∈ ts, TL.tl (spc t) = TL.tl t ++ [32]) : TL.tl (Txt.join " " ts) ++ [32] = flat ts := by
  rw [TL.join_eq, TL.tl_join, lt_sp]
  cases ts with
  | nil => exact absurd rfl h0
  | cons t r =>
    show TL.joinL [32] (TL.tl t :: r.map TL.tl) ++ [32] = _
    rw [joinS]
    show ((t :: r).map TL.tl).flatMap _ = _
    generalize t :: r = l at ok
    induction l with
    | nil => rfl
    | cons t r ih =>
      rw [List.map_cons, List.flatMap_cons, ih fun x hx => ok x (List.mem_cons_of_mem _ hx), flat_cons, ok t List.mem_cons_self]
theorem join_len {z S : Str} {ys : List Str} {k : Nat} (h : ∀ y ∈ ys, y.length ≤ k) : (ys.map fun x => x.length).sum ≤ k * ys.length := sum_const _ k ys h
theorem plain_brc : PLAIN.all (fun w => !inV (.str w) (BRACE.map V.str)) = true := by decide +kernel
theorem spc_plain {w : Str} (h : w ∈ PLAIN) : TL.tl (spc w) = TL.tl w ++ [32] := by
  have := List.all_eq_true.mp plain_brc w h
  unfold spc
  rw [if_neg (by rw [Bool.not_eq_true']  at this; rw [this]; exact Bool.false_ne_true), TL.tl_append]
  rfl
theorem plain_len9 {w : Str} (h : w ∈ PLAIN) : w.length ≤ 10 := of_decide_eq_true (List.all_eq_true.mp plain_len _ h)
theorem spc_num {n : Int} (h : okI n) : TL.tl (spc (num n)) = TL.tl (num n) ++ [32] := spc_n (num_ok h).2
section
variable {P : Program} {w : World} {K : PySem.W.Frag} {mg : Str → Option Value} {base : Heap}
theorem ok_wstm {n : Nat} (T : Txt K mg) (D__law_w_body : Kept P w K mg base (2 * n + 1) "_law_w_body" ["body", "odd"] (spWB K n))
    {f : Addr} {fd : FuncData} (F : FnP K "_law_w_statement" s__law_w_statement f fd) : FnOk P w K mg base CX0 (2 * n + 2) f fd ["statement", "odd"] (spWS K n) := by
  refine F.ok sc__law_w_statement (fun vs H Q E h => ?_) (fun cdv A outer s H vs Q E hr h => ?_)
  · obtain ⟨v, O, b, rfl, _⟩ := h
    rfl
  · obtain ⟨v, O, s, rfl, hO, hd, ok, hc, q⟩ := h
    refine ⟨_, PSs.nox (pss_cons (ps_set (i := 2) sc__law_w_statement.nd rfl (Or.inl rfl) (pe_ix ix_tup (pv 0) pe_int (fun _ _ => rfl)))
      (pss_cons (ps_if (pt_cmpR op_in_seq (pv 2) (pe_tup (pa_cons pe_str (pa_cons pe_str pa_nil))) (by rfl)) (pss_one (ps_ret (pe_op op_add_str (pe_op op_add_str (pe_op op_add_str (pv 2) pe_str) (pe_join pe_str (pe_lc (own := [("part", 3)]) (g := (gName 3)) (tt := tYes) rfl sc__law_w_statement.nd (pi_tup (pe_ix ix_tup (pv 0) pe_int (fun _ _ => rfl))) (blkOk_by (N := N__law_w_statement) (sc := defScope s__law_w_statement) (by decide +kernel)) (fun _ _ _ _ _ => (pg_name (i := 3) sc__law_w_statement.nd rfl (Or.inl rfl))) (fun _ _ _ _ _ => pts_nil) (fun _ _ _ _ _ => (pe_op op_add_str (pe_op op_add_str (pe_ix (ixT (K := K) rfl) (pv 3) pe_int (fun _ _ => rfl)) pe_str) (pe_callTy call_str_int (by rfl) T.b_str (by decide +kernel) (pa_cons (pe_ix (ixT (K := K) rfl) (pv 3) pe_int (fun _ _ => rfl)) pa_nil))))))) pe_str))) pss_nil)
      (pss_cons (ps_if (pt_cmpR op_eq (pv 2) pe_str (nomark _)) (pss_cons (ps_set (i := 4) sc__law_w_statement.nd rfl (Or.inl rfl) (pe_op op_add_str (pe_op op_add_str pe_str (pe_ix ix_tup (pv 0) pe_int (fun _ _ => rfl))) pe_str))
      (pss_cons (ps_for PassesOwn.never rfl (pi_tup (pe_ix ix_tup (pv 0) pe_int (fun _ _ => rfl))) (pg_tup rfl (pgs_cons (pg_name (i := 5) sc__law_w_statement.nd rfl (Or.inl rfl)) (pgs_cons (pg_name (i := 6) sc__law_w_statement.nd rfl (Or.inl rfl)) pgs_nil))) (pss_one (ps_set (i := 4) sc__law_w_statement.nd rfl (Or.inl rfl) (pe_op op_add_str (pe_op op_add_str (pe_op op_add_str (pe_op op_add_str (pv 4) pe_str) (pe_join pe_str (pe_lc (own := [("digit", 7)]) (g := (gName 7)) (tt := tYes) rfl sc__law_w_statement.nd (pi_tup (pv 5)) (blkOk_by (N := N__law_w_statement) (sc := defScope s__law_w_statement) (by decide +kernel)) (fun _ _ _ _ _ => (pg_name (i := 7) sc__law_w_statement.nd rfl (Or.inl rfl))) (fun _ _ _ _ _ => pts_nil) (fun _ _ _ _ _ => (pe_callTy call_str_int (by rfl) T.b_str (by decide +kernel) (pa_cons (pv 7) pa_nil)))))) pe_str) (pe_d D__law_w_body (hr.mono (by omega)) (by rfl) (pa_cons (pv 6) (pa_cons (pv 1) pa_nil)))))))
      (pss_one (ps_ret (pe_op op_add_str (pv 4) pe_str))))) pss_nil)
      (pss_cons (ps_if (pt_cmpR op_eq (pv 2) pe_str (nomark _)) (pss_cons (ps_set (i := 4) sc__law_w_statement.nd rfl (Or.inl rfl) (pe_op op_add_str (pe_op op_add_str (pe_op op_add_str (pe_op op_add_str pe_str (pe_ix ix_tup (pv 0) pe_int (fun _ _ => rfl))) pe_str) (pe_callTy call_str_int (by rfl) T.b_str (by decide +kernel) (pa_cons (pe_ix ix_tup (pv 0) pe_int (fun _ _ => rfl)) pa_nil))) pe_str))
      (pss_cons (ps_if (pt_cmpR op_isN (pe_ix ix_tup (pv 0) pe_int (fun _ _ => rfl)) pe_non (nomark _)) (pss_one (ps_ret (pe_op op_add_str (pv 4) (pe_d D__law_w_body (hr.mono (by omega)) (by rfl) (pa_cons (pe_ix ix_tup (pv 0) pe_int (fun _ _ => rfl)) (pa_cons (pv 1) pa_nil)))))) pss_nil)
      (pss_cons (ps_set (i := 4) sc__law_w_statement.nd rfl (Or.inl rfl) (pe_op op_add_str (pe_op op_add_str (pe_op op_add_str (pe_op op_add_str (pv 4) pe_str) (pe_callTy call_str_int (by rfl) T.b_str (by decide +kernel) (pa_cons (pe_ix ix_tup (pv 0) pe_int (fun _ _ => rfl)) pa_nil))) pe_str) (pe_d D__law_w_body (hr.mono (by omega)) (by rfl) (pa_cons (pe_ix ix_tup (pv 0) pe_int (fun _ _ => rfl)) (pa_cons (pv 1) pa_nil)))))
      (pss_one (ps_ret (pe_op op_add_str (pe_op op_add_str (pv 4) pe_str) (pe_d D__law_w_body (hr.mono (by omega)) (by rfl) (pa_cons (pe_ix ix_tup (pv 0) pe_int (fun _ _ => rfl)) (pa_cons (pv 1) pa_nil))))))))) pss_nil)
      (pss_cons (ps_if (pt_cmpR op_eq (pv 2) pe_str (nomark _)) (pss_cons (ps_set (i := 4) sc__law_w_statement.nd rfl (Or.inl rfl) (pe_op op_add_str (pe_op op_add_str (pe_op op_add_str (pe_op op_add_str (pe_op op_add_str (pe_op op_add_str pe_str (pe_ix ix_tup (pv 0) pe_int (fun _ _ => rfl))) pe_str) (pe_ix ix_tup (pv 0) pe_int (fun _ _ => rfl))) pe_str) (pe_callTy call_str_int (by rfl) T.b_str (by decide +kernel) (pa_cons (pe_ix ix_tup (pv 0) pe_int (fun _ _ => rfl)) pa_nil))) pe_str))
      (pss_cons (ps_set (i := 4) sc__law_w_statement.nd rfl (Or.inl rfl) (pe_op op_add_str (pv 4) (pe_d D__law_w_body (hr.mono (by omega)) (by rfl) (pa_cons (pe_ix ix_tup (pv 0) pe_int (fun _ _ => rfl)) (pa_cons (pv 1) pa_nil)))))
      (pss_cons (ps_if (pt_cmpR op_gt (pe_callB call_len (by rfl) T.b_len (by decide +kernel) (pa_cons (pe_ix ix_tup (pv 0) pe_int (fun _ _ => rfl)) pa_nil)) pe_int (nomark _)) (pss_one (ps_ret (pe_op op_add_str (pe_op op_add_str (pv 4) pe_str) (pe_d D__law_w_body (hr.mono (by omega)) (by rfl) (pa_cons (pe_ix ix_tup (pv 0) pe_int (fun _ _ => rfl)) (pa_cons (pv 1) pa_nil)))))) pss_nil)
      (pss_cons (ps_set (i := 8) sc__law_w_statement.nd rfl (Or.inl rfl) (pe_op op_mod (pe_callTy call_int1 (by rfl) T.b_int (by decide +kernel) (pa_cons (pe_ix ix_list (pv 1) pe_int (fun _ _ => rfl)) pa_nil)) pe_int))
      (pss_cons (ps_asg (pe_op op_fdivW (pe_ix ix_list (pv 1) pe_int (fun _ _ => rfl)) pe_int) (pg_sub (pv 1) pe_int set_list))
      (pss_one (ps_ret (pe_op op_add_str (pv 4) (pe_ix ix_list (pe_lst (pa_cons pe_str (pa_cons pe_str pa_nil))) (pv 8) (fun _ _ => rfl)))))))))) pss_nil)
      (pss_cons (ps_if (pt_cmpR op_eq (pv 2) pe_str (nomark _)) (pss_one (ps_ret (pe_op op_add_str (pe_op op_add_str (pe_op op_add_str pe_str (pe_callTy call_str_int (by rfl) T.b_str (by decide +kernel) (pa_cons (pe_ix ix_tup (pv 0) pe_int (fun _ _ => rfl)) pa_nil))) pe_str) (pe_d D__law_w_body (hr.mono (by omega)) (by rfl) (pa_cons (pe_ix ix_tup (pv 0) pe_int (fun _ _ => rfl)) (pa_cons (pv 1) pa_nil)))))) pss_nil)
      (pss_cons (ps_if (pt_cmpR op_eq (pv 2) pe_str (nomark _)) (pss_one (ps_ret (pe_op op_add_str (pe_op op_add_str (pe_op op_add_str pe_str (pe_d D__law_w_body (hr.mono (by omega)) (by rfl) (pa_cons (pe_ix ix_tup (pv 0) pe_int (fun _ _ => rfl)) (pa_cons (pv 1) pa_nil)))) pe_str) (pe_d D__law_w_body (hr.mono (by omega)) (by rfl) (pa_cons (pe_ix ix_tup (pv 0) pe_int (fun _ _ => rfl)) (pa_cons (pv 1) pa_nil)))))) pss_nil)
      (pss_one (ps_ret (pe_op op_add_str (pe_join pe_str (pe_lc (own := [("part", 3)]) (g := (gName 3)) (tt := tYes) rfl sc__law_w_statement.nd (pi_tup (pv 0)) (blkOk_by (N := N__law_w_statement) (sc := defScope s__law_w_statement) (by decide +kernel)) (fun _ _ _ _ _ => (pg_name (i := 3) sc__law_w_statement.nd rfl (Or.inl rfl))) (fun _ _ _ _ _ => pts_nil) (fun _ _ _ _ _ => (pe_callTy call_strB (by rfl) T.b_str (by decide +kernel) (pa_cons (pv 3) pa_nil))))) pe_str)))))))))), ?_⟩
    cases s with
    | loop m b =>
      obtain ⟨a, xs, rfl, hT, hA⟩ := dp_tup (id hd)
      obtain ⟨x0, r0, rfl, h0, hA0⟩ := dpA_cons hA
      cases dp_str h0
      obtain ⟨x1, r1, rfl, h1, hA1⟩ := dpA_cons hA0
      obtain ⟨x2, r2, rfl, h2, hA2⟩ := dpA_cons hA1
      cases dpA_nil hA2
      cases dp_int h1
      obtain ⟨ok1, ok2⟩ := ok
      have hcb : 1 + cB n b ≤ 200 := hc
      have l1 := (num_ok ok1).1
      refine ⟨_, rfl, a, _, _, _, rfl, rfl, hT, atI_nat (j := 0) rfl, ?_⟩
      refine ⟨_, rfl, by show 2 ≤ sizeLine; decide, fun p hp => ⟨p, _, rfl, .inr (SqT.of upd_same), rfl, by decide +kernel, _, rfl, ?_⟩⟩
      have s1 := same_new (o := .tup [V.str "put", .str "take"]) hp
      have hT1 := sqt_keep (KeepT.of_same s1) hT
      have hO1 : Odd _ O := s1 _ _ hO
      refine ite2 (fun e => absurd e (by decide +kernel)) (fun _ => ?_)
      refine ⟨_, rfl, rfl, _, rfl, ?_⟩
      refine ite2 (fun e => absurd e (by decide +kernel)) (fun _ => ?_)
      refine ⟨_, rfl, rfl, _, rfl, ?_⟩
      refine ite2 (fun e => absurd e (by decide +kernel)) (fun _ => ?_)
      refine ⟨_, rfl, rfl, _, rfl, ?_⟩
      refine ite2 (fun e => absurd e (by decide +kernel)) (fun _ => ?_)
      refine ⟨_, rfl, rfl, _, rfl, ?_⟩
      refine ite2 (fun _ => ?_) (fun e => absurd (decide_eq_true rfl) e)
      refine ⟨_, rfl, a, _, _, _, rfl, rfl, hT1, atI_nat (j := 1) rfl, m, rfl, num_log ok1, _, _, rfl, rfl, line7 (by simp only [PySem.Str.length_append, num_fold, ll_use, ll_rank, ll_sp, ll_pat, ll_els, ll_iff, ll_loop, ll_grd, ll_hdl, ll_end, ll_draw, ll_ob, ll_cb, ll_at, ll_com, ll_e0, ll_eob, ll_plan, ll_for, ll_len, ll_room, ll_of, ll_mdl, ll_strm, ll_proc, ll_pat2, ll_cyc, ll_ob0]; omega), _, _, rfl, rfl, line7 (by simp only [PySem.Str.length_append, num_fold, ll_use, ll_rank, ll_sp, ll_pat, ll_els, ll_iff, ll_loop, ll_grd, ll_hdl, ll_end, ll_draw, ll_ob, ll_cb, ll_at, ll_com, ll_e0, ll_eob, ll_plan, ll_for, ll_len, ll_room, ll_of, ll_mdl, ll_strm, ll_proc, ll_pat2, ll_cyc, ll_ob0]; omega), ?_⟩
      refine ⟨_, rfl, a, _, _, _, rfl, rfl, hT1, atI_nat (j := 2) rfl, _, rfl, x2, O, b, rfl, hO1, dp_keep (KeepT.of_same s1) _ _ (dB_noL n b) h2, ok2, by omega, fun H2 z s2 hz => ?_⟩
      have lz := wb_len ok2 (by omega) hz
      refine ⟨_, _, rfl, rfl, line7 (by simp only [PySem.Str.length_append, num_fold, ll_use, ll_rank, ll_sp, ll_pat, ll_els, ll_iff, ll_loop, ll_grd, ll_hdl, ll_end, ll_draw, ll_ob, ll_cb, ll_at, ll_com, ll_e0, ll_eob, ll_plan, ll_for, ll_len, ll_room, ll_of, ll_mdl, ll_strm, ll_proc, ll_pat2, ll_cyc, ll_ob0]; omega), q _ _ (s1.trans s2) ?_⟩
      show _ = flat (("loop" : Str) :: num m :: tB n b)
      simp only [TL.tl_append, num_fold, flat_app, flat_cons, flat_nil, List.append_assoc, List.cons_append, List.nil_append, List.append_nil, lt_use, lt_rank, lt_sp, lt_pat, lt_els, lt_iff, lt_loop, lt_grd, lt_hdl, lt_end, lt_draw, lt_ob, lt_cb, lt_at, lt_com, lt_e0, lt_eob, lt_plan, lt_for, lt_len, lt_room, lt_of, lt_mdl, lt_strm, lt_proc, lt_pat2, lt_cyc, lt_ob0, sw_0, sw_1, sw_2, sw_3, sw_4, sw_5, sw_6, sw_7, sw_8, sw_9, sw_10, sw_11, sw_12, sw_13, sw_14, sw_15, sw_16, sw_17, sw_18, sw_19, sw_20, sw_21, sw_22, sw_23, sw_24, sw_25, sw_26, sw_27, sw_28, spc_num ok1, hz]
    | guard b o =>
      obtain ⟨a, xs, rfl, hT, hA⟩ := dp_tup (id hd)
      obtain ⟨x0, r0, rfl, h0, hA0⟩ := dpA_cons hA
      cases dp_str h0
      obtain ⟨x1, r1, rfl, h1, hA1⟩ := dpA_cons hA0
      obtain ⟨x2, r2, rfl, h2, hA2⟩ := dpA_cons hA1
      cases dpA_nil hA2
      obtain ⟨ok1, ok2⟩ := ok
      have hcb : 1 + cB n b + cB n o ≤ 200 := hc
      refine ⟨_, rfl, a, _, _, _, rfl, rfl, hT, atI_nat (j := 0) rfl, ?_⟩
      refine ⟨_, rfl, by show 2 ≤ sizeLine; decide, fun p hp => ⟨p, _, rfl, .inr (SqT.of upd_same), rfl, by decide +kernel, _, rfl, ?_⟩⟩
      have s1 := same_new (o := .tup [V.str "put", .str "take"]) hp
      have hT1 := sqt_keep (KeepT.of_same s1) hT
      have hO1 : Odd _ O := s1 _ _ hO
      refine ite2 (fun e => absurd e (by decide +kernel)) (fun _ => ?_)
      refine ⟨_, rfl, rfl, _, rfl, ?_⟩
      refine ite2 (fun e => absurd e (by decide +kernel)) (fun _ => ?_)
      refine ⟨_, rfl, rfl, _, rfl, ?_⟩
      refine ite2 (fun e => absurd e (by decide +kernel)) (fun _ => ?_)
      refine ⟨_, rfl, rfl, _, rfl, ?_⟩
      refine ite2 (fun e => absurd e (by decide +kernel)) (fun _ => ?_)
      refine ⟨_, rfl, rfl, _, rfl, ?_⟩
      refine ite2 (fun e => absurd e (by decide +kernel)) (fun _ => ?_)
      refine ⟨_, rfl, rfl, _, rfl, ?_⟩
      refine ite2 (fun _ => ?_) (fun e => absurd (decide_eq_true rfl) e)
      refine ⟨_, rfl, a, _, _, _, rfl, rfl, hT1, atI_nat (j := 1) rfl, _, rfl, x1, O, b, rfl, hO1, dp_keep (KeepT.of_same s1) _ _ (dB_noL n b) h1, ok1, by omega, fun H2 z s2 hz => ?_⟩
      have lz := wb_len ok1 (by omega) hz
      have hT2 := sqt_keep (KeepT.of_same s2) hT1
      refine ⟨_, _, rfl, rfl, line7 (by simp only [PySem.Str.length_append, num_fold, ll_use, ll_rank, ll_sp, ll_pat, ll_els, ll_iff, ll_loop, ll_grd, ll_hdl, ll_end, ll_draw, ll_ob, ll_cb, ll_at, ll_com, ll_e0, ll_eob, ll_plan, ll_for, ll_len, ll_room, ll_of, ll_mdl, ll_strm, ll_proc, ll_pat2, ll_cyc, ll_ob0]; omega), _, _, rfl, rfl, line7 (by simp only [PySem.Str.length_append, num_fold, ll_use, ll_rank, ll_sp, ll_pat, ll_els, ll_iff, ll_loop, ll_grd, ll_hdl, ll_end, ll_draw, ll_ob, ll_cb, ll_at, ll_com, ll_e0, ll_eob, ll_plan, ll_for, ll_len, ll_room, ll_of, ll_mdl, ll_strm, ll_proc, ll_pat2, ll_cyc, ll_ob0]; omega), ?_⟩
      refine ⟨_, rfl, a, _, _, _, rfl, rfl, hT2, atI_nat (j := 2) rfl, _, rfl, x2, O, o, rfl, s2 _ _ hO1, dp_keep (KeepT.of_same (s1.trans s2)) _ _ (dB_noL n o) h2, ok2, by omega, fun H3 z2 s3 hz2 => ?_⟩
      have lz2 := wb_len ok2 (by omega) hz2
      refine ⟨_, _, rfl, rfl, line7 (by simp only [PySem.Str.length_append, num_fold, ll_use, ll_rank, ll_sp, ll_pat, ll_els, ll_iff, ll_loop, ll_grd, ll_hdl, ll_end, ll_draw, ll_ob, ll_cb, ll_at, ll_com, ll_e0, ll_eob, ll_plan, ll_for, ll_len, ll_room, ll_of, ll_mdl, ll_strm, ll_proc, ll_pat2, ll_cyc, ll_ob0]; omega), q _ _ ((s1.trans s2).trans s3) ?_⟩
      show _ = flat (("guard" : Str) :: (tB n b ++ (("handle" : Str) :: tB n o)))
      simp only [TL.tl_append, num_fold, flat_app, flat_cons, flat_nil, List.append_assoc, List.cons_append, List.nil_append, List.append_nil, lt_use, lt_rank, lt_sp, lt_pat, lt_els, lt_iff, lt_loop, lt_grd, lt_hdl, lt_end, lt_draw, lt_ob, lt_cb, lt_at, lt_com, lt_e0, lt_eob, lt_plan, lt_for, lt_len, lt_room, lt_of, lt_mdl, lt_strm, lt_proc, lt_pat2, lt_cyc, lt_ob0, sw_0, sw_1, sw_2, sw_3, sw_4, sw_5, sw_6, sw_7, sw_8, sw_9, sw_10, sw_11, sw_12, sw_13, sw_14, sw_15, sw_16, sw_17, sw_18, sw_19, sw_20, sw_21, sw_22, sw_23, sw_24, sw_25, sw_26, sw_27, sw_28, hz, hz2]
    | use nm r pt b o =>
      obtain ⟨a, xs, rfl, hT, hA⟩ := dp_tup (id hd)
      obtain ⟨x0, r0, rfl, h0, hA0⟩ := dpA_cons hA
      cases dp_str h0
      obtain ⟨x1, r1, rfl, h1, hA1⟩ := dpA_cons hA0
      obtain ⟨x2, r2, rfl, h2, hA2⟩ := dpA_cons hA1
      obtain ⟨x3, r3, rfl, h3, hA3⟩ := dpA_cons hA2
      obtain ⟨x4, r4, rfl, h4, hA4⟩ := dpA_cons hA3
      obtain ⟨x5, r5, rfl, h5, hA5⟩ := dpA_cons hA4
      cases dpA_nil hA5
      cases dp_str h1
      cases dp_int h2
      obtain ⟨ok1, ok2, ok3, ok4, ok5⟩ := ok
      have hcb : 1 + cB n b + cB n o ≤ 200 := hc
      have l1 := (num_ok ok2).1
      have l2 := ok1.1
      refine ⟨_, rfl, a, _, _, _, rfl, rfl, hT, atI_nat (j := 0) rfl, ?_⟩
      refine ⟨_, rfl, by show 2 ≤ sizeLine; decide, fun p hp => ⟨p, _, rfl, .inr (SqT.of upd_same), rfl, by decide +kernel, _, rfl, ?_⟩⟩
      have s1 := same_new (o := .tup [V.str "put", .str "take"]) hp
      have hT1 := sqt_keep (KeepT.of_same s1) hT
      have hO1 : Odd _ O := s1 _ _ hO
      refine ite2 (fun e => absurd e (by decide +kernel)) (fun _ => ?_)
      refine ⟨_, rfl, rfl, _, rfl, ?_⟩
      refine ite2 (fun e => absurd e (by decide +kernel)) (fun _ => ?_)
      refine ⟨_, rfl, rfl, _, rfl, ?_⟩
      refine ite2 (fun _ => ?_) (fun e => absurd (decide_eq_true rfl) e)
      refine ⟨_, rfl, a, _, _, _, rfl, rfl, hT1, atI_nat (j := 1) rfl, _, _, rfl, rfl, line7 (by simp only [PySem.Str.length_append, num_fold, ll_use, ll_rank, ll_sp, ll_pat, ll_els, ll_iff, ll_loop, ll_grd, ll_hdl, ll_end, ll_draw, ll_ob, ll_cb, ll_at, ll_com, ll_e0, ll_eob, ll_plan, ll_for, ll_len, ll_room, ll_of, ll_mdl, ll_strm, ll_proc, ll_pat2, ll_cyc, ll_ob0]; omega), _, _, rfl, rfl, line7 (by simp only [PySem.Str.length_append, num_fold, ll_use, ll_rank, ll_sp, ll_pat, ll_els, ll_iff, ll_loop, ll_grd, ll_hdl, ll_end, ll_draw, ll_ob, ll_cb, ll_at, ll_com, ll_e0, ll_eob, ll_plan, ll_for, ll_len, ll_room, ll_of, ll_mdl, ll_strm, ll_proc, ll_pat2, ll_cyc, ll_ob0]; omega), _, rfl, a, _, _, _, rfl, rfl, hT1, atI_nat (j := 2) rfl, r, rfl, num_log ok2, _, _, rfl, rfl, line7 (by simp only [PySem.Str.length_append, num_fold, ll_use, ll_rank, ll_sp, ll_pat, ll_els, ll_iff, ll_loop, ll_grd, ll_hdl, ll_end, ll_draw, ll_ob, ll_cb, ll_at, ll_com, ll_e0, ll_eob, ll_plan, ll_for, ll_len, ll_room, ll_of, ll_mdl, ll_strm, ll_proc, ll_pat2, ll_cyc, ll_ob0]; omega), _, _, rfl, rfl, line7 (by simp only [PySem.Str.length_append, num_fold, ll_use, ll_rank, ll_sp, ll_pat, ll_els, ll_iff, ll_loop, ll_grd, ll_hdl, ll_end, ll_draw, ll_ob, ll_cb, ll_at, ll_com, ll_e0, ll_eob, ll_plan, ll_for, ll_len, ll_room, ll_of, ll_mdl, ll_strm, ll_proc, ll_pat2, ll_cyc, ll_ob0]; omega), ?_⟩
      cases pt with
      | none =>
        cases dp_non h3
        refine ⟨_, rfl, a, _, _, _, rfl, rfl, hT1, atI_nat (j := 3) rfl, rfl, _, rfl, ?_⟩
        refine ite2 (fun _ => ?_) (fun e => absurd (decide_eq_true rfl) e)
        refine ⟨_, rfl, _, rfl, a, _, _, _, rfl, rfl, hT1, atI_nat (j := 4) rfl, _, rfl, x4, O, b, rfl, hO1, dp_keep (KeepT.of_same s1) _ _ (dB_noL n b) h4, ok4, by omega, fun H2 z s2 hz => ?_⟩
        have lz := wb_len ok4 (by omega) hz
        refine ⟨_, _, rfl, rfl, line7 (by simp only [PySem.Str.length_append, num_fold, ll_use, ll_rank, ll_sp, ll_pat, ll_els, ll_iff, ll_loop, ll_grd, ll_hdl, ll_end, ll_draw, ll_ob, ll_cb, ll_at, ll_com, ll_e0, ll_eob, ll_plan, ll_for, ll_len, ll_room, ll_of, ll_mdl, ll_strm, ll_proc, ll_pat2, ll_cyc, ll_ob0]; omega), q _ _ (s1.trans s2) ?_⟩
        show _ = flat ((["use", nm, "rank", num r] : List Str) ++ tB n b)
        simp only [TL.tl_append, num_fold, flat_app, flat_cons, flat_nil, List.append_assoc, List.cons_append, List.nil_append, List.append_nil, lt_use, lt_rank, lt_sp, lt_pat, lt_els, lt_iff, lt_loop, lt_grd, lt_hdl, lt_end, lt_draw, lt_ob, lt_cb, lt_at, lt_com, lt_e0, lt_eob, lt_plan, lt_for, lt_len, lt_room, lt_of, lt_mdl, lt_strm, lt_proc, lt_pat2, lt_cyc, lt_ob0, sw_0, sw_1, sw_2, sw_3, sw_4, sw_5, sw_6, sw_7, sw_8, sw_9, sw_10, sw_11, sw_12, sw_13, sw_14, sw_15, sw_16, sw_17, sw_18, sw_19, sw_20, sw_21, sw_22, sw_23, sw_24, sw_25, sw_26, sw_27, sw_28, spc_num ok2, spc_n ok1, hz]
      | some pp =>
        cases dp_int h3
        have okp := ok3 pp rfl
        have l3 := (num_ok okp).1
        refine ⟨_, rfl, a, _, _, _, rfl, rfl, hT1, atI_nat (j := 3) rfl, rfl, _, rfl, ?_⟩
        refine ite2 (fun e => absurd e (by rw [decide_eq_false (fun z => by cases z)]; exact Bool.false_ne_true)) (fun _ => ?_)
        refine ⟨_, rfl, _, _, rfl, rfl, line7 (by simp only [PySem.Str.length_append, num_fold, ll_use, ll_rank, ll_sp, ll_pat, ll_els, ll_iff, ll_loop, ll_grd, ll_hdl, ll_end, ll_draw, ll_ob, ll_cb, ll_at, ll_com, ll_e0, ll_eob, ll_plan, ll_for, ll_len, ll_room, ll_of, ll_mdl, ll_strm, ll_proc, ll_pat2, ll_cyc, ll_ob0]; omega), _, rfl, a, _, _, _, rfl, rfl, hT1, atI_nat (j := 3) rfl, pp, rfl, num_log okp, _, _, rfl, rfl, line7 (by simp only [PySem.Str.length_append, num_fold, ll_use, ll_rank, ll_sp, ll_pat, ll_els, ll_iff, ll_loop, ll_grd, ll_hdl, ll_end, ll_draw, ll_ob, ll_cb, ll_at, ll_com, ll_e0, ll_eob, ll_plan, ll_for, ll_len, ll_room, ll_of, ll_mdl, ll_strm, ll_proc, ll_pat2, ll_cyc, ll_ob0]; omega), _, _, rfl, rfl, line7 (by simp only [PySem.Str.length_append, num_fold, ll_use, ll_rank, ll_sp, ll_pat, ll_els, ll_iff, ll_loop, ll_grd, ll_hdl, ll_end, ll_draw, ll_ob, ll_cb, ll_at, ll_com, ll_e0, ll_eob, ll_plan, ll_for, ll_len, ll_room, ll_of, ll_mdl, ll_strm, ll_proc, ll_pat2, ll_cyc, ll_ob0]; omega), ?_⟩
        refine ⟨_, rfl, a, _, _, _, rfl, rfl, hT1, atI_nat (j := 4) rfl, _, rfl, x4, O, b, rfl, hO1, dp_keep (KeepT.of_same s1) _ _ (dB_noL n b) h4, ok4, by omega, fun H2 z s2 hz => ?_⟩
        have lz := wb_len ok4 (by omega) hz
        have hT2 := sqt_keep (KeepT.of_same s2) hT1
        refine ⟨_, _, rfl, rfl, line7 (by simp only [PySem.Str.length_append, num_fold, ll_use, ll_rank, ll_sp, ll_pat, ll_els, ll_iff, ll_loop, ll_grd, ll_hdl, ll_end, ll_draw, ll_ob, ll_cb, ll_at, ll_com, ll_e0, ll_eob, ll_plan, ll_for, ll_len, ll_room, ll_of, ll_mdl, ll_strm, ll_proc, ll_pat2, ll_cyc, ll_ob0]; omega), _, rfl, _, _, rfl, rfl, line7 (by simp only [PySem.Str.length_append, num_fold, ll_use, ll_rank, ll_sp, ll_pat, ll_els, ll_iff, ll_loop, ll_grd, ll_hdl, ll_end, ll_draw, ll_ob, ll_cb, ll_at, ll_com, ll_e0, ll_eob, ll_plan, ll_for, ll_len, ll_room, ll_of, ll_mdl, ll_strm, ll_proc, ll_pat2, ll_cyc, ll_ob0]; omega), ?_⟩
        refine ⟨_, rfl, a, _, _, _, rfl, rfl, hT2, atI_nat (j := 5) rfl, _, rfl, x5, O, o, rfl, s2 _ _ hO1, dp_keep (KeepT.of_same (s1.trans s2)) _ _ (dB_noL n o) h5, ok5, by omega, fun H3 z2 s3 hz2 => ?_⟩
        have lz2 := wb_len ok5 (by omega) hz2
        refine ⟨_, _, rfl, rfl, line7 (by simp only [PySem.Str.length_append, num_fold, ll_use, ll_rank, ll_sp, ll_pat, ll_els, ll_iff, ll_loop, ll_grd, ll_hdl, ll_end, ll_draw, ll_ob, ll_cb, ll_at, ll_com, ll_e0, ll_eob, ll_plan, ll_for, ll_len, ll_room, ll_of, ll_mdl, ll_strm, ll_proc, ll_pat2, ll_cyc, ll_ob0]; omega), q _ _ ((s1.trans s2).trans s3) ?_⟩
        show _ = flat ((["use", nm, "rank", num r] : List Str) ++ (("patience" : Str) :: num pp :: (tB n b ++ (("else" : Str) :: tB n o))))
        simp only [TL.tl_append, num_fold, flat_app, flat_cons, flat_nil, List.append_assoc, List.cons_append, List.nil_append, List.append_nil, lt_use, lt_rank, lt_sp, lt_pat, lt_els, lt_iff, lt_loop, lt_grd, lt_hdl, lt_end, lt_draw, lt_ob, lt_cb, lt_at, lt_com, lt_e0, lt_eob, lt_plan, lt_for, lt_len, lt_room, lt_of, lt_mdl, lt_strm, lt_proc, lt_pat2, lt_cyc, lt_ob0, sw_0, sw_1, sw_2, sw_3, sw_4, sw_5, sw_6, sw_7, sw_8, sw_9, sw_10, sw_11, sw_12, sw_13, sw_14, sw_15, sw_16, sw_17, sw_18, sw_19, sw_20, sw_21, sw_22, sw_23, sw_24, sw_25, sw_26, sw_27, sw_28, spc_num ok2, spc_num okp, spc_n ok1, hz, hz2]
    | plain wd as =>
      obtain ⟨a, xs, rfl, hT, hA⟩ := dp_tup (id hd)
      obtain ⟨x0, r0, rfl, h0, hA0⟩ := dpA_cons hA
      cases dp_str h0
      obtain ⟨ok1, ok2, ok3⟩ := ok
      obtain ⟨w1, w2, w3, w4, w5, w6⟩ := plain_no ok1
      refine ⟨_, rfl, a, _, _, _, rfl, rfl, hT, atI_nat (j := 0) rfl, ?_⟩
      refine ⟨_, rfl, by show 2 ≤ sizeLine; decide, fun p hp => ⟨p, _, rfl, .inr (SqT.of upd_same), rfl, by decide +kernel, _, rfl, ?_⟩⟩
      have s1 := same_new (o := .tup [V.str "put", .str "take"]) hp
      refine ite2 (fun e => absurd e (by show ¬ inV (.str wd) [V.str "put", .str "take"] = true; rw [w1]; exact Bool.false_ne_true)) (fun _ => ?_)
      refine ⟨_, rfl, rfl, _, rfl, ?_⟩
      refine ite2 (fun e => absurd e (by rw [w2]; exact Bool.false_ne_true)) (fun _ => ?_)
      refine ⟨_, rfl, rfl, _, rfl, ?_⟩
      refine ite2 (fun e => absurd e (by rw [w3]; exact Bool.false_ne_true)) (fun _ => ?_)
      refine ⟨_, rfl, rfl, _, rfl, ?_⟩
      refine ite2 (fun e => absurd e (by rw [w4]; exact Bool.false_ne_true)) (fun _ => ?_)
      refine ⟨_, rfl, rfl, _, rfl, ?_⟩
      refine ite2 (fun e => absurd e (by rw [w5]; exact Bool.false_ne_true)) (fun _ => ?_)
      refine ⟨_, rfl, rfl, _, rfl, ?_⟩
      refine ite2 (fun e => absurd e (by rw [w6]; exact Bool.false_ne_true)) (fun _ => ?_)
      have hT1 := sqt_keep (KeepT.of_same s1) hT
      have xl : (V.str wd :: r0).length = as.length + 1 := by
        have := dpA_len hA
        simp only [List.length_cons, List.length_map] at this
        simp only [List.length_cons]
        exact this
      have e0 : (.str wd :: as.map Atm.d : List PyData) = (Atm.s wd :: as).map Atm.d := rfl
      rw [e0] at hA
      refine ⟨⟨_, rfl⟩, _, rfl, a, rfl, ⟨_, hT1⟩, fun L hL => lc_tup (K := K) (a := a) (xs := V.str wd :: r0) (fun j H2 => Same (upd H p (.tup [V.str "put", .str "take"])) H2 ∧ H2 L = some (.lst ((((Atm.s wd :: as).take j).map Atm.t).map V.str))) ⟨same_new hL, upd_same⟩ (fun j H2 _ e => sqt_keep (KeepT.of_same e.1) hT1) ?_ ?_⟩
      · rintro j x H2 hj ⟨s3, h3⟩
        obtain ⟨dd, e1, e2⟩ := dpA_at hA hj
        obtain ⟨am, e3, rfl⟩ := map_at e1
        have hjl := (List.getElem?_eq_some_iff.mp e3).1
        have ll : ((((Atm.s wd :: as).take j).map Atm.t).map V.str).length < sizeLine := line6 (by rw [List.length_map, List.length_map, List.length_take, List.length_cons]; omega)
        have ee : ∀ z : Str, z = am.t → Same (upd H p (.tup [V.str "put", .str "take"])) (upd H2 L (.lst ((((Atm.s wd :: as).take j).map Atm.t).map V.str ++ [V.str z]))) ∧ (upd H2 L (.lst ((((Atm.s wd :: as).take j).map Atm.t).map V.str ++ [V.str z]))) L = some (.lst ((((Atm.s wd :: as).take (j + 1)).map Atm.t).map V.str)) := fun z ez => by
          subst ez
          refine ⟨same_mut s3 hL, ?_⟩
          rw [upd_same, ← take_map_succ (f := Atm.t) e3]
          exact congrArg (fun l => some (HO.lst l)) (snoc_str _ _)
        cases am with
        | s z =>
          cases dp_str e2
          exact ⟨rfl, _, rfl, .inr ⟨z, rfl, _, h3, ll, ee z rfl⟩⟩
        | i z =>
          cases dp_int e2
          have hz : okI z := by
            have hm := List.mem_of_getElem? e3
            rcases List.mem_cons.mp hm with h | h
            · cases h
            · exact ok3 _ h
          exact ⟨rfl, _, rfl, .inl ⟨z, rfl, num_log hz, _, h3, ll, ee (num z) rfl⟩⟩
      · rintro H2 ⟨s3, h3⟩
        rw [List.take_of_length_le (by rw [xl]; exact Nat.le_refl _)] at h3
        have sp : ∀ t ∈ (Atm.s wd :: as).map Atm.t, TL.tl (spc t) = TL.tl t ++ [32] ∧ t.length ≤ 10 := fun t ht => by
          obtain ⟨am, hm, rfl⟩ := List.mem_map.mp ht
          rcases List.mem_cons.mp hm with h | h
          · subst h
            exact ⟨spc_plain ok1, plain_len9 ok1⟩
          · have := ok3 _ h
            cases am with
            | s z => exact ⟨spc_n this, okT_n this⟩
            | i z => exact ⟨spc_num this, okT_num this⟩
        have e := tl_joinS (ts := (Atm.s wd :: as).map Atm.t) (by simp) fun t ht => (sp t ht).1
        have fl := flat_len ((Atm.s wd :: as).map Atm.t) fun t ht => (sp t ht).2
        rw [List.length_map, List.length_cons] at fl
        have jl : (Txt.join " " ((Atm.s wd :: as).map Atm.t)).length ≤ 1000 := by
          have := congrArg List.length e
          rw [List.length_append, List.length_singleton, ← TL.len_tl] at this
          omega
        refine ⟨_, L, _, rfl, rfl, .inl (SqL.of h3), ?_, _, _, rfl, rfl, line7 (by simp only [PySem.Str.length_append, num_fold, ll_use, ll_rank, ll_sp, ll_pat, ll_els, ll_iff, ll_loop, ll_grd, ll_hdl, ll_end, ll_draw, ll_ob, ll_cb, ll_at, ll_com, ll_e0, ll_eob, ll_plan, ll_for, ll_len, ll_room, ll_of, ll_mdl, ll_strm, ll_proc, ll_pat2, ll_cyc, ll_ob0]; omega), q _ _ (s1.trans s3) ?_⟩
        · have := join_len (z := "") (S := "") (ys := (Atm.s wd :: as).map Atm.t) (k := 10) fun t ht => (sp t ht).2
          rw [List.length_map, List.length_cons] at this
          rw [ll_sp, List.length_map, List.length_cons]
          omega
        · rw [TL.tl_append, lt_end]
          show TL.tl (Txt.join " " ((Atm.s wd :: as).map Atm.t)) ++ ([32] ++ [59, 10]) = flat ((Atm.s wd :: as).map Atm.t ++ ([";"] : List Str))
          rw [← List.append_assoc, e, flat_app]
          rfl
    | parts wd ps =>
      obtain ⟨a, xs, rfl, hT, hA⟩ := dp_tup (id hd)
      obtain ⟨x0, r0, rfl, h0, hA0⟩ := dpA_cons hA
      cases dp_str h0
      obtain ⟨x1, r1, rfl, h1, hA1⟩ := dpA_cons hA0
      cases dpA_nil hA1
      obtain ⟨ok1, ok0, ok2, ok3⟩ := ok
      obtain ⟨pa, ys, rfl, hTa, hAa⟩ := dp_tup h1
      have yl : ys.length = ps.length := by
        have := dpA_len hAa
        rw [List.length_map] at this
        exact this
      refine ⟨_, rfl, a, _, _, _, rfl, rfl, hT, atI_nat (j := 0) rfl, ?_⟩
      refine ⟨_, rfl, by show 2 ≤ sizeLine; decide, fun p hp => ⟨p, _, rfl, .inr (SqT.of upd_same), rfl, by decide +kernel, _, rfl, ?_⟩⟩
      have s1 := same_new (o := .tup [V.str "put", .str "take"]) hp
      have w1 : inV (.str wd) [V.str "put", .str "take"] = true := by
        rcases ok1 with h | h <;> subst h <;> decide +kernel
      have w2 : TL.tl (spc wd) = TL.tl wd ++ [32] ∧ wd.length ≤ 10 := by
        rcases ok1 with h | h <;> subst h <;> decide +kernel
      have w3 := w2.2
      refine ite2 (fun _ => ?_) (fun e => absurd w1 e)
      have hT1 := sqt_keep (KeepT.of_same s1) hT
      have hTa1 := sqt_keep (KeepT.of_same s1) hTa
      refine ⟨_, rfl, _, _, rfl, rfl, line7 (by simp only [PySem.Str.length_append, num_fold, ll_use, ll_rank, ll_sp, ll_pat, ll_els, ll_iff, ll_loop, ll_grd, ll_hdl, ll_end, ll_draw, ll_ob, ll_cb, ll_at, ll_com, ll_e0, ll_eob, ll_plan, ll_for, ll_len, ll_room, ll_of, ll_mdl, ll_strm, ll_proc, ll_pat2, ll_cyc, ll_ob0]; omega), ⟨_, rfl⟩, _, rfl, a, _, _, _, rfl, rfl, hT1, atI_nat (j := 1) rfl, pa, rfl, ⟨_, hTa1⟩, fun L hL => lc_tup (K := K) (a := pa) (xs := ys) (fun j H2 => ∃ zs : List Str, Same (upd H p (.tup [V.str "put", .str "take"])) H2 ∧ H2 L = some (.lst (zs.map V.str)) ∧ zs.length = j ∧ zs.map (fun y => TL.tl y ++ [32]) = ((ps.take j).map fun p => ([p.1, num p.2] : List Str)).map flat ∧ ∀ y ∈ zs, y.length ≤ 20) ⟨[], same_new hL, upd_same, rfl, rfl, fun _ h => absurd h List.not_mem_nil⟩ (fun j H2 _ ⟨_, e, _⟩ => sqt_keep (KeepT.of_same e) hTa1) ?_ ?_⟩
      · rintro j x H2 hj ⟨zs, s3, h3, zl, h4, h5⟩
        obtain ⟨dd, e1, e2⟩ := dpA_at hAa hj
        obtain ⟨pp, e3, rfl⟩ := map_at e1
        obtain ⟨pb, ws, rfl, hTb, hAb⟩ := dp_tup e2
        obtain ⟨z0, t0, rfl, g0, hAb1⟩ := dpA_cons hAb
        obtain ⟨z1, t1, rfl, g1, hAb2⟩ := dpA_cons hAb1
        cases dpA_nil hAb2
        cases dp_str g0
        cases dp_int g1
        have hjl := (List.getElem?_eq_some_iff.mp e3).1
        have okp := ok3 pp (List.mem_of_getElem? e3)
        have l1 := okp.1.1
        have l2 := (num_ok okp.2).1
        have hTb2 := sqt_keep (KeepT.of_same (s1.trans s3)) hTb
        refine ⟨rfl, _, rfl, pb, _, _, _, rfl, rfl, hTb2, atI_nat (j := 0) rfl, _, _, rfl, rfl, line7 (by simp only [PySem.Str.length_append, num_fold, ll_use, ll_rank, ll_sp, ll_pat, ll_els, ll_iff, ll_loop, ll_grd, ll_hdl, ll_end, ll_draw, ll_ob, ll_cb, ll_at, ll_com, ll_e0, ll_eob, ll_plan, ll_for, ll_len, ll_room, ll_of, ll_mdl, ll_strm, ll_proc, ll_pat2, ll_cyc, ll_ob0]; omega), _, rfl, pb, _, _, _, rfl, rfl, hTb2, atI_nat (j := 1) rfl, pp.2, rfl, num_log okp.2, _, _, rfl, rfl, line7 (by simp only [PySem.Str.length_append, num_fold, ll_use, ll_rank, ll_sp, ll_pat, ll_els, ll_iff, ll_loop, ll_grd, ll_hdl, ll_end, ll_draw, ll_ob, ll_cb, ll_at, ll_com, ll_e0, ll_eob, ll_plan, ll_for, ll_len, ll_room, ll_of, ll_mdl, ll_strm, ll_proc, ll_pat2, ll_cyc, ll_ob0]; omega), ?_⟩
        refine ⟨_, h3, line6 (by rw [List.length_map]; omega), zs ++ [(pp.1 ++ " ") ++ num pp.2], same_mut s3 hL, ?_, ?_, ?_, ?_⟩
        · rw [upd_same, ← snoc_str]
          rfl
        · rw [List.length_append, List.length_singleton, zl]
        · rw [← take_map_succ (f := fun p : Str × Int => ([p.1, num p.2] : List Str)) e3, List.map_append, List.map_append, h4]
          refine congrArg (fun l => _ ++ [l]) ?_
          show _ = flat ([pp.1, num pp.2] : List Str)
          simp only [TL.tl_append, num_fold, flat_app, flat_cons, flat_nil, List.append_assoc, List.cons_append, List.nil_append, List.append_nil, lt_use, lt_rank, lt_sp, lt_pat, lt_els, lt_iff, lt_loop, lt_grd, lt_hdl, lt_end, lt_draw, lt_ob, lt_cb, lt_at, lt_com, lt_e0, lt_eob, lt_plan, lt_for, lt_len, lt_room, lt_of, lt_mdl, lt_strm, lt_proc, lt_pat2, lt_cyc, lt_ob0, sw_0, sw_1, sw_2, sw_3, sw_4, sw_5, sw_6, sw_7, sw_8, sw_9, sw_10, sw_11, sw_12, sw_13, sw_14, sw_15, sw_16, sw_17, sw_18, sw_19, sw_20, sw_21, sw_22, sw_23, sw_24, sw_25, sw_26, sw_27, sw_28, spc_n okp.1, spc_num okp.2]
        · intro y hy
          rcases List.mem_append.mp hy with h | h
          · exact h5 y h
          · rw [List.mem_singleton.mp h, PySem.Str.length_append, PySem.Str.length_append, ll_sp]
            omega
      · rintro H2 ⟨zs, s3, h3, zl, h4, h5⟩
        rw [List.take_of_length_le (by omega)] at h4
        have e := tl_joinC zs _ h4 (fun r hr => by obtain ⟨x, _, rfl⟩ := List.mem_map.mp hr; simp) (fun h => by rw [List.map_eq_nil_iff] at h; rw [h] at ok0; exact absurd ok0 (by decide))
        have jl : (Txt.join " , " zs).length ≤ 1000 := by
          have hl := lst_len (ps.map fun p => ([p.1, num p.2] : List Str)) []
          rw [List.map_map, List.length_nil] at hl
          have hl2 := sum_const ((fun r : List Str => r.length + 1) ∘ fun p : Str × Int => ([p.1, num p.2] : List Str)) 3 ps fun _ _ => Nat.le_refl _
          have fl := flat_len (lst [] (ps.map fun p => ([p.1, num p.2] : List Str))) fun t ht => by
            rcases lst_mem _ _ _ ht with h | h | ⟨r, h4, h5⟩
            · exact absurd h List.not_mem_nil
            · subst h
              decide +kernel
            · obtain ⟨p, hp, rfl⟩ := List.mem_map.mp h4
              obtain ⟨o1, o2⟩ := ok3 p hp
              simp only [List.mem_cons, List.not_mem_nil, or_false] at h5
              rcases h5 with h | h <;> subst h
              · exact okT_n o1
              · exact okT_num o2
          have := congrArg List.length e
          rw [List.length_append, List.length_singleton, ← TL.len_tl] at this
          omega
        refine ⟨_, L, zs, rfl, rfl, .inl (SqL.of h3), ?_, _, _, rfl, rfl, line7 (by simp only [PySem.Str.length_append, num_fold, ll_use, ll_rank, ll_sp, ll_pat, ll_els, ll_iff, ll_loop, ll_grd, ll_hdl, ll_end, ll_draw, ll_ob, ll_cb, ll_at, ll_com, ll_e0, ll_eob, ll_plan, ll_for, ll_len, ll_room, ll_of, ll_mdl, ll_strm, ll_proc, ll_pat2, ll_cyc, ll_ob0]; omega), _, _, rfl, rfl, line7 (by simp only [PySem.Str.length_append, num_fold, ll_use, ll_rank, ll_sp, ll_pat, ll_els, ll_iff, ll_loop, ll_grd, ll_hdl, ll_end, ll_draw, ll_ob, ll_cb, ll_at, ll_com, ll_e0, ll_eob, ll_plan, ll_for, ll_len, ll_room, ll_of, ll_mdl, ll_strm, ll_proc, ll_pat2, ll_cyc, ll_ob0]; omega), q _ _ (s1.trans s3) ?_⟩
        · have := join_len (z := "") (S := "") h5
          rw [ll_com]
          omega
        · rw [TL.tl_append, TL.tl_append, TL.tl_append, lt_sp, lt_end]
          show ((TL.tl wd ++ [32]) ++ TL.tl (Txt.join " , " zs)) ++ ([32] ++ [59, 10]) = flat (wd :: (lst [] (ps.map fun p => ([p.1, num p.2] : List Str)) ++ ([";"] : List Str)))
          rw [← List.append_assoc, List.append_assoc _ _ [32], e, flat_cons, w2.1, flat_app]
          rw [List.append_assoc]
          rfl
    | draw nm arms =>
      obtain ⟨a, xs, rfl, hT, hA⟩ := dp_tup (id hd)
      obtain ⟨x0, r0, rfl, h0, hA0⟩ := dpA_cons hA
      cases dp_str h0
      obtain ⟨x1, r1, rfl, h1, hA1⟩ := dpA_cons hA0
      obtain ⟨x2, r2, rfl, h2, hA2⟩ := dpA_cons hA1
      cases dpA_nil hA2
      cases dp_str h1
      obtain ⟨ok1, ok2, ok3⟩ := ok
      have l1 := ok1.1
      obtain ⟨pa, ys, rfl, hTa, hAa⟩ := dp_tup h2
      have yl : ys.length = arms.length := by
        have := dpA_len hAa
        rw [List.length_map] at this
        exact this
      refine ⟨_, rfl, a, _, _, _, rfl, rfl, hT, atI_nat (j := 0) rfl, ?_⟩
      refine ⟨_, rfl, by show 2 ≤ sizeLine; decide, fun p hp => ⟨p, _, rfl, .inr (SqT.of upd_same), rfl, by decide +kernel, _, rfl, ?_⟩⟩
      have s1 := same_new (o := .tup [V.str "put", .str "take"]) hp
      have hT1 := sqt_keep (KeepT.of_same s1) hT
      have hO1 : Odd _ O := s1 _ _ hO
      refine ite2 (fun e => absurd e (by decide +kernel)) (fun _ => ?_)
      refine ⟨_, rfl, rfl, _, rfl, ?_⟩
      refine ite2 (fun _ => ?_) (fun e => absurd (decide_eq_true rfl) e)
      have hTa1 := sqt_keep (KeepT.of_same s1) hTa
      have tlen := tS_len (tb := tB n) (em := empB n) (cb := cB n) (tB_len n) (.draw nm arms) ⟨ok1, ok2, ok3⟩
      have tl2 : ((["draw", nm, "{"] : List Str) ++ arms.flatMap (tArm (tB n)) ++ ([("}" : Str)])).length ≤ 12800 := Nat.le_trans tlen (by omega)
      rw [List.length_append, List.length_append, List.length_singleton] at tl2
      have tok : ∀ i, ∀ t ∈ (["draw", nm, "{"] : List Str) ++ (arms.take i).flatMap (tArm (tB n)), okT t := fun i t ht => by
        refine tS_okT (n := n) (s := .draw nm arms) ⟨ok1, ok2, ok3⟩ t ?_
        show t ∈ (["draw", nm, "{"] : List Str) ++ arms.flatMap (tArm (tB n)) ++ (["}"] : List Str)
        rcases List.mem_append.mp ht with h | h
        · exact List.mem_append_left _ (List.mem_append_left _ h)
        · obtain ⟨x, hx, h⟩ := List.mem_flatMap.mp h
          exact List.mem_append_left _ (List.mem_append_right _ (List.mem_flatMap.mpr ⟨x, List.mem_of_mem_take hx, h⟩))
      have zlen : ∀ i (z : Str), TL.tl z = flat ((["draw", nm, "{"] : List Str) ++ (arms.take i).flatMap (tArm (tB n))) → z.length ≤ 150000 := fun i z hz => by
        rw [TL.len_tl, hz]
        have h1 := flat_len _ (tok i)
        have h2 := fm_take (tArm (tB n)) arms i
        rw [List.length_append] at h1
        omega
      refine ⟨_, rfl, a, _, _, _, rfl, rfl, hT1, atI_nat (j := 1) rfl, _, _, rfl, rfl, line7 (by simp only [PySem.Str.length_append, num_fold, ll_use, ll_rank, ll_sp, ll_pat, ll_els, ll_iff, ll_loop, ll_grd, ll_hdl, ll_end, ll_draw, ll_ob, ll_cb, ll_at, ll_com, ll_e0, ll_eob, ll_plan, ll_for, ll_len, ll_room, ll_of, ll_mdl, ll_strm, ll_proc, ll_pat2, ll_cyc, ll_ob0]; omega), _, _, rfl, rfl, line7 (by simp only [PySem.Str.length_append, num_fold, ll_use, ll_rank, ll_sp, ll_pat, ll_els, ll_iff, ll_loop, ll_grd, ll_hdl, ll_end, ll_draw, ll_ob, ll_cb, ll_at, ll_com, ll_e0, ll_eob, ll_plan, ll_for, ll_len, ll_room, ll_of, ll_mdl, ll_strm, ll_proc, ll_pat2, ll_cyc, ll_ob0]; omega), ?_⟩
      have e0 : TL.tl ((("draw " : Str) ++ nm) ++ " {\n") = flat (["draw", nm, "{"] : List Str) := by
        simp only [TL.tl_append, num_fold, flat_app, flat_cons, flat_nil, List.append_assoc, List.cons_append, List.nil_append, List.append_nil, lt_use, lt_rank, lt_sp, lt_pat, lt_els, lt_iff, lt_loop, lt_grd, lt_hdl, lt_end, lt_draw, lt_ob, lt_cb, lt_at, lt_com, lt_e0, lt_eob, lt_plan, lt_for, lt_len, lt_room, lt_of, lt_mdl, lt_strm, lt_proc, lt_pat2, lt_cyc, lt_ob0, sw_0, sw_1, sw_2, sw_3, sw_4, sw_5, sw_6, sw_7, sw_8, sw_9, sw_10, sw_11, sw_12, sw_13, sw_14, sw_15, sw_16, sw_17, sw_18, sw_19, sw_20, sw_21, sw_22, sw_23, sw_24, sw_25, sw_26, sw_27, sw_28, spc_n ok1]
      refine ⟨_, rfl, a, _, _, _, rfl, rfl, hT1, atI_nat (j := 2) rfl, pa, rfl, ⟨_, hTa1⟩, for_tup (K := K) (a := pa) (xs := ys) (fun i σ H' => ∃ (z : Str) (y5 y6 : Option V), σ = [some (.ref a), some (.ref O), some (.str "draw"), none, some (.str z), y5, y6, none, none] ∧ Same (upd H p (.tup [V.str "put", .str "take"])) H' ∧ TL.tl z = flat ((["draw", nm, "{"] : List Str) ++ (arms.take i).flatMap (tArm (tB n)))) ⟨_, none, none, rfl, Same.refl _, by rw [List.take_zero, List.flatMap_nil, List.append_nil]; exact e0⟩ (fun i σ H' _ ⟨_, _, _, _, s1, _⟩ => sqt_keep (KeepT.of_same s1) hTa1) ?_ ?_⟩
      · rintro i x σ H' hi ⟨z, y5, y6, rfl, s2, hz⟩
        obtain ⟨d, hd1, hd2⟩ := dpA_at hAa hi
        obtain ⟨am, ham, rfl⟩ := map_at hd1
        have hm := List.mem_of_getElem? ham
        obtain ⟨am0, am6, amI, amB⟩ := ok3 am hm
        obtain ⟨pb, zs, rfl, hTb, hAb⟩ := dp_tup hd2
        obtain ⟨z0, t0, rfl, g0, hAb⟩ := dpA_cons hAb
        obtain ⟨z1, t1, rfl, g1, hAb⟩ := dpA_cons hAb
        cases dpA_nil hAb
        obtain ⟨pd, ds, rfl, hTd, hAd⟩ := dp_tup g0
        have dl : ds.length = am.1.length := by
          have := dpA_len hAd
          rw [List.length_map] at this
          exact this
        have lz := zlen i z hz
        have hTd2 := sqt_keep (KeepT.of_same (s1.trans s2)) hTd
        have cbm : cB n am.2 ≤ 200 := by
          have h7 : 1 + (arms.map fun a => cB n a.2).sum ≤ 200 := hc
          have h8 := sum_mem _ _ (List.mem_map_of_mem (f := fun a : List Int × Bd n => cB n a.2) hm)
          omega
        refine ⟨pb, _, rfl, sqt_keep (KeepT.of_same (s1.trans s2)) hTb, rfl, _, _, rfl, _, _, rfl, rfl, ?_⟩
        refine ⟨_, rfl, _, _, rfl, rfl, line7 (by simp only [PySem.Str.length_append, num_fold, ll_use, ll_rank, ll_sp, ll_pat, ll_els, ll_iff, ll_loop, ll_grd, ll_hdl, ll_end, ll_draw, ll_ob, ll_cb, ll_at, ll_com, ll_e0, ll_eob, ll_plan, ll_for, ll_len, ll_room, ll_of, ll_mdl, ll_strm, ll_proc, ll_pat2, ll_cyc, ll_ob0]; omega), ⟨_, rfl⟩, _, rfl, pd, rfl, ⟨_, hTd2⟩, fun L2 hL2 => lc_tup (K := K) (a := pd) (xs := ds) (fun j H2 => Same H' H2 ∧ H2 L2 = some (.lst (((am.1.take j).map num).map V.str))) ⟨same_new hL2, upd_same⟩ (fun j H2 _ e => sqt_keep (KeepT.of_same e.1) hTd2) ?_ ?_⟩
        · rintro j x H2 hj ⟨s3, h3⟩
          obtain ⟨dd, e1, e2⟩ := dpA_at hAd hj
          obtain ⟨dg, e3, rfl⟩ := map_at e1
          cases dp_int e2
          have hjl := (List.getElem?_eq_some_iff.mp e3).1
          refine ⟨rfl, _, rfl, dg, rfl, num_log (amI dg (List.mem_of_getElem? e3)), _, h3, line6 (by rw [List.length_map, List.length_map, List.length_take]; omega), same_mut s3 hL2, ?_⟩
          rw [upd_same, ← take_map_succ (f := num) e3]
          exact congrArg (fun l => some (HO.lst l)) (snoc_str _ _)
        · rintro H2 ⟨s3, h3⟩
          rw [List.take_of_length_le (by omega)] at h3
          have sp : ∀ t ∈ am.1.map num, TL.tl (spc t) = TL.tl t ++ [32] ∧ t.length ≤ 10 := fun t ht => by
            obtain ⟨k, hk, rfl⟩ := List.mem_map.mp ht
            exact ⟨spc_num (amI k hk), okT_num (amI k hk)⟩
          have e := tl_joinS (ts := am.1.map num) (fun h => by rw [List.map_eq_nil_iff] at h; rw [h] at am0; exact absurd am0 (by decide)) fun t ht => (sp t ht).1
          have fl := flat_len (am.1.map num) fun t ht => (sp t ht).2
          rw [List.length_map] at fl
          have jl : (Txt.join " " (am.1.map num)).length ≤ 1000 := by
            have := congrArg List.length e
            rw [List.length_append, List.length_singleton, ← TL.len_tl] at this
            omega
          refine ⟨_, L2, _, rfl, rfl, .inl (SqL.of h3), ?_, _, _, rfl, rfl, line7 (by simp only [PySem.Str.length_append, num_fold, ll_use, ll_rank, ll_sp, ll_pat, ll_els, ll_iff, ll_loop, ll_grd, ll_hdl, ll_end, ll_draw, ll_ob, ll_cb, ll_at, ll_com, ll_e0, ll_eob, ll_plan, ll_for, ll_len, ll_room, ll_of, ll_mdl, ll_strm, ll_proc, ll_pat2, ll_cyc, ll_ob0]; omega), _, _, rfl, rfl, line7 (by simp only [PySem.Str.length_append, num_fold, ll_use, ll_rank, ll_sp, ll_pat, ll_els, ll_iff, ll_loop, ll_grd, ll_hdl, ll_end, ll_draw, ll_ob, ll_cb, ll_at, ll_com, ll_e0, ll_eob, ll_plan, ll_for, ll_len, ll_room, ll_of, ll_mdl, ll_strm, ll_proc, ll_pat2, ll_cyc, ll_ob0]; omega), ?_⟩
          · have := join_len (z := "") (S := "") (ys := am.1.map num) (k := 10) fun t ht => (sp t ht).2
            rw [List.length_map] at this
            rw [ll_sp, List.length_map]
            omega
          refine ⟨_, rfl, _, rfl, z1, O, am.2, rfl, s3 _ _ (s2 _ _ hO1), dp_keep (KeepT.of_same ((s1.trans s2).trans s3)) _ _ (dB_noL n am.2) g1, amB, cbm, fun H5 zb s5 hzb => ?_⟩
          have lzb := wb_len amB cbm hzb
          refine ⟨_, _, rfl, rfl, line7 (by simp only [PySem.Str.length_append, num_fold, ll_use, ll_rank, ll_sp, ll_pat, ll_els, ll_iff, ll_loop, ll_grd, ll_hdl, ll_end, ll_draw, ll_ob, ll_cb, ll_at, ll_com, ll_e0, ll_eob, ll_plan, ll_for, ll_len, ll_room, ll_of, ll_mdl, ll_strm, ll_proc, ll_pat2, ll_cyc, ll_ob0]; omega), _, _, _, rfl, (s2.trans s3).trans s5, ?_⟩
          have e9 : TL.tl (((((z ++ "at ") ++ Txt.join " " (am.1.map num)) ++ " ") ++ zb)) = (flat ((["draw", nm, "{"] : List Str) ++ (arms.take i).flatMap (tArm (tB n))) ++ [97, 116, 32]) ++ ((TL.tl (Txt.join " " (am.1.map num)) ++ [32]) ++ flat (tB n am.2)) := by
            simp only [TL.tl_append, hz, hzb, lt_at, lt_sp, List.append_assoc]
          refine e9.trans ?_
          rw [e, fm_succ ham]
          show _ = flat (_ ++ (_ ++ (("at" : Str) :: (am.1.map num ++ tB n am.2))))
          simp only [flat_app, flat_cons, sw_8, sw_9, List.append_assoc, List.cons_append, List.nil_append]
      · rintro σ H' ⟨z, y5, y6, rfl, s2, hz⟩
        have lz := zlen _ z hz
        rw [List.take_of_length_le (by omega)] at hz
        refine ⟨_, rfl, _, _, rfl, rfl, line7 (by simp only [PySem.Str.length_append, num_fold, ll_use, ll_rank, ll_sp, ll_pat, ll_els, ll_iff, ll_loop, ll_grd, ll_hdl, ll_end, ll_draw, ll_ob, ll_cb, ll_at, ll_com, ll_e0, ll_eob, ll_plan, ll_for, ll_len, ll_room, ll_of, ll_mdl, ll_strm, ll_proc, ll_pat2, ll_cyc, ll_ob0]; omega), q _ _ (s1.trans s2) ?_⟩
        rw [TL.tl_append, hz, lt_cb]
        show _ = flat ((["draw", nm, "{"] : List Str) ++ arms.flatMap (tArm (tB n)) ++ (["}"] : List Str))
        rw [flat_app _ (["}"] : List Str)]
        rfl
    | iff g nm m b o =>
      obtain ⟨a, xs, rfl, hT, hA⟩ := dp_tup (id hd)
      obtain ⟨x0, r0, rfl, h0, hA0⟩ := dpA_cons hA
      cases dp_str h0
      obtain ⟨x1, r1, rfl, h1, hA1⟩ := dpA_cons hA0
      obtain ⟨x2, r2, rfl, h2, hA2⟩ := dpA_cons hA1
      obtain ⟨x3, r3, rfl, h3, hA3⟩ := dpA_cons hA2
      obtain ⟨x4, r4, rfl, h4, hA4⟩ := dpA_cons hA3
      obtain ⟨x5, r5, rfl, h5, hA5⟩ := dpA_cons hA4
      cases dpA_nil hA5
      cases dp_str h1
      cases dp_str h2
      cases dp_int h3
      obtain ⟨ok1, ok2, ok3, ok4, ok5⟩ := ok
      have hcb : 1 + cB n b + cB n o ≤ 200 := hc
      have l1 := (num_ok ok3).1
      have l2 := ok1.1
      have l3 := ok2.1
      obtain ⟨ao, os, rfl, hTo, hemp⟩ := dp_emp h5
      refine ⟨_, rfl, a, _, _, _, rfl, rfl, hT, atI_nat (j := 0) rfl, ?_⟩
      refine ⟨_, rfl, by show 2 ≤ sizeLine; decide, fun p hp => ⟨p, _, rfl, .inr (SqT.of upd_same), rfl, by decide +kernel, _, rfl, ?_⟩⟩
      have s1 := same_new (o := .tup [V.str "put", .str "take"]) hp
      have hT1 := sqt_keep (KeepT.of_same s1) hT
      have hO1 : Odd _ O := s1 _ _ hO
      refine ite2 (fun e => absurd e (by decide +kernel)) (fun _ => ?_)
      refine ⟨_, rfl, rfl, _, rfl, ?_⟩
      refine ite2 (fun e => absurd e (by decide +kernel)) (fun _ => ?_)
      refine ⟨_, rfl, rfl, _, rfl, ?_⟩
      refine ite2 (fun e => absurd e (by decide +kernel)) (fun _ => ?_)
      refine ⟨_, rfl, rfl, _, rfl, ?_⟩
      refine ite2 (fun _ => ?_) (fun e => absurd (decide_eq_true rfl) e)
      refine ⟨_, rfl, a, _, _, _, rfl, rfl, hT1, atI_nat (j := 1) rfl, _, _, rfl, rfl, line7 (by simp only [PySem.Str.length_append, num_fold, ll_use, ll_rank, ll_sp, ll_pat, ll_els, ll_iff, ll_loop, ll_grd, ll_hdl, ll_end, ll_draw, ll_ob, ll_cb, ll_at, ll_com, ll_e0, ll_eob, ll_plan, ll_for, ll_len, ll_room, ll_of, ll_mdl, ll_strm, ll_proc, ll_pat2, ll_cyc, ll_ob0]; omega), _, _, rfl, rfl, line7 (by simp only [PySem.Str.length_append, num_fold, ll_use, ll_rank, ll_sp, ll_pat, ll_els, ll_iff, ll_loop, ll_grd, ll_hdl, ll_end, ll_draw, ll_ob, ll_cb, ll_at, ll_com, ll_e0, ll_eob, ll_plan, ll_for, ll_len, ll_room, ll_of, ll_mdl, ll_strm, ll_proc, ll_pat2, ll_cyc, ll_ob0]; omega), _, rfl, a, _, _, _, rfl, rfl, hT1, atI_nat (j := 2) rfl, _, _, rfl, rfl, line7 (by simp only [PySem.Str.length_append, num_fold, ll_use, ll_rank, ll_sp, ll_pat, ll_els, ll_iff, ll_loop, ll_grd, ll_hdl, ll_end, ll_draw, ll_ob, ll_cb, ll_at, ll_com, ll_e0, ll_eob, ll_plan, ll_for, ll_len, ll_room, ll_of, ll_mdl, ll_strm, ll_proc, ll_pat2, ll_cyc, ll_ob0]; omega), _, _, rfl, rfl, line7 (by simp only [PySem.Str.length_append, num_fold, ll_use, ll_rank, ll_sp, ll_pat, ll_els, ll_iff, ll_loop, ll_grd, ll_hdl, ll_end, ll_draw, ll_ob, ll_cb, ll_at, ll_com, ll_e0, ll_eob, ll_plan, ll_for, ll_len, ll_room, ll_of, ll_mdl, ll_strm, ll_proc, ll_pat2, ll_cyc, ll_ob0]; omega), _, rfl, a, _, _, _, rfl, rfl, hT1, atI_nat (j := 3) rfl, m, rfl, num_log ok3, _, _, rfl, rfl, line7 (by simp only [PySem.Str.length_append, num_fold, ll_use, ll_rank, ll_sp, ll_pat, ll_els, ll_iff, ll_loop, ll_grd, ll_hdl, ll_end, ll_draw, ll_ob, ll_cb, ll_at, ll_com, ll_e0, ll_eob, ll_plan, ll_for, ll_len, ll_room, ll_of, ll_mdl, ll_strm, ll_proc, ll_pat2, ll_cyc, ll_ob0]; omega), _, _, rfl, rfl, line7 (by simp only [PySem.Str.length_append, num_fold, ll_use, ll_rank, ll_sp, ll_pat, ll_els, ll_iff, ll_loop, ll_grd, ll_hdl, ll_end, ll_draw, ll_ob, ll_cb, ll_at, ll_com, ll_e0, ll_eob, ll_plan, ll_for, ll_len, ll_room, ll_of, ll_mdl, ll_strm, ll_proc, ll_pat2, ll_cyc, ll_ob0]; omega), ?_⟩
      refine ⟨_, rfl, _, rfl, a, _, _, _, rfl, rfl, hT1, atI_nat (j := 4) rfl, _, rfl, x4, O, b, rfl, hO1, dp_keep (KeepT.of_same s1) _ _ (dB_noL n b) h4, ok4, by omega, fun H2 z s2 hz => ?_⟩
      have lz := wb_len ok4 (by omega) hz
      have hT2 := sqt_keep (KeepT.of_same s2) hT1
      have hO2 : Odd H2 O := s2 _ _ hO1
      refine ⟨_, _, rfl, rfl, line7 (by simp only [PySem.Str.length_append, num_fold, ll_use, ll_rank, ll_sp, ll_pat, ll_els, ll_iff, ll_loop, ll_grd, ll_hdl, ll_end, ll_draw, ll_ob, ll_cb, ll_at, ll_com, ll_e0, ll_eob, ll_plan, ll_for, ll_len, ll_room, ll_of, ll_mdl, ll_strm, ll_proc, ll_pat2, ll_cyc, ll_ob0]; omega), _, rfl, a, _, _, _, rfl, rfl, hT2, atI_nat (j := 5) rfl, ?_⟩
      refine ⟨_, os.length, rfl, .inr ⟨os, sqt_keep (KeepT.of_same (s1.trans s2)) hTo, rfl⟩, _, _, rfl, rfl, _, rfl, ?_⟩
      refine ite2 (fun e => ?_) (fun e => ?_)
      · have he : empB n o = false := by
          have e1 : (0 : Int) < (os.length : Int) := of_decide_eq_true e
          rw [← hemp]
          cases os with
          | nil => exact absurd e1 (by decide)
          | cons _ _ => rfl
        refine ⟨_, rfl, _, _, rfl, rfl, line7 (by simp only [PySem.Str.length_append, num_fold, ll_use, ll_rank, ll_sp, ll_pat, ll_els, ll_iff, ll_loop, ll_grd, ll_hdl, ll_end, ll_draw, ll_ob, ll_cb, ll_at, ll_com, ll_e0, ll_eob, ll_plan, ll_for, ll_len, ll_room, ll_of, ll_mdl, ll_strm, ll_proc, ll_pat2, ll_cyc, ll_ob0]; omega), _, rfl, a, _, _, _, rfl, rfl, hT2, atI_nat (j := 5) rfl, _, rfl, _, O, o, rfl, hO2, dp_keep (KeepT.of_same (s1.trans s2)) _ _ (dB_noL n o) h5, ok5, by omega, fun H3 z2 s3 hz2 => ?_⟩
        have lz2 := wb_len ok5 (by omega) hz2
        refine ⟨_, _, rfl, rfl, line7 (by simp only [PySem.Str.length_append, num_fold, ll_use, ll_rank, ll_sp, ll_pat, ll_els, ll_iff, ll_loop, ll_grd, ll_hdl, ll_end, ll_draw, ll_ob, ll_cb, ll_at, ll_com, ll_e0, ll_eob, ll_plan, ll_for, ll_len, ll_room, ll_of, ll_mdl, ll_strm, ll_proc, ll_pat2, ll_cyc, ll_ob0]; omega), q _ _ ((s1.trans s2).trans s3) ?_⟩
        show _ = flat (if empB n o = true then ((["if", g, nm, num m] : List Str) ++ tB n b) else (((["if", g, nm, num m] : List Str) ++ tB n b) ++ (("else" : Str) :: tB n o)))
        rw [if_neg (by rw [he]; exact Bool.false_ne_true)]
        simp only [TL.tl_append, num_fold, flat_app, flat_cons, flat_nil, List.append_assoc, List.cons_append, List.nil_append, List.append_nil, lt_use, lt_rank, lt_sp, lt_pat, lt_els, lt_iff, lt_loop, lt_grd, lt_hdl, lt_end, lt_draw, lt_ob, lt_cb, lt_at, lt_com, lt_e0, lt_eob, lt_plan, lt_for, lt_len, lt_room, lt_of, lt_mdl, lt_strm, lt_proc, lt_pat2, lt_cyc, lt_ob0, sw_0, sw_1, sw_2, sw_3, sw_4, sw_5, sw_6, sw_7, sw_8, sw_9, sw_10, sw_11, sw_12, sw_13, sw_14, sw_15, sw_16, sw_17, sw_18, sw_19, sw_20, sw_21, sw_22, sw_23, sw_24, sw_25, sw_26, sw_27, sw_28, spc_num ok3, spc_n ok1, spc_n ok2, hz, hz2]
      · have he : empB n o = true := by
          have e1 : ¬ (0 : Int) < (os.length : Int) := fun h => e (decide_eq_true h)
          rw [← hemp]
          cases os with
          | nil => rfl
          | cons _ _ => exact absurd (by rw [List.length_cons]; omega) e1
        refine ⟨_, rfl, O, _, _, _, rfl, rfl, SqL.of hO2, atI_nat (j := 0) rfl, .inl ⟨_, rfl, _, _, rfl, rfl, by decide, ?_⟩⟩
        refine ⟨_, rfl, O, _, _, _, rfl, rfl, SqL.of hO2, atI_nat (j := 0) rfl, _, _, rfl, rfl, divW_of (by decide) (by decide), _, rfl, O, _, _, 0, rfl, rfl, hO2, rfl, ?_⟩
        have s3 : Same H2 (upd H2 O (.lst [.int 0])) := same_id hO2
        refine ⟨_, rfl, by show 2 ≤ sizeLine; decide, fun L hL => ?_⟩
        refine ⟨_, rfl, L, _, _, _, rfl, rfl, SqL.of upd_same, atI_nat (j := 0) rfl, _, _, rfl, rfl, line7 (by simp only [PySem.Str.length_append, num_fold, ll_use, ll_rank, ll_sp, ll_pat, ll_els, ll_iff, ll_loop, ll_grd, ll_hdl, ll_end, ll_draw, ll_ob, ll_cb, ll_at, ll_com, ll_e0, ll_eob, ll_plan, ll_for, ll_len, ll_room, ll_of, ll_mdl, ll_strm, ll_proc, ll_pat2, ll_cyc, ll_ob0]; omega), q _ _ (((s1.trans s2).trans s3).trans (same_new hL)) ?_⟩
        show _ = flat (if empB n o = true then ((["if", g, nm, num m] : List Str) ++ tB n b) else (((["if", g, nm, num m] : List Str) ++ tB n b) ++ (("else" : Str) :: tB n o)))
        rw [if_pos he]
        simp only [TL.tl_append, num_fold, flat_app, flat_cons, flat_nil, List.append_assoc, List.cons_append, List.nil_append, List.append_nil, lt_use, lt_rank, lt_sp, lt_pat, lt_els, lt_iff, lt_loop, lt_grd, lt_hdl, lt_end, lt_draw, lt_ob, lt_cb, lt_at, lt_com, lt_e0, lt_eob, lt_plan, lt_for, lt_len, lt_room, lt_of, lt_mdl, lt_strm, lt_proc, lt_pat2, lt_cyc, lt_ob0, sw_0, sw_1, sw_2, sw_3, sw_4, sw_5, sw_6, sw_7, sw_8, sw_9, sw_10, sw_11, sw_12, sw_13, sw_14, sw_15, sw_16, sw_17, sw_18, sw_19, sw_20, sw_21, sw_22, sw_23, sw_24, sw_25, sw_26, sw_27, sw_28, spc_num ok3, spc_n ok1, spc_n ok2, hz]
end
end Mt
namespace Mt
open PySem PySem.Spec PyProof.Rows L2
theorem ll_belt : ("belt" : Str).length = 4 := by decide +kernel
theorem ll_res : ("resource" : Str).length = 8 := by decide +kernel
theorem lt_belt : TL.tl ("belt" : Str) = [98, 101, 108, 116] := by decide +kernel
theorem lt_res : TL.tl ("resource" : Str) = [114, 101, 115, 111, 117, 114, 99, 101] := by decide +kernel
theorem wm_len {n : Nat} {m : Mdl n} (ok : okM m) {ts : List Str} (h : ∀ t ∈ ts, okT t) (l : ts.length ≤ 20000) {z : Str} (e : TL.tl z = flat ts) : z.length ≤ 300000 := by
  rw [TL.len_tl, e]
  have h1 := flat_len _ h
  omega
section
variable {P : Program} {w : World} {K : PySem.W.Frag} {mg : Str → Option Value} {base : Heap}
theorem ok_witem (T : Txt K mg) {f : Addr} {fd : FuncData} (F : FnP K "_law_w_item" s__law_w_item f fd) : FnOk P w K mg base CX0 1 f fd ["item"] (spWI K) := by
  refine F.ok sc__law_w_item (fun vs H Q E h => ?_) (fun cdv A outer s H vs Q E hr h => ?_)
  · obtain ⟨v, b, rfl, _⟩ := h
    rfl
  · obtain ⟨v, it, rfl, hd, ok, q⟩ := h
    refine ⟨_, PSs.nox (pss_cons (ps_set (i := 1) sc__law_w_item.nd rfl (Or.inl rfl) (pe_op op_add_str (pe_op op_add_str (pe_op op_add_str (pe_ix ix_tup (pv 0) pe_int (fun _ _ => rfl)) pe_str) (pe_ix ix_tup (pv 0) pe_int (fun _ _ => rfl))) pe_str))
      (pss_cons (ps_if (pt_cmpR op_eq (pe_ix ix_tup (pv 0) pe_int (fun _ _ => rfl)) pe_str (nomark _)) (pss_one (ps_ret (pe_op op_add_str (pe_op op_add_str (pe_op op_add_str (pv 1) pe_str) (pe_join pe_str (pe_lc (own := [("span", 2)]) (g := (gName 2)) (tt := tYes) rfl sc__law_w_item.nd (pi_tup (pe_ix ix_tup (pv 0) pe_int (fun _ _ => rfl))) (blkOk_by (N := N__law_w_item) (sc := defScope s__law_w_item) (by decide +kernel)) (fun _ _ _ _ _ => (pg_name (i := 2) sc__law_w_item.nd rfl (Or.inl rfl))) (fun _ _ _ _ _ => pts_nil) (fun _ _ _ _ _ => (pe_op op_add_str (pe_op op_add_str (pe_callTy call_str_int (by rfl) T.b_str (by decide +kernel) (pa_cons (pe_ix (ixT (K := K) rfl) (pv 2) pe_int (fun _ _ => rfl)) pa_nil)) pe_str) (pe_callTy call_str_int (by rfl) T.b_str (by decide +kernel) (pa_cons (pe_ix (ixT (K := K) rfl) (pv 2) pe_int (fun _ _ => rfl)) pa_nil))))))) pe_str))) pss_nil)
      (pss_cons (ps_if (PW.pt (pw_and (pt_cmpR op_eq (pe_ix ix_tup (pv 0) pe_int (fun _ _ => rfl)) pe_str (nomark _)) (pw_and1 (pt_cmpR op_isN (pe_ix ix_tup (pv 0) pe_int (fun _ _ => rfl)) pe_non (nomark _))))) (pss_one (ps_ret (pe_op op_add_str (pe_op op_add_str (pe_op op_add_str (pv 1) pe_str) (pe_callTy call_str_int (by rfl) T.b_str (by decide +kernel) (pa_cons (pe_ix ix_tup (pv 0) pe_int (fun _ _ => rfl)) pa_nil))) pe_str))) pss_nil)
      (pss_cons (ps_if (pt_cmpR op_eq (pe_ix ix_tup (pv 0) pe_int (fun _ _ => rfl)) pe_str (nomark _)) (pss_one (ps_ret (pe_op op_add_str (pe_op op_add_str (pe_op op_add_str (pe_op op_add_str (pe_op op_add_str (pv 1) pe_str) (pe_callTy call_str_int (by rfl) T.b_str (by decide +kernel) (pa_cons (pe_ix ix_tup (pv 0) pe_int (fun _ _ => rfl)) pa_nil))) pe_str) (pe_callTy call_str_int (by rfl) T.b_str (by decide +kernel) (pa_cons (pe_ix ix_tup (pv 0) pe_int (fun _ _ => rfl)) pa_nil))) pe_str))) pss_nil)
      (pss_one (ps_ret (pe_op op_add_str (pe_op op_add_str (pe_op op_add_str (pe_op op_add_str (pv 1) (pe_callTy call_str_int (by rfl) T.b_str (by decide +kernel) (pa_cons (pe_ix ix_tup (pv 0) pe_int (fun _ _ => rfl)) pa_nil))) pe_str) (pe_callTy call_str_int (by rfl) T.b_str (by decide +kernel) (pa_cons (pe_ix ix_tup (pv 0) pe_int (fun _ _ => rfl)) pa_nil))) pe_str))))))), ?_⟩
    cases it with
    | two wd nm m1 m2 =>
      obtain ⟨a, xs, rfl, hT, hA⟩ := dp_tup (id hd)
      obtain ⟨x0, r0, rfl, h0, hA0⟩ := dpA_cons hA
      cases dp_str h0
      obtain ⟨x1, r1, rfl, h1, hA1⟩ := dpA_cons hA0
      obtain ⟨x2, r2, rfl, h2, hA2⟩ := dpA_cons hA1
      obtain ⟨x3, r3, rfl, h3, hA3⟩ := dpA_cons hA2
      cases dpA_nil hA3
      cases dp_str h1
      cases dp_int h2
      cases dp_int h3
      obtain ⟨ok0, ok1, ok2, ok3⟩ := ok
      have l0 := ok1.1
      have l1 := (num_ok ok2).1
      have l2 := (num_ok ok3).1
      have w1 : (decide (V.str wd = V.str "resource") = false ∧ decide (V.str wd = V.str "belt") = false) ∧ TL.tl (spc wd) = TL.tl wd ++ [32] ∧ wd.length ≤ 10 := by
        rcases ok0 with h | h <;> subst h <;> exact ⟨⟨by decide +kernel, by decide +kernel⟩, by decide +kernel⟩
      have l3 := w1.2.2
      refine ⟨_, rfl, a, _, _, _, rfl, rfl, hT, atI_nat (j := 0) rfl, _, _, rfl, rfl, line7 (by simp only [PySem.Str.length_append, num_fold, ll_belt, ll_res, ll_use, ll_rank, ll_sp, ll_pat, ll_els, ll_iff, ll_loop, ll_grd, ll_hdl, ll_end, ll_draw, ll_ob, ll_cb, ll_at, ll_com, ll_e0, ll_eob, ll_plan, ll_for, ll_len, ll_room, ll_of, ll_mdl, ll_strm, ll_proc, ll_pat2, ll_cyc, ll_ob0]; omega), _, rfl, a, _, _, _, rfl, rfl, hT, atI_nat (j := 1) rfl, _, _, rfl, rfl, line7 (by simp only [PySem.Str.length_append, num_fold, ll_belt, ll_res, ll_use, ll_rank, ll_sp, ll_pat, ll_els, ll_iff, ll_loop, ll_grd, ll_hdl, ll_end, ll_draw, ll_ob, ll_cb, ll_at, ll_com, ll_e0, ll_eob, ll_plan, ll_for, ll_len, ll_room, ll_of, ll_mdl, ll_strm, ll_proc, ll_pat2, ll_cyc, ll_ob0]; omega), _, _, rfl, rfl, line7 (by simp only [PySem.Str.length_append, num_fold, ll_belt, ll_res, ll_use, ll_rank, ll_sp, ll_pat, ll_els, ll_iff, ll_loop, ll_grd, ll_hdl, ll_end, ll_draw, ll_ob, ll_cb, ll_at, ll_com, ll_e0, ll_eob, ll_plan, ll_for, ll_len, ll_room, ll_of, ll_mdl, ll_strm, ll_proc, ll_pat2, ll_cyc, ll_ob0]; omega), ?_⟩
      refine ⟨_, rfl, a, _, _, _, rfl, rfl, hT, atI_nat (j := 0) rfl, rfl, _, rfl, ?_⟩
      refine ite2 (fun e => absurd e (by rw [w1.1.1]; exact Bool.false_ne_true)) (fun _ => ?_)
      refine ⟨_, rfl, a, _, _, _, rfl, rfl, hT, atI_nat (j := 0) rfl, rfl, _, rfl, ?_⟩
      refine ite2 (fun e => absurd e (by rw [w1.1.2]; exact Bool.false_ne_true)) (fun _ => ?_)
      refine ite2 (fun e => absurd e Bool.false_ne_true) (fun _ => ?_)
      refine ⟨_, rfl, a, _, _, _, rfl, rfl, hT, atI_nat (j := 0) rfl, rfl, _, rfl, ?_⟩
      refine ite2 (fun e => absurd e (by rw [w1.1.2]; exact Bool.false_ne_true)) (fun _ => ?_)
      refine ⟨_, rfl, _, rfl, a, _, _, _, rfl, rfl, hT, atI_nat (j := 2) rfl, m1, rfl, num_log ok2, _, _, rfl, rfl, line7 (by simp only [PySem.Str.length_append, num_fold, ll_belt, ll_res, ll_use, ll_rank, ll_sp, ll_pat, ll_els, ll_iff, ll_loop, ll_grd, ll_hdl, ll_end, ll_draw, ll_ob, ll_cb, ll_at, ll_com, ll_e0, ll_eob, ll_plan, ll_for, ll_len, ll_room, ll_of, ll_mdl, ll_strm, ll_proc, ll_pat2, ll_cyc, ll_ob0]; omega), _, _, rfl, rfl, line7 (by simp only [PySem.Str.length_append, num_fold, ll_belt, ll_res, ll_use, ll_rank, ll_sp, ll_pat, ll_els, ll_iff, ll_loop, ll_grd, ll_hdl, ll_end, ll_draw, ll_ob, ll_cb, ll_at, ll_com, ll_e0, ll_eob, ll_plan, ll_for, ll_len, ll_room, ll_of, ll_mdl, ll_strm, ll_proc, ll_pat2, ll_cyc, ll_ob0]; omega), _, rfl, a, _, _, _, rfl, rfl, hT, atI_nat (j := 3) rfl, m2, rfl, num_log ok3, _, _, rfl, rfl, line7 (by simp only [PySem.Str.length_append, num_fold, ll_belt, ll_res, ll_use, ll_rank, ll_sp, ll_pat, ll_els, ll_iff, ll_loop, ll_grd, ll_hdl, ll_end, ll_draw, ll_ob, ll_cb, ll_at, ll_com, ll_e0, ll_eob, ll_plan, ll_for, ll_len, ll_room, ll_of, ll_mdl, ll_strm, ll_proc, ll_pat2, ll_cyc, ll_ob0]; omega), _, _, rfl, rfl, line7 (by simp only [PySem.Str.length_append, num_fold, ll_belt, ll_res, ll_use, ll_rank, ll_sp, ll_pat, ll_els, ll_iff, ll_loop, ll_grd, ll_hdl, ll_end, ll_draw, ll_ob, ll_cb, ll_at, ll_com, ll_e0, ll_eob, ll_plan, ll_for, ll_len, ll_room, ll_of, ll_mdl, ll_strm, ll_proc, ll_pat2, ll_cyc, ll_ob0]; omega), q _ _ (Same.refl _) ?_⟩
      show _ = flat ([wd, nm, num m1, "of", num m2, ";"] : List Str)
      simp only [TL.tl_append, num_fold, flat_app, flat_cons, flat_nil, List.append_assoc, List.cons_append, List.nil_append, List.append_nil, lt_belt, lt_res, lt_use, lt_rank, lt_sp, lt_pat, lt_els, lt_iff, lt_loop, lt_grd, lt_hdl, lt_end, lt_draw, lt_ob, lt_cb, lt_at, lt_com, lt_e0, lt_eob, lt_plan, lt_for, lt_len, lt_room, lt_of, lt_mdl, lt_strm, lt_proc, lt_pat2, lt_cyc, lt_ob0, sw_0, sw_1, sw_2, sw_3, sw_4, sw_5, sw_6, sw_7, sw_8, sw_9, sw_10, sw_11, sw_12, sw_13, sw_14, sw_15, sw_16, sw_17, sw_18, sw_19, sw_20, sw_21, sw_22, sw_23, sw_24, sw_25, sw_26, sw_27, sw_28, spc_num ok2, spc_num ok3, spc_n ok1, w1.2.1]
    | belt nm l room =>
      obtain ⟨a, xs, rfl, hT, hA⟩ := dp_tup (id hd)
      obtain ⟨x0, r0, rfl, h0, hA0⟩ := dpA_cons hA
      cases dp_str h0
      obtain ⟨x1, r1, rfl, h1, hA1⟩ := dpA_cons hA0
      obtain ⟨x2, r2, rfl, h2, hA2⟩ := dpA_cons hA1
      obtain ⟨x3, r3, rfl, h3, hA3⟩ := dpA_cons hA2
      cases dpA_nil hA3
      cases dp_str h1
      cases dp_int h2
      obtain ⟨ok1, ok2, ok3⟩ := ok
      have l0 := ok1.1
      have l1 := (num_ok ok2).1
      refine ⟨_, rfl, a, _, _, _, rfl, rfl, hT, atI_nat (j := 0) rfl, _, _, rfl, rfl, line7 (by simp only [PySem.Str.length_append, num_fold, ll_belt, ll_res, ll_use, ll_rank, ll_sp, ll_pat, ll_els, ll_iff, ll_loop, ll_grd, ll_hdl, ll_end, ll_draw, ll_ob, ll_cb, ll_at, ll_com, ll_e0, ll_eob, ll_plan, ll_for, ll_len, ll_room, ll_of, ll_mdl, ll_strm, ll_proc, ll_pat2, ll_cyc, ll_ob0]; omega), _, rfl, a, _, _, _, rfl, rfl, hT, atI_nat (j := 1) rfl, _, _, rfl, rfl, line7 (by simp only [PySem.Str.length_append, num_fold, ll_belt, ll_res, ll_use, ll_rank, ll_sp, ll_pat, ll_els, ll_iff, ll_loop, ll_grd, ll_hdl, ll_end, ll_draw, ll_ob, ll_cb, ll_at, ll_com, ll_e0, ll_eob, ll_plan, ll_for, ll_len, ll_room, ll_of, ll_mdl, ll_strm, ll_proc, ll_pat2, ll_cyc, ll_ob0]; omega), _, _, rfl, rfl, line7 (by simp only [PySem.Str.length_append, num_fold, ll_belt, ll_res, ll_use, ll_rank, ll_sp, ll_pat, ll_els, ll_iff, ll_loop, ll_grd, ll_hdl, ll_end, ll_draw, ll_ob, ll_cb, ll_at, ll_com, ll_e0, ll_eob, ll_plan, ll_for, ll_len, ll_room, ll_of, ll_mdl, ll_strm, ll_proc, ll_pat2, ll_cyc, ll_ob0]; omega), ?_⟩
      refine ⟨_, rfl, a, _, _, _, rfl, rfl, hT, atI_nat (j := 0) rfl, rfl, _, rfl, ?_⟩
      refine ite2 (fun e => absurd e (by decide +kernel)) (fun _ => ?_)
      refine ⟨_, rfl, a, _, _, _, rfl, rfl, hT, atI_nat (j := 0) rfl, rfl, _, rfl, ?_⟩
      refine ite2 (fun _ => ?_) (fun e => absurd (decide_eq_true rfl) e)
      cases room with
      | none =>
        cases dp_non h3
        refine ⟨_, rfl, a, _, _, _, rfl, rfl, hT, atI_nat (j := 3) rfl, rfl, _, rfl, ?_⟩
        refine ite2 (fun _ => ?_) (fun e => absurd (decide_eq_true rfl) e)
        refine ⟨_, rfl, _, _, rfl, rfl, line7 (by simp only [PySem.Str.length_append, num_fold, ll_belt, ll_res, ll_use, ll_rank, ll_sp, ll_pat, ll_els, ll_iff, ll_loop, ll_grd, ll_hdl, ll_end, ll_draw, ll_ob, ll_cb, ll_at, ll_com, ll_e0, ll_eob, ll_plan, ll_for, ll_len, ll_room, ll_of, ll_mdl, ll_strm, ll_proc, ll_pat2, ll_cyc, ll_ob0]; omega), _, rfl, a, _, _, _, rfl, rfl, hT, atI_nat (j := 2) rfl, l, rfl, num_log ok2, _, _, rfl, rfl, line7 (by simp only [PySem.Str.length_append, num_fold, ll_belt, ll_res, ll_use, ll_rank, ll_sp, ll_pat, ll_els, ll_iff, ll_loop, ll_grd, ll_hdl, ll_end, ll_draw, ll_ob, ll_cb, ll_at, ll_com, ll_e0, ll_eob, ll_plan, ll_for, ll_len, ll_room, ll_of, ll_mdl, ll_strm, ll_proc, ll_pat2, ll_cyc, ll_ob0]; omega), _, _, rfl, rfl, line7 (by simp only [PySem.Str.length_append, num_fold, ll_belt, ll_res, ll_use, ll_rank, ll_sp, ll_pat, ll_els, ll_iff, ll_loop, ll_grd, ll_hdl, ll_end, ll_draw, ll_ob, ll_cb, ll_at, ll_com, ll_e0, ll_eob, ll_plan, ll_for, ll_len, ll_room, ll_of, ll_mdl, ll_strm, ll_proc, ll_pat2, ll_cyc, ll_ob0]; omega), q _ _ (Same.refl _) ?_⟩
        show _ = flat (["belt", nm, "length", num l, ";"] : List Str)
        simp only [TL.tl_append, num_fold, flat_app, flat_cons, flat_nil, List.append_assoc, List.cons_append, List.nil_append, List.append_nil, lt_belt, lt_res, lt_use, lt_rank, lt_sp, lt_pat, lt_els, lt_iff, lt_loop, lt_grd, lt_hdl, lt_end, lt_draw, lt_ob, lt_cb, lt_at, lt_com, lt_e0, lt_eob, lt_plan, lt_for, lt_len, lt_room, lt_of, lt_mdl, lt_strm, lt_proc, lt_pat2, lt_cyc, lt_ob0, sw_0, sw_1, sw_2, sw_3, sw_4, sw_5, sw_6, sw_7, sw_8, sw_9, sw_10, sw_11, sw_12, sw_13, sw_14, sw_15, sw_16, sw_17, sw_18, sw_19, sw_20, sw_21, sw_22, sw_23, sw_24, sw_25, sw_26, sw_27, sw_28, spc_num ok2, spc_n ok1]
      | some rr =>
        cases dp_int h3
        have okr := ok3 rr rfl
        have l2 := (num_ok okr).1
        refine ⟨_, rfl, a, _, _, _, rfl, rfl, hT, atI_nat (j := 3) rfl, rfl, _, rfl, ?_⟩
        refine ite2 (fun e => absurd e (by rw [decide_eq_false (fun z => by cases z)]; exact Bool.false_ne_true)) (fun _ => ?_)
        refine ⟨_, rfl, a, _, _, _, rfl, rfl, hT, atI_nat (j := 0) rfl, rfl, _, rfl, ?_⟩
        refine ite2 (fun _ => ?_) (fun e => absurd (decide_eq_true rfl) e)
        refine ⟨_, rfl, _, _, rfl, rfl, line7 (by simp only [PySem.Str.length_append, num_fold, ll_belt, ll_res, ll_use, ll_rank, ll_sp, ll_pat, ll_els, ll_iff, ll_loop, ll_grd, ll_hdl, ll_end, ll_draw, ll_ob, ll_cb, ll_at, ll_com, ll_e0, ll_eob, ll_plan, ll_for, ll_len, ll_room, ll_of, ll_mdl, ll_strm, ll_proc, ll_pat2, ll_cyc, ll_ob0]; omega), _, rfl, a, _, _, _, rfl, rfl, hT, atI_nat (j := 2) rfl, l, rfl, num_log ok2, _, _, rfl, rfl, line7 (by simp only [PySem.Str.length_append, num_fold, ll_belt, ll_res, ll_use, ll_rank, ll_sp, ll_pat, ll_els, ll_iff, ll_loop, ll_grd, ll_hdl, ll_end, ll_draw, ll_ob, ll_cb, ll_at, ll_com, ll_e0, ll_eob, ll_plan, ll_for, ll_len, ll_room, ll_of, ll_mdl, ll_strm, ll_proc, ll_pat2, ll_cyc, ll_ob0]; omega), _, _, rfl, rfl, line7 (by simp only [PySem.Str.length_append, num_fold, ll_belt, ll_res, ll_use, ll_rank, ll_sp, ll_pat, ll_els, ll_iff, ll_loop, ll_grd, ll_hdl, ll_end, ll_draw, ll_ob, ll_cb, ll_at, ll_com, ll_e0, ll_eob, ll_plan, ll_for, ll_len, ll_room, ll_of, ll_mdl, ll_strm, ll_proc, ll_pat2, ll_cyc, ll_ob0]; omega), _, rfl, a, _, _, _, rfl, rfl, hT, atI_nat (j := 3) rfl, rr, rfl, num_log okr, _, _, rfl, rfl, line7 (by simp only [PySem.Str.length_append, num_fold, ll_belt, ll_res, ll_use, ll_rank, ll_sp, ll_pat, ll_els, ll_iff, ll_loop, ll_grd, ll_hdl, ll_end, ll_draw, ll_ob, ll_cb, ll_at, ll_com, ll_e0, ll_eob, ll_plan, ll_for, ll_len, ll_room, ll_of, ll_mdl, ll_strm, ll_proc, ll_pat2, ll_cyc, ll_ob0]; omega), _, _, rfl, rfl, line7 (by simp only [PySem.Str.length_append, num_fold, ll_belt, ll_res, ll_use, ll_rank, ll_sp, ll_pat, ll_els, ll_iff, ll_loop, ll_grd, ll_hdl, ll_end, ll_draw, ll_ob, ll_cb, ll_at, ll_com, ll_e0, ll_eob, ll_plan, ll_for, ll_len, ll_room, ll_of, ll_mdl, ll_strm, ll_proc, ll_pat2, ll_cyc, ll_ob0]; omega), q _ _ (Same.refl _) ?_⟩
        show _ = flat (["belt", nm, "length", num l, "room", num rr, ";"] : List Str)
        simp only [TL.tl_append, num_fold, flat_app, flat_cons, flat_nil, List.append_assoc, List.cons_append, List.nil_append, List.append_nil, lt_belt, lt_res, lt_use, lt_rank, lt_sp, lt_pat, lt_els, lt_iff, lt_loop, lt_grd, lt_hdl, lt_end, lt_draw, lt_ob, lt_cb, lt_at, lt_com, lt_e0, lt_eob, lt_plan, lt_for, lt_len, lt_room, lt_of, lt_mdl, lt_strm, lt_proc, lt_pat2, lt_cyc, lt_ob0, sw_0, sw_1, sw_2, sw_3, sw_4, sw_5, sw_6, sw_7, sw_8, sw_9, sw_10, sw_11, sw_12, sw_13, sw_14, sw_15, sw_16, sw_17, sw_18, sw_19, sw_20, sw_21, sw_22, sw_23, sw_24, sw_25, sw_26, sw_27, sw_28, spc_num ok2, spc_num okr, spc_n ok1]
    | res nm spans =>
      obtain ⟨a, xs, rfl, hT, hA⟩ := dp_tup (id hd)
      obtain ⟨x0, r0, rfl, h0, hA0⟩ := dpA_cons hA
      cases dp_str h0
      obtain ⟨x1, r1, rfl, h1, hA1⟩ := dpA_cons hA0
      obtain ⟨x2, r2, rfl, h2, hA2⟩ := dpA_cons hA1
      cases dpA_nil hA2
      cases dp_str h1
      obtain ⟨ok1, ok0, ok2, ok3⟩ := ok
      have l0 := ok1.1
      obtain ⟨pa, ys, rfl, hTa, hAa⟩ := dp_tup h2
      have yl : ys.length = spans.length := by
        have := dpA_len hAa
        rw [List.length_map] at this
        exact this
      refine ⟨_, rfl, a, _, _, _, rfl, rfl, hT, atI_nat (j := 0) rfl, _, _, rfl, rfl, line7 (by simp only [PySem.Str.length_append, num_fold, ll_belt, ll_res, ll_use, ll_rank, ll_sp, ll_pat, ll_els, ll_iff, ll_loop, ll_grd, ll_hdl, ll_end, ll_draw, ll_ob, ll_cb, ll_at, ll_com, ll_e0, ll_eob, ll_plan, ll_for, ll_len, ll_room, ll_of, ll_mdl, ll_strm, ll_proc, ll_pat2, ll_cyc, ll_ob0]; omega), _, rfl, a, _, _, _, rfl, rfl, hT, atI_nat (j := 1) rfl, _, _, rfl, rfl, line7 (by simp only [PySem.Str.length_append, num_fold, ll_belt, ll_res, ll_use, ll_rank, ll_sp, ll_pat, ll_els, ll_iff, ll_loop, ll_grd, ll_hdl, ll_end, ll_draw, ll_ob, ll_cb, ll_at, ll_com, ll_e0, ll_eob, ll_plan, ll_for, ll_len, ll_room, ll_of, ll_mdl, ll_strm, ll_proc, ll_pat2, ll_cyc, ll_ob0]; omega), _, _, rfl, rfl, line7 (by simp only [PySem.Str.length_append, num_fold, ll_belt, ll_res, ll_use, ll_rank, ll_sp, ll_pat, ll_els, ll_iff, ll_loop, ll_grd, ll_hdl, ll_end, ll_draw, ll_ob, ll_cb, ll_at, ll_com, ll_e0, ll_eob, ll_plan, ll_for, ll_len, ll_room, ll_of, ll_mdl, ll_strm, ll_proc, ll_pat2, ll_cyc, ll_ob0]; omega), ?_⟩
      refine ⟨_, rfl, a, _, _, _, rfl, rfl, hT, atI_nat (j := 0) rfl, rfl, _, rfl, ?_⟩
      refine ite2 (fun _ => ?_) (fun e => absurd (decide_eq_true rfl) e)
      refine ⟨_, rfl, _, _, rfl, rfl, line7 (by simp only [PySem.Str.length_append, num_fold, ll_belt, ll_res, ll_use, ll_rank, ll_sp, ll_pat, ll_els, ll_iff, ll_loop, ll_grd, ll_hdl, ll_end, ll_draw, ll_ob, ll_cb, ll_at, ll_com, ll_e0, ll_eob, ll_plan, ll_for, ll_len, ll_room, ll_of, ll_mdl, ll_strm, ll_proc, ll_pat2, ll_cyc, ll_ob0]; omega), ⟨_, rfl⟩, _, rfl, a, _, _, _, rfl, rfl, hT, atI_nat (j := 2) rfl, pa, rfl, ⟨_, hTa⟩, fun L hL => lc_tup (K := K) (a := pa) (xs := ys) (fun j H2 => ∃ zs : List Str, Same H H2 ∧ H2 L = some (.lst (zs.map V.str)) ∧ zs.length = j ∧ zs.map (fun y => TL.tl y ++ [32]) = ((spans.take j).map rSpan).map flat ∧ ∀ y ∈ zs, y.length ≤ 20) ⟨[], same_new hL, upd_same, rfl, rfl, fun _ h => absurd h List.not_mem_nil⟩ (fun j H2 _ ⟨_, e, _⟩ => sqt_keep (KeepT.of_same e) hTa) ?_ ?_⟩
      · rintro j x H2 hj ⟨zs, s3, h3, zl, h4, h5⟩
        obtain ⟨dd, e1, e2⟩ := dpA_at hAa hj
        obtain ⟨pp, e3, rfl⟩ := map_at e1
        obtain ⟨pb, ws, rfl, hTb, hAb⟩ := dp_tup e2
        obtain ⟨z0, t0, rfl, g0, hAb1⟩ := dpA_cons hAb
        obtain ⟨z1, t1, rfl, g1, hAb2⟩ := dpA_cons hAb1
        cases dpA_nil hAb2
        cases dp_int g0
        cases dp_int g1
        have hjl := (List.getElem?_eq_some_iff.mp e3).1
        have okp := ok3 pp (List.mem_of_getElem? e3)
        have l1 := (num_ok okp.1).1
        have l2 := (num_ok okp.2).1
        have hTb2 := sqt_keep (KeepT.of_same s3) hTb
        refine ⟨rfl, _, rfl, pb, _, _, _, rfl, rfl, hTb2, atI_nat (j := 0) rfl, pp.1, rfl, num_log okp.1, _, _, rfl, rfl, line7 (by simp only [PySem.Str.length_append, num_fold, ll_belt, ll_res, ll_use, ll_rank, ll_sp, ll_pat, ll_els, ll_iff, ll_loop, ll_grd, ll_hdl, ll_end, ll_draw, ll_ob, ll_cb, ll_at, ll_com, ll_e0, ll_eob, ll_plan, ll_for, ll_len, ll_room, ll_of, ll_mdl, ll_strm, ll_proc, ll_pat2, ll_cyc, ll_ob0]; omega), _, rfl, pb, _, _, _, rfl, rfl, hTb2, atI_nat (j := 1) rfl, pp.2, rfl, num_log okp.2, _, _, rfl, rfl, line7 (by simp only [PySem.Str.length_append, num_fold, ll_belt, ll_res, ll_use, ll_rank, ll_sp, ll_pat, ll_els, ll_iff, ll_loop, ll_grd, ll_hdl, ll_end, ll_draw, ll_ob, ll_cb, ll_at, ll_com, ll_e0, ll_eob, ll_plan, ll_for, ll_len, ll_room, ll_of, ll_mdl, ll_strm, ll_proc, ll_pat2, ll_cyc, ll_ob0]; omega), ?_⟩
        refine ⟨_, h3, line6 (by rw [List.length_map]; omega), zs ++ [(num pp.1 ++ " for ") ++ num pp.2], same_mut s3 hL, ?_, ?_, ?_, ?_⟩
        · rw [upd_same, ← snoc_str]
          rfl
        · rw [List.length_append, List.length_singleton, zl]
        · rw [← take_map_succ (f := rSpan) e3, List.map_append, List.map_append, h4]
          refine congrArg (fun l => _ ++ [l]) ?_
          show _ = flat ([num pp.1, "for", num pp.2] : List Str)
          simp only [TL.tl_append, num_fold, flat_app, flat_cons, flat_nil, List.append_assoc, List.cons_append, List.nil_append, List.append_nil, lt_belt, lt_res, lt_use, lt_rank, lt_sp, lt_pat, lt_els, lt_iff, lt_loop, lt_grd, lt_hdl, lt_end, lt_draw, lt_ob, lt_cb, lt_at, lt_com, lt_e0, lt_eob, lt_plan, lt_for, lt_len, lt_room, lt_of, lt_mdl, lt_strm, lt_proc, lt_pat2, lt_cyc, lt_ob0, sw_0, sw_1, sw_2, sw_3, sw_4, sw_5, sw_6, sw_7, sw_8, sw_9, sw_10, sw_11, sw_12, sw_13, sw_14, sw_15, sw_16, sw_17, sw_18, sw_19, sw_20, sw_21, sw_22, sw_23, sw_24, sw_25, sw_26, sw_27, sw_28, spc_num okp.1, spc_num okp.2]
        · intro y hy
          rcases List.mem_append.mp hy with h | h
          · exact h5 y h
          · rw [List.mem_singleton.mp h, PySem.Str.length_append, PySem.Str.length_append, ll_for]
            omega
      · rintro H2 ⟨zs, s3, h3, zl, h4, h5⟩
        rw [List.take_of_length_le (by omega)] at h4
        have e := tl_joinC zs _ h4 (fun r hr => by obtain ⟨x, _, rfl⟩ := List.mem_map.mp hr; exact List.cons_ne_nil _ _) (fun h => by rw [List.map_eq_nil_iff] at h; rw [h] at ok0; exact absurd ok0 (by decide))
        have tk := tI_tok (.res nm spans) ⟨ok1, ok0, ok2, ok3⟩
        have tln := tI_len (.res nm spans) ⟨ok1, ok0, ok2, ok3⟩
        have tln2 : (("resource" : Str) :: nm :: ("plan" : Str) :: (lst [] (spans.map rSpan) ++ ([";"] : List Str))).length ≤ 40 := tln
        simp only [List.length_append, List.length_cons, List.length_nil] at tln2
        have jl : (Txt.join " , " zs).length ≤ 1000 := by
          have fl := flat_len (lst [] (spans.map rSpan)) fun t ht => tk t (by
            show t ∈ ("resource" : Str) :: nm :: ("plan" : Str) :: (lst [] (spans.map rSpan) ++ ([";"] : List Str))
            exact List.mem_cons_of_mem _ (List.mem_cons_of_mem _ (List.mem_cons_of_mem _ (List.mem_append_left _ ht))))
          have := congrArg List.length e
          rw [List.length_append, List.length_singleton, ← TL.len_tl] at this
          omega
        refine ⟨_, L, zs, rfl, rfl, .inl (SqL.of h3), ?_, _, _, rfl, rfl, line7 (by simp only [PySem.Str.length_append, num_fold, ll_belt, ll_res, ll_use, ll_rank, ll_sp, ll_pat, ll_els, ll_iff, ll_loop, ll_grd, ll_hdl, ll_end, ll_draw, ll_ob, ll_cb, ll_at, ll_com, ll_e0, ll_eob, ll_plan, ll_for, ll_len, ll_room, ll_of, ll_mdl, ll_strm, ll_proc, ll_pat2, ll_cyc, ll_ob0]; omega), _, _, rfl, rfl, line7 (by simp only [PySem.Str.length_append, num_fold, ll_belt, ll_res, ll_use, ll_rank, ll_sp, ll_pat, ll_els, ll_iff, ll_loop, ll_grd, ll_hdl, ll_end, ll_draw, ll_ob, ll_cb, ll_at, ll_com, ll_e0, ll_eob, ll_plan, ll_for, ll_len, ll_room, ll_of, ll_mdl, ll_strm, ll_proc, ll_pat2, ll_cyc, ll_ob0]; omega), q _ _ s3 ?_⟩
        · have := join_len (z := "") (S := "") h5
          rw [ll_com]
          omega
        · have e7 : TL.tl ((((((("resource" : Str) ++ " ") ++ nm) ++ " ") ++ "plan ") ++ Txt.join " , " zs) ++ " ;\n") = (TL.tl (((((("resource" : Str) ++ " ") ++ nm) ++ " ") ++ "plan ")) ++ (TL.tl (Txt.join " , " zs) ++ [32])) ++ [59, 10] := by
            rw [TL.tl_append, TL.tl_append _ (Txt.join " , " zs), lt_end, List.append_assoc, List.append_assoc, List.append_assoc]
            rfl
          refine e7.trans ?_
          rw [e]
          show _ = flat (("resource" : Str) :: nm :: ("plan" : Str) :: (lst [] (spans.map rSpan) ++ ([";"] : List Str)))
          simp only [TL.tl_append, num_fold, flat_app, flat_cons, flat_nil, List.append_assoc, List.cons_append, List.nil_append, List.append_nil, lt_belt, lt_res, lt_use, lt_rank, lt_sp, lt_pat, lt_els, lt_iff, lt_loop, lt_grd, lt_hdl, lt_end, lt_draw, lt_ob, lt_cb, lt_at, lt_com, lt_e0, lt_eob, lt_plan, lt_for, lt_len, lt_room, lt_of, lt_mdl, lt_strm, lt_proc, lt_pat2, lt_cyc, lt_ob0, sw_0, sw_1, sw_2, sw_3, sw_4, sw_5, sw_6, sw_7, sw_8, sw_9, sw_10, sw_11, sw_12, sw_13, sw_14, sw_15, sw_16, sw_17, sw_18, sw_19, sw_20, sw_21, sw_22, sw_23, sw_24, sw_25, sw_26, sw_27, sw_28, spc_n ok1]
end
section
variable {P : Program} {w : World} {K : PySem.W.Frag} {mg : Str → Option Value} {base : Heap}
theorem tMp_tok {n : Nat} {m : Mdl n} (ok : okM m) (i j : Nat) : ∀ t ∈ (["model", num m.base, "streams"] : List Str) ++ (m.streams ++ [("{" : Str)]) ++ (m.items.take i).flatMap tI ++ (m.procs.take j).flatMap (tP n), okT t := fun t ht => by
  refine tM_tok m ok t ?_
  show t ∈ (["model", num m.base, "streams"] : List Str) ++ (m.streams ++ [("{" : Str)]) ++ m.items.flatMap tI ++ m.procs.flatMap (tP n) ++ [("}" : Str)]
  refine List.mem_append_left _ ?_
  rcases List.mem_append.mp ht with h | h
  · refine List.mem_append_left _ ?_
    rcases List.mem_append.mp h with h | h
    · exact List.mem_append_left _ h
    · obtain ⟨x, hx, h⟩ := List.mem_flatMap.mp h
      exact List.mem_append_right _ (List.mem_flatMap.mpr ⟨x, List.mem_of_mem_take hx, h⟩)
  · obtain ⟨x, hx, h⟩ := List.mem_flatMap.mp h
    exact List.mem_append_right _ (List.mem_flatMap.mpr ⟨x, List.mem_of_mem_take hx, h⟩)
theorem tMp_len {n : Nat} {m : Mdl n} (ok : okM m) (i j : Nat) {z : Str} (e : TL.tl z = flat ((["model", num m.base, "streams"] : List Str) ++ (m.streams ++ [("{" : Str)]) ++ (m.items.take i).flatMap tI ++ (m.procs.take j).flatMap (tP n))) : z.length ≤ 300000 := by
  refine wm_len ok (tMp_tok ok i j) ?_ e
  have f1 := ok.few1
  have f2 := ok.few2
  have f3 := ok.few3
  have f4 := ok.few
  have tl1 := fm_c tI 40 m.items fun i hi => tI_len i (ok.it i hi)
  have tl2 := fm_le (tP n) (cP n) 9 m.procs fun p hp => tP_len n p (ok.pr p hp)
  have z1 := fm_take tI m.items i
  have z2 := fm_take (tP n) m.procs j
  simp only [List.length_append, List.length_cons, List.length_nil]
  omega
theorem ok_wmodel {n : Nat} (T : Txt K mg) (D__law_w_item : Kept P w K mg base 1 "_law_w_item" ["item"] (spWI K)) (D__law_w_body : Kept P w K mg base (2 * n + 1) "_law_w_body" ["body", "odd"] (spWB K n))
    {f : Addr} {fd : FuncData} (F : FnP K "_law_w_model" s__law_w_model f fd) : FnOk P w K mg base CX0 (2 * n + 2) f fd ["model", "odd"] (spWM K n) := by
  refine F.ok sc__law_w_model (fun vs H Q E h => ?_) (fun cdv A outer s H vs Q E hr h => ?_)
  · obtain ⟨v, O, b, rfl, _⟩ := h
    rfl
  · obtain ⟨v, O, m, rfl, hO, hd, ok, q⟩ := h
    obtain ⟨a, xs, rfl, hT, hA⟩ := dp_tup hd
    obtain ⟨x0, r0, rfl, h0, hA1⟩ := dpA_cons hA
    obtain ⟨x1, r1, rfl, h1, hA2⟩ := dpA_cons hA1
    obtain ⟨x2, r2, rfl, h2, hA3⟩ := dpA_cons hA2
    obtain ⟨x3, r3, rfl, h3, hA4⟩ := dpA_cons hA3
    obtain ⟨x4, r4, rfl, h4, hA5⟩ := dpA_cons hA4
    cases dpA_nil hA5
    cases dp_str h0
    cases dp_int h1
    obtain ⟨p2, ys2, rfl, hT2, hA2'⟩ := dp_tup h2
    obtain ⟨p3, ys3, rfl, hT3, hA3'⟩ := dp_tup h3
    obtain ⟨p4, ys4, rfl, hT4, hA4'⟩ := dp_tup h4
    have e2 := dpA_strs hA2'
    subst e2
    have l3 : ys3.length = m.items.length := by
      have := dpA_len hA3'
      rw [List.length_map] at this
      exact this
    have l4 : ys4.length = m.procs.length := by
      have := dpA_len hA4'
      rw [List.length_map] at this
      exact this
    have f1 := ok.few1
    have f2 := ok.few2
    have f3 := ok.few3
    have f4 := ok.few
    have l0 := (num_ok ok.base).1
    refine ⟨_, PSs.nox (pss_cons (ps_set (i := 2) sc__law_w_model.nd rfl (Or.inl rfl) (pe_op op_add_str (pe_op op_add_str (pe_op op_add_str (pe_op op_add_str pe_str (pe_callTy call_str_int (by rfl) T.b_str (by decide +kernel) (pa_cons (pe_ix ix_tup (pv 0) pe_int (fun _ _ => rfl)) pa_nil))) pe_str) (pe_join pe_str (pe_lc (own := [("name", 3)]) (g := (gName 3)) (tt := tYes) rfl sc__law_w_model.nd (pi_tup (pe_ix ix_tup (pv 0) pe_int (fun _ _ => rfl))) (blkOk_by (N := N__law_w_model) (sc := defScope s__law_w_model) (by decide +kernel)) (fun _ _ _ _ _ => (pg_name (i := 3) sc__law_w_model.nd rfl (Or.inl rfl))) (fun _ _ _ _ _ => pts_nil) (fun _ _ _ _ _ => (pe_op op_add_str (pv 3) pe_str))))) pe_str))
      (pss_cons (ps_set (i := 2) sc__law_w_model.nd rfl (Or.inl rfl) (pe_op op_add_str (pv 2) (pe_join pe_str (pe_lc (own := [("item", 4)]) (g := (gName 4)) (tt := tYes) rfl sc__law_w_model.nd (pi_tup (pe_ix ix_tup (pv 0) pe_int (fun _ _ => rfl))) (blkOk_by (N := N__law_w_model) (sc := defScope s__law_w_model) (by decide +kernel)) (fun _ _ _ _ _ => (pg_name (i := 4) sc__law_w_model.nd rfl (Or.inl rfl))) (fun _ _ _ _ _ => pts_nil) (fun _ _ _ _ _ => (pe_d D__law_w_item (hr.mono (by omega)) (by rfl) (pa_cons (pv 4) pa_nil)))))))
      (pss_cons (ps_for PassesOwn.never rfl (pi_tup (pe_ix ix_tup (pv 0) pe_int (fun _ _ => rfl))) (pg_name (i := 5) sc__law_w_model.nd rfl (Or.inl rfl)) (pss_cons (ps_set (i := 2) sc__law_w_model.nd rfl (Or.inl rfl) (pe_op op_add_str (pe_op op_add_str (pe_op op_add_str (pe_op op_add_str (pe_op op_add_str (pe_op op_add_str (pv 2) pe_str) (pe_ix ix_tup (pv 5) pe_int (fun _ _ => rfl))) pe_str) (pe_callTy call_str_int (by rfl) T.b_str (by decide +kernel) (pa_cons (pe_ix ix_tup (pv 5) pe_int (fun _ _ => rfl)) pa_nil))) pe_str) (pe_d D__law_w_body (hr.mono (by omega)) (by rfl) (pa_cons (pe_ix ix_tup (pv 5) pe_int (fun _ _ => rfl)) (pa_cons (pv 1) pa_nil)))))
      (pss_one (ps_set (i := 2) sc__law_w_model.nd rfl (Or.inl rfl) (pe_op op_add_str (pe_op op_add_str (pv 2) pe_str) (pe_d D__law_w_body (hr.mono (by omega)) (by rfl) (pa_cons (pe_ix ix_tup (pv 5) pe_int (fun _ _ => rfl)) (pa_cons (pv 1) pa_nil))))))))
      (pss_one (ps_ret (pe_op op_add_str (pv 2) pe_str)))))), ?_⟩
    refine ⟨_, rfl, a, _, _, _, rfl, rfl, hT, atI_nat (j := 1) rfl, m.base, rfl, num_log ok.base, _, _, rfl, rfl, line7 (by simp only [PySem.Str.length_append, num_fold, ll_belt, ll_res, ll_use, ll_rank, ll_sp, ll_pat, ll_els, ll_iff, ll_loop, ll_grd, ll_hdl, ll_end, ll_draw, ll_ob, ll_cb, ll_at, ll_com, ll_e0, ll_eob, ll_plan, ll_for, ll_len, ll_room, ll_of, ll_mdl, ll_strm, ll_proc, ll_pat2, ll_cyc, ll_ob0]; omega), _, _, rfl, rfl, line7 (by simp only [PySem.Str.length_append, num_fold, ll_belt, ll_res, ll_use, ll_rank, ll_sp, ll_pat, ll_els, ll_iff, ll_loop, ll_grd, ll_hdl, ll_end, ll_draw, ll_ob, ll_cb, ll_at, ll_com, ll_e0, ll_eob, ll_plan, ll_for, ll_len, ll_room, ll_of, ll_mdl, ll_strm, ll_proc, ll_pat2, ll_cyc, ll_ob0]; omega), ⟨_, rfl⟩, _, rfl, a, _, _, _, rfl, rfl, hT, atI_nat (j := 2) rfl, p2, rfl, ⟨_, hT2⟩, fun L hL => lc_tup (K := K) (a := p2) (xs := m.streams.map V.str) (fun j H2 => Same H H2 ∧ H2 L = some (.lst (((m.streams.take j).map fun z : Str => z ++ " ").map V.str))) ⟨same_new hL, upd_same⟩ (fun j H2 _ e => sqt_keep (KeepT.of_same e.1) hT2) ?_ ?_⟩
    · rintro j x H2 hj ⟨s1, g1⟩
      obtain ⟨z, hz, rfl⟩ : ∃ z, m.streams[j]? = some z ∧ V.str z = x := by
        rw [List.getElem?_map] at hj
        cases e : m.streams[j]? with
        | none =>
          rw [e] at hj
          cases hj
        | some z =>
          rw [e] at hj
          exact ⟨z, rfl, Option.some.inj hj⟩
      have hjl := (List.getElem?_eq_some_iff.mp hz).1
      have lz := (ok.st z (List.mem_of_getElem? hz)).1
      refine ⟨rfl, _, rfl, _, _, rfl, rfl, line7 (by simp only [PySem.Str.length_append, num_fold, ll_belt, ll_res, ll_use, ll_rank, ll_sp, ll_pat, ll_els, ll_iff, ll_loop, ll_grd, ll_hdl, ll_end, ll_draw, ll_ob, ll_cb, ll_at, ll_com, ll_e0, ll_eob, ll_plan, ll_for, ll_len, ll_room, ll_of, ll_mdl, ll_strm, ll_proc, ll_pat2, ll_cyc, ll_ob0]; omega), _, g1, line6 (by rw [List.length_map, List.length_map, List.length_take]; omega), same_mut s1 hL, ?_⟩
      rw [upd_same, ← take_map_succ (f := fun z : Str => z ++ " ") hz]
      exact congrArg (fun l => some (HO.lst l)) (snoc_str _ _)
    · rintro H1 ⟨s1, g1⟩
      rw [List.take_of_length_le (by rw [List.length_map]; exact Nat.le_refl _)] at g1
      have eS : TL.tl (Txt.join "" (m.streams.map fun z : Str => z ++ " ")) = flat m.streams := by
        rw [tl_join0]
        have : ∀ l : List Str, (∀ z ∈ l, okN z) → (l.map fun z : Str => z ++ " ").flatMap TL.tl = flat l := fun l => by
          induction l with
          | nil => intro _; rfl
          | cons z r ih =>
            intro h
            rw [List.map_cons, List.flatMap_cons, ih fun y hy => h y (List.mem_cons_of_mem _ hy), flat_cons, spc_n (h z List.mem_cons_self), TL.tl_append, lt_sp]
        exact this _ ok.st
      have lS : (Txt.join "" (m.streams.map fun z : Str => z ++ " ")).length ≤ 100 := by
        rw [TL.len_tl, eS]
        have := flat_len m.streams fun t ht => okT_n (ok.st t ht)
        omega
      refine ⟨_, L, _, rfl, rfl, .inl (SqL.of g1), ?_, _, _, rfl, rfl, line7 (by simp only [PySem.Str.length_append, num_fold, ll_belt, ll_res, ll_use, ll_rank, ll_sp, ll_pat, ll_els, ll_iff, ll_loop, ll_grd, ll_hdl, ll_end, ll_draw, ll_ob, ll_cb, ll_at, ll_com, ll_e0, ll_eob, ll_plan, ll_for, ll_len, ll_room, ll_of, ll_mdl, ll_strm, ll_proc, ll_pat2, ll_cyc, ll_ob0]; omega), _, _, rfl, rfl, line7 (by simp only [PySem.Str.length_append, num_fold, ll_belt, ll_res, ll_use, ll_rank, ll_sp, ll_pat, ll_els, ll_iff, ll_loop, ll_grd, ll_hdl, ll_end, ll_draw, ll_ob, ll_cb, ll_at, ll_com, ll_e0, ll_eob, ll_plan, ll_for, ll_len, ll_room, ll_of, ll_mdl, ll_strm, ll_proc, ll_pat2, ll_cyc, ll_ob0]; omega), ?_⟩
      · have := join_len (z := "") (S := "") (ys := m.streams.map fun z : Str => z ++ " ") (k := 10) fun y hy => by
          obtain ⟨z, hz, rfl⟩ := List.mem_map.mp hy
          have := (ok.st z hz).1
          rw [PySem.Str.length_append, ll_sp]
          omega
        rw [List.length_map] at this
        rw [ll_e0]
        omega
      have eP : TL.tl (((("model " : Str) ++ num m.base) ++ " streams ") ++ Txt.join "" (m.streams.map fun z : Str => z ++ " ") ++ "{\n") = flat ((["model", num m.base, "streams"] : List Str) ++ (m.streams ++ [("{" : Str)])) := by
        simp only [TL.tl_append, num_fold, flat_app, flat_cons, flat_nil, List.append_assoc, List.cons_append, List.nil_append, List.append_nil, lt_belt, lt_res, lt_use, lt_rank, lt_sp, lt_pat, lt_els, lt_iff, lt_loop, lt_grd, lt_hdl, lt_end, lt_draw, lt_ob, lt_cb, lt_at, lt_com, lt_e0, lt_eob, lt_plan, lt_for, lt_len, lt_room, lt_of, lt_mdl, lt_strm, lt_proc, lt_pat2, lt_cyc, lt_ob0, sw_0, sw_1, sw_2, sw_3, sw_4, sw_5, sw_6, sw_7, sw_8, sw_9, sw_10, sw_11, sw_12, sw_13, sw_14, sw_15, sw_16, sw_17, sw_18, sw_19, sw_20, sw_21, sw_22, sw_23, sw_24, sw_25, sw_26, sw_27, sw_28, spc_num ok.base, eS]
      have hT1 := sqt_keep (KeepT.of_same s1) hT
      have hT31 := sqt_keep (KeepT.of_same s1) hT3
      refine ⟨_, rfl, ⟨_, rfl⟩, _, rfl, a, _, _, _, rfl, rfl, hT1, atI_nat (j := 3) rfl, p3, rfl, ⟨_, hT31⟩, fun L2 hL2 => lc_tup (K := K) (a := p3) (xs := ys3) (fun j H2 => ∃ zs : List Str, Same H1 H2 ∧ H2 L2 = some (.lst (zs.map V.str)) ∧ zs.length = j ∧ zs.flatMap TL.tl = flat ((m.items.take j).flatMap tI)) ⟨[], same_new hL2, upd_same, rfl, rfl⟩ (fun j H2 _ ⟨_, e, _⟩ => sqt_keep (KeepT.of_same e) hT31) ?_ ?_⟩
      · rintro j x H2 hj ⟨zs, s2, g2, zl, ze⟩
        obtain ⟨d, hd1, hd2⟩ := dpA_at hA3' hj
        obtain ⟨it, hs, rfl⟩ := map_at hd1
        have hm := List.mem_of_getElem? hs
        have hjl := (List.getElem?_eq_some_iff.mp hs).1
        refine ⟨rfl, _, rfl, x, it, rfl, dp_keep (KeepT.of_same (s1.trans s2)) _ _ (dI_noL it) hd2, ok.it it hm, fun H3 z s3 hz => ?_⟩
        refine ⟨_, s3 _ _ g2, line6 (by rw [List.length_map]; omega), zs ++ [z], same_mut (s2.trans s3) hL2, ?_, ?_, ?_⟩
        · rw [upd_same, snoc_str]
        · rw [List.length_append, List.length_singleton, zl]
        · rw [List.flatMap_append, ze, fm_succ hs, flat_app, ← hz]
          show _ ++ (TL.tl z ++ []) = _
          rw [List.append_nil]
      · rintro H2 ⟨zs, s2, g2, zl, ze⟩
        rw [List.take_of_length_le (by omega)] at ze
        have eI : TL.tl (Txt.join "" zs) = flat (m.items.flatMap tI) := by
          rw [tl_join0, ze]
        have tl1 := fm_c tI 40 m.items fun i hi => tI_len i (ok.it i hi)
        have fI := flat_len (m.items.flatMap tI) fun t ht => by
          obtain ⟨i, hi, h⟩ := List.mem_flatMap.mp ht
          exact tI_tok i (ok.it i hi) t h
        have lI : (Txt.join "" zs).length ≤ 10000 := by
          rw [TL.len_tl, eI]
          omega
        refine ⟨_, L2, zs, rfl, rfl, .inl (SqL.of g2), ?_, _, _, rfl, rfl, line7 (by simp only [PySem.Str.length_append, num_fold, ll_belt, ll_res, ll_use, ll_rank, ll_sp, ll_pat, ll_els, ll_iff, ll_loop, ll_grd, ll_hdl, ll_end, ll_draw, ll_ob, ll_cb, ll_at, ll_com, ll_e0, ll_eob, ll_plan, ll_for, ll_len, ll_room, ll_of, ll_mdl, ll_strm, ll_proc, ll_pat2, ll_cyc, ll_ob0]; omega), ?_⟩
        · rw [sum_tl, ze, ll_e0]
          omega
        have s12 := s1.trans s2
        have hT2' := sqt_keep (KeepT.of_same s12) hT
        have hT42 := sqt_keep (KeepT.of_same s12) hT4
        refine ⟨_, rfl, a, _, _, _, rfl, rfl, hT2', atI_nat (j := 4) rfl, p4, rfl, ⟨_, hT42⟩, for_tup (K := K) (a := p4) (xs := ys4) (fun i σ H' => ∃ (z : Str) (y : Option V), σ = [some (.ref a), some (.ref O), some (.str z), none, none, y] ∧ Same H H' ∧ TL.tl z = flat ((["model", num m.base, "streams"] : List Str) ++ (m.streams ++ [("{" : Str)]) ++ (m.items.take m.items.length).flatMap tI ++ (m.procs.take i).flatMap (tP n))) ⟨_, none, rfl, s12, ?_⟩ (fun i σ H' _ ⟨_, _, _, e, _⟩ => sqt_keep (KeepT.of_same e) hT4) ?_ ?_⟩
        · rw [TL.tl_append, eI, List.take_zero, List.flatMap_nil, List.append_nil, List.take_length, flat_app, ← eP]
          rfl
        · rintro i x σ H' hi ⟨z, y, rfl, s3, hz⟩
          have lz := tMp_len ok _ i hz
          obtain ⟨d, hd1, hd2⟩ := dpA_at hA4' hi
          obtain ⟨pp, hpp, rfl⟩ := map_at hd1
          have hm := List.mem_of_getElem? hpp
          obtain ⟨k1, k2, k3, k4⟩ := ok.pr pp hm
          have z3 : cB n pp.2.2.1 + cB n pp.2.2.2 ≤ 150 := Nat.le_trans (sum_mem _ _ (List.mem_map_of_mem (f := cP n) hm)) f4
          obtain ⟨pb, ws, rfl, hTb, hB⟩ := dp_tup (id hd2)
          obtain ⟨w0, t0, rfl, b0, hB1⟩ := dpA_cons hB
          obtain ⟨w1, t1, rfl, b1, hB2⟩ := dpA_cons hB1
          obtain ⟨w2, t2, rfl, b2, hB3⟩ := dpA_cons hB2
          obtain ⟨w3, t3, rfl, b3, hB4⟩ := dpA_cons hB3
          obtain ⟨w4, t4, rfl, b4, hB5⟩ := dpA_cons hB4
          cases dpA_nil hB5
          cases dp_str b0
          cases dp_str b1
          cases dp_int b2
          have l5 := k1.1
          have l6 := (num_ok k2).1
          have hTb3 := sqt_keep (KeepT.of_same s3) hTb
          refine ⟨_, rfl, _, _, rfl, rfl, line7 (by simp only [PySem.Str.length_append, num_fold, ll_belt, ll_res, ll_use, ll_rank, ll_sp, ll_pat, ll_els, ll_iff, ll_loop, ll_grd, ll_hdl, ll_end, ll_draw, ll_ob, ll_cb, ll_at, ll_com, ll_e0, ll_eob, ll_plan, ll_for, ll_len, ll_room, ll_of, ll_mdl, ll_strm, ll_proc, ll_pat2, ll_cyc, ll_ob0]; omega), _, rfl, pb, _, _, _, rfl, rfl, hTb3, atI_nat (j := 1) rfl, _, _, rfl, rfl, line7 (by simp only [PySem.Str.length_append, num_fold, ll_belt, ll_res, ll_use, ll_rank, ll_sp, ll_pat, ll_els, ll_iff, ll_loop, ll_grd, ll_hdl, ll_end, ll_draw, ll_ob, ll_cb, ll_at, ll_com, ll_e0, ll_eob, ll_plan, ll_for, ll_len, ll_room, ll_of, ll_mdl, ll_strm, ll_proc, ll_pat2, ll_cyc, ll_ob0]; omega), _, _, rfl, rfl, line7 (by simp only [PySem.Str.length_append, num_fold, ll_belt, ll_res, ll_use, ll_rank, ll_sp, ll_pat, ll_els, ll_iff, ll_loop, ll_grd, ll_hdl, ll_end, ll_draw, ll_ob, ll_cb, ll_at, ll_com, ll_e0, ll_eob, ll_plan, ll_for, ll_len, ll_room, ll_of, ll_mdl, ll_strm, ll_proc, ll_pat2, ll_cyc, ll_ob0]; omega), _, rfl, pb, _, _, _, rfl, rfl, hTb3, atI_nat (j := 2) rfl, pp.2.1, rfl, num_log k2, _, _, rfl, rfl, line7 (by simp only [PySem.Str.length_append, num_fold, ll_belt, ll_res, ll_use, ll_rank, ll_sp, ll_pat, ll_els, ll_iff, ll_loop, ll_grd, ll_hdl, ll_end, ll_draw, ll_ob, ll_cb, ll_at, ll_com, ll_e0, ll_eob, ll_plan, ll_for, ll_len, ll_room, ll_of, ll_mdl, ll_strm, ll_proc, ll_pat2, ll_cyc, ll_ob0]; omega), _, _, rfl, rfl, line7 (by simp only [PySem.Str.length_append, num_fold, ll_belt, ll_res, ll_use, ll_rank, ll_sp, ll_pat, ll_els, ll_iff, ll_loop, ll_grd, ll_hdl, ll_end, ll_draw, ll_ob, ll_cb, ll_at, ll_com, ll_e0, ll_eob, ll_plan, ll_for, ll_len, ll_room, ll_of, ll_mdl, ll_strm, ll_proc, ll_pat2, ll_cyc, ll_ob0]; omega), ?_⟩
          refine ⟨_, rfl, pb, _, _, _, rfl, rfl, hTb3, atI_nat (j := 3) rfl, _, rfl, w3, O, _, rfl, s3 _ _ hO, dp_keep (KeepT.of_same s3) _ _ (dB_noL n _) b3, k3, by omega, fun H3 za s4 hza => ?_⟩
          have lza := wb_len k3 (by omega) hza
          have hTb4 := sqt_keep (KeepT.of_same s4) hTb3
          refine ⟨_, _, rfl, rfl, line7 (by simp only [PySem.Str.length_append, num_fold, ll_belt, ll_res, ll_use, ll_rank, ll_sp, ll_pat, ll_els, ll_iff, ll_loop, ll_grd, ll_hdl, ll_end, ll_draw, ll_ob, ll_cb, ll_at, ll_com, ll_e0, ll_eob, ll_plan, ll_for, ll_len, ll_room, ll_of, ll_mdl, ll_strm, ll_proc, ll_pat2, ll_cyc, ll_ob0]; omega), _, rfl, _, _, rfl, rfl, line7 (by simp only [PySem.Str.length_append, num_fold, ll_belt, ll_res, ll_use, ll_rank, ll_sp, ll_pat, ll_els, ll_iff, ll_loop, ll_grd, ll_hdl, ll_end, ll_draw, ll_ob, ll_cb, ll_at, ll_com, ll_e0, ll_eob, ll_plan, ll_for, ll_len, ll_room, ll_of, ll_mdl, ll_strm, ll_proc, ll_pat2, ll_cyc, ll_ob0]; omega), _, rfl, pb, _, _, _, rfl, rfl, hTb4, atI_nat (j := 4) rfl, _, rfl, w4, O, _, rfl, s4 _ _ (s3 _ _ hO), dp_keep (KeepT.of_same (s3.trans s4)) _ _ (dB_noL n _) b4, k4, by omega, fun H4 zb s5 hzb => ?_⟩
          have lzb := wb_len k4 (by omega) hzb
          refine ⟨_, _, rfl, rfl, line7 (by simp only [PySem.Str.length_append, num_fold, ll_belt, ll_res, ll_use, ll_rank, ll_sp, ll_pat, ll_els, ll_iff, ll_loop, ll_grd, ll_hdl, ll_end, ll_draw, ll_ob, ll_cb, ll_at, ll_com, ll_e0, ll_eob, ll_plan, ll_for, ll_len, ll_room, ll_of, ll_mdl, ll_strm, ll_proc, ll_pat2, ll_cyc, ll_ob0]; omega), _, _, rfl, (s3.trans s4).trans s5, ?_⟩
          have e9 : ∀ X : Str, TL.tl X = TL.tl z ++ flat (tP n pp) → TL.tl X = flat ((["model", num m.base, "streams"] : List Str) ++ (m.streams ++ [("{" : Str)]) ++ (m.items.take m.items.length).flatMap tI ++ (m.procs.take (i + 1)).flatMap (tP n)) := fun X hX => by
            rw [hX, hz, fm_succ hpp]
            simp only [flat_app, List.append_assoc]
          refine e9 _ ?_
          show _ = TL.tl z ++ flat ((["process", pp.1, "at", num pp.2.1] : List Str) ++ (tB n pp.2.2.1 ++ (("cycle" : Str) :: tB n pp.2.2.2)))
          simp only [TL.tl_append, num_fold, flat_app, flat_cons, flat_nil, List.append_assoc, List.cons_append, List.nil_append, List.append_nil, lt_belt, lt_res, lt_use, lt_rank, lt_sp, lt_pat, lt_els, lt_iff, lt_loop, lt_grd, lt_hdl, lt_end, lt_draw, lt_ob, lt_cb, lt_at, lt_com, lt_e0, lt_eob, lt_plan, lt_for, lt_len, lt_room, lt_of, lt_mdl, lt_strm, lt_proc, lt_pat2, lt_cyc, lt_ob0, sw_0, sw_1, sw_2, sw_3, sw_4, sw_5, sw_6, sw_7, sw_8, sw_9, sw_10, sw_11, sw_12, sw_13, sw_14, sw_15, sw_16, sw_17, sw_18, sw_19, sw_20, sw_21, sw_22, sw_23, sw_24, sw_25, sw_26, sw_27, sw_28, spc_n k1, spc_num k2, hza, hzb]
        · rintro σ H' ⟨z, y, rfl, s3, hz⟩
          have lz := tMp_len ok _ _ hz
          rw [List.take_of_length_le (l := m.procs) (by omega), List.take_length] at hz
          refine ⟨_, rfl, _, _, rfl, rfl, line7 (by simp only [PySem.Str.length_append, num_fold, ll_belt, ll_res, ll_use, ll_rank, ll_sp, ll_pat, ll_els, ll_iff, ll_loop, ll_grd, ll_hdl, ll_end, ll_draw, ll_ob, ll_cb, ll_at, ll_com, ll_e0, ll_eob, ll_plan, ll_for, ll_len, ll_room, ll_of, ll_mdl, ll_strm, ll_proc, ll_pat2, ll_cyc, ll_ob0]; omega), q _ _ s3 ?_⟩
          rw [TL.tl_append, hz, lt_cb]
          show _ = flat ((["model", num m.base, "streams"] : List Str) ++ (m.streams ++ [("{" : Str)]) ++ m.items.flatMap tI ++ m.procs.flatMap (tP n) ++ [("}" : Str)])
          rw [flat_app _ [("}" : Str)]]
          rfl
end
end Mt
namespace Mt
open PySem PySem.Spec PyProof.Rows L2
def RES : List Str := (["model", "streams", "resource", "store", "belt", "counter", "process", "plan", "for", "of", "length", "room", "at", "cycle", "hold", "mark", "add", "drop", "put", "take", "load", "unload", "interrupt", "stop", "end", "draw", "use", "rank", "patience", "else", "if", "free", "queue", "loop", "guard", "handle"] : List String).map Str.ofString
abbrev LETz : Str := "abcdefghijklmnopqrstuvwxyz"
abbrev LDz : Str := "abcdefghijklmnopqrstuvwxyz0123456789"
abbrev RA : Str := "model streams resource store belt counter process plan for of length room at cycle hold mark add drop "
abbrev RB : Str := "put take load unload interrupt stop end draw use rank patience else if free queue loop guard handle"
theorem split_res : Txt.split (RA ++ RB) " " = RES := by decide +kernel
theorem row_str {K : PySem.W.Frag} {H : Hp} (z : Str) : Row K H (.str z) (z.cps.toList.map fun c => .str ⟨#[c]⟩) := .inl ⟨z, rfl, rfl⟩
theorem len_one (c : Nat) : (⟨#[c]⟩ : Str).length = 1 := rfl
/-- it begins with no mark -/
def hdOk (c : Nat) : Bool := (!decide (c = 123)) && ((!decide (c = 125)) && (!decide (c = 59)))
def HdL (z : Str) : Prop := ∃ c r, TL.tl z = c :: r ∧ hdOk c = true
theorem hdL_no {z : Str} (h : HdL z) : inV (.str z) (BRACE.map V.str) = false := by
  obtain ⟨c, r, e, hc⟩ := h
  cases q : inV (.str z) (BRACE.map V.str) with
  | false => rfl
  | true =>
    exfalso
    obtain ⟨y, hy, e2⟩ := List.any_eq_true.mp q
    obtain ⟨b, hb, rfl⟩ := List.mem_map.mp hy
    have e3 : b = z := eq_of_beq (show (b == z) = true from e2)
    subst e3
    have : ∀ b ∈ BRACE, ∃ c, TL.tl b = [c] ∧ hdOk c = false := by
      intro b hb
      have hb2 : b ∈ (["{", "}", ";"] : List Str) := hb
      simp only [List.mem_cons, List.not_mem_nil, or_false] at hb2
      rcases hb2 with h | h | h <;> subst h
      · exact ⟨123, by decide +kernel, rfl⟩
      · exact ⟨125, by decide +kernel, rfl⟩
      · exact ⟨59, by decide +kernel, rfl⟩
    obtain ⟨c2, e5, hc2⟩ := this b hb
    rw [e5] at e
    injection e with e6 _
    rw [e6, hc] at hc2
    cases hc2
theorem hdL_app {z : Str} (h : HdL z) (x : Str) : HdL (z ++ x) := by
  obtain ⟨c, r, e, hc⟩ := h
  exact ⟨c, r ++ TL.tl x, by rw [TL.tl_append, e]; rfl, hc⟩
theorem tl_cut (z : Str) (hi : Option Int) : TL.tl (cutS z none hi) = (TL.tl z).take (HT.sIx z.length z.length hi) := by
  show ((z.cps.toList.drop (HT.sIx z.length 0 none)).take (HT.sIx z.length z.length hi - HT.sIx z.length 0 none)) = _
  rw [HT.sIx_none]
  rfl
theorem hdL_cut {z : Str} (h : HdL z) {hi : Option Int} (h0 : 0 < HT.sIx z.length z.length hi) : HdL (cutS z none hi) := by
  obtain ⟨c, r, e, hc⟩ := h
  obtain ⟨k, hk⟩ : ∃ k, HT.sIx z.length z.length hi = k + 1 := ⟨_, (Nat.succ_pred_eq_of_pos h0).symm⟩
  exact ⟨c, r.take k, by rw [tl_cut, e, hk]; rfl, hc⟩
theorem hdL_pos {z : Str} (h : HdL z) : 0 < z.length := by
  obtain ⟨c, r, e, _⟩ := h
  rw [TL.len_tl, e]
  exact Nat.succ_pos _
theorem cut_len {z : Str} {k : Nat} : (cutS z none (some (k : Int))).length ≤ k := by
  rw [TL.len_tl, tl_cut, List.length_take, HT.sIx_nat]
  omega
theorem let_ok : LETz.cps.toList.all hdOk = true := by decide +kernel
theorem hdL_sign {c : Nat} (h : c ∈ LETz.cps.toList) : HdL ⟨#[c]⟩ := ⟨c, [], rfl, List.all_eq_true.mp let_ok c h⟩
def resOk (z : Str) : Bool := decide (2 ≤ z.length) && (decide (z.length ≤ 9) && (match TL.tl z with
  | c :: _ => hdOk c
  | [] => false))
theorem res_all : RES.all resOk = true := by decide +kernel
theorem res_get {z : Str} (h : z ∈ RES) : 2 ≤ z.length ∧ z.length ≤ 9 ∧ HdL z := by
  have h1 := List.all_eq_true.mp res_all z h
  unfold resOk at h1
  rw [Bool.and_eq_true, Bool.and_eq_true] at h1
  obtain ⟨a, b, c⟩ := h1
  refine ⟨of_decide_eq_true a, of_decide_eq_true b, ?_⟩
  cases e : TL.tl z with
  | nil =>
    rw [e] at c
    cases c
  | cons x r =>
    rw [e] at c
    exact ⟨x, r, e, c⟩
theorem sign_of {z : Str} {x : V} (h : x ∈ z.cps.toList.map fun c => V.str ⟨#[c]⟩) : ∃ c, x = .str ⟨#[c]⟩ ∧ c ∈ z.cps.toList := by
  obtain ⟨c, hc, rfl⟩ := List.mem_map.mp h
  exact ⟨c, rfl, hc⟩
def spRes : Sp := fun vs H Q _ => vs = [] ∧ ∀ p, H p = none → Q (.ref p) (upd H p (.lst (RES.map V.str)))
def spRare : Sp := fun vs H Q _ => ∃ (S D : Addr) (m : Int), vs = [.ref D, .int m] ∧ 0 < m ∧ m < 1000 ∧ DrawAt S D H ∧ ∀ H' b, Go S D H H' → Q (.bl b) H'
def spSmall : Sp := fun vs H Q _ => ∃ (S D : Addr) (m : Int), vs = [.ref D, .int m] ∧ 0 < m ∧ m < 1000 ∧ DrawAt S D H ∧ ∀ H' (v : Int), 1 ≤ v → v ≤ m → Go S D H H' → Q (.int v) H'
def spWord : Sp := fun vs H Q _ => ∃ (S D : Addr), vs = [.ref D] ∧ DrawAt S D H ∧ ∀ H' (z : Str), okN z → Go S D H H' → Q (.str z) H'
section
variable {P : Program} {w : World} {K : PySem.W.Frag} {mg : Str → Option Value} {base : Heap}
theorem ok__law_draw (T : Txt K mg) {f : Addr} {fd : FuncData} (F : FnP K "_law_draw" s__law_draw f fd) : FnOk P w K mg base CX0 1 f fd ["d", "many"] spDraw := by
  refine F.ok sc__law_draw (fun vs H Q E h => ?_) (fun cdv A outer s H vs Q E hr h => ?_)
  · obtain ⟨S, D, m, rfl, _⟩ := h
    rfl
  · obtain ⟨S, D, m, rfl, hm, d, q⟩ := h
    obtain ⟨cs, hS⟩ := id d.cells
    obtain ⟨i, r, c, h0, hD⟩ := id d.at_
    have hm0 : 0 < m := hm.1
    refine ⟨_, PSs.nox (pss_cons (ps_if (pt_cmpR op_gt (pe_ix ix_list (pv 0) pe_int (fun _ _ => rfl)) pe_int (nomark _)) (pss_cons (ps_set (i := 2) sc__law_draw.nd rfl (Or.inl rfl) (pe_ix ix_list (pv 0) pe_int (fun _ _ => rfl)))
      (pss_cons (ps_asg (pe_op op_fdivW (pv 2) (pv 1)) (pg_sub (pv 0) pe_int set_list))
      (pss_one (ps_ret (pe_op op_mod (pe_callTy call_int1 (by rfl) T.b_int (by decide +kernel) (pa_cons (pv 2) pa_nil)) (pv 1)))))) pss_nil)
      (pss_cons (ps_set (i := 3) sc__law_draw.nd rfl (Or.inl rfl) pe_int)
      (Evl.pss_cut (ps_if (pt_cmpR op_lt (pe_ix ix_list (pv 0) pe_int (fun _ _ => rfl)) (pe_callB call_len (by rfl) T.b_len (by decide +kernel) (pa_cons (pe_ix ix_list (pv 0) pe_int (fun _ _ => rfl)) pa_nil)) (nomark _)) (pss_cons (ps_set (i := 4) sc__law_draw.nd rfl (Or.inl rfl) (pe_ix ix_list (pe_ix ix_list (pv 0) pe_int (fun _ _ => rfl)) (pe_ix ix_list (pv 0) pe_int (fun _ _ => rfl)) (fun _ _ => rfl)))
      (pss_one (ps_set (i := 3) sc__law_draw.nd rfl (Or.inl rfl) (pe_op op_add (pe_op op_mul pe_int (pe_callB call_abs (by rfl) T.b_abs (by decide +kernel) (pa_cons (pv 4) pa_nil))) (pe_callTy call_int1 (by rfl) T.b_int (by decide +kernel) (pa_cons (pe_cmpR op_lt (pv 4) pe_int (nomark _)) pa_nil)))))) pss_nil)
      (pss_cons (ps_augS (pv 0) pe_int get_list pe_int ip_add set_list)
      (pss_cons (ps_if (pt_cmpR op_ge (pv 3) (pe_op op_mul pe_int (pe_op op_pow pe_int pe_int)) (nomark _)) (pss_cons (ps_set (i := 2) sc__law_draw.nd rfl (Or.inl rfl) (pe_op op_mod (pe_callTy call_int1 (by rfl) T.b_int (by decide +kernel) (pa_cons (pe_op op_fdivW (pv 3) pe_int) pa_nil)) (pe_op op_shl pe_int pe_int)))
      (pss_cons (ps_asg (pe_op op_fdivW (pv 2) (pv 1)) (pg_sub (pv 0) pe_int set_list))
      (pss_one (ps_ret (pe_op op_mod (pe_callTy call_int1 (by rfl) T.b_int (by decide +kernel) (pa_cons (pv 2) pa_nil)) (pv 1)))))) pss_nil)
      (pss_cons (ps_asg (pe_op op_mod (pe_callTy call_int1 (by rfl) T.b_int (by decide +kernel) (pa_cons (pe_op op_add (pe_op op_add (pe_op op_add (pe_op op_mul (pe_ix ix_list (pv 0) pe_int (fun _ _ => rfl)) pe_int) (pe_op op_mul (pe_op op_mod (pe_callTy call_int1 (by rfl) T.b_int (by decide +kernel) (pa_cons (pv 3) pa_nil)) pe_int) pe_int)) (pe_op op_mul (pe_ix ix_list (pv 0) pe_int (fun _ _ => rfl)) pe_int)) pe_int) pa_nil)) pe_int) (pg_sub (pv 0) pe_int set_list))
      (pss_one (ps_ret (pe_op op_mod (pe_callTy call_int1 (by rfl) T.b_int (by decide +kernel) (pa_cons (pe_op op_fdivW (pe_ix ix_list (pv 0) pe_int (fun _ _ => rfl)) pe_int) pa_nil)) (pv 1)))))))))), ?_⟩
    refine ⟨_, rfl, D, _, _, _, rfl, rfl, SqL.of hD, atI_nat (j := 2) rfl, _, _, rfl, rfl, _, rfl, ?_⟩
    refine ite2 (fun e => ?_) (fun e => ?_)
    · refine ⟨_, rfl, D, _, _, _, rfl, rfl, SqL.of hD, atI_nat (j := 2) rfl, ?_⟩
      refine ⟨_, rfl, _, rfl, _, _, rfl, rfl, hm, _, rfl, D, _, _, 2, rfl, rfl, hD, rfl, ?_⟩
      refine ⟨_, rfl, .inl ⟨_, rfl, _, rfl, _, _, rfl, rfl, hm0, ?_⟩⟩
      refine q _ _ (Int.emod_nonneg _ (by omega)) (Int.emod_lt_of_pos _ hm0) ⟨d.set h0, Keep.refl.set⟩
    · refine ⟨fun σ' H' => ∃ (z : Int) (x : Option V), σ' = [some (.ref D), some (.int m), none, some (.int z), x] ∧ H' = H, ?_, ?_⟩
      · refine ⟨_, rfl, D, _, _, _, rfl, rfl, SqL.of hD, atI_nat (j := 1) rfl, ?_⟩
        refine ⟨_, rfl, D, _, _, _, rfl, rfl, SqL.of hD, atI_nat (j := 0) rfl, _, _, rfl, .inl ⟨_, SqL.of hS, rfl⟩, _, _, rfl, rfl, _, rfl, ?_⟩
        refine ite2 (fun e1 => ?_) (fun e1 => ?_)
        · have e2 : i < ((cs.map V.int).length : Int) := of_decide_eq_true e1
          have e3 : i.toNat < (cs.map V.int).length := by omega
          have e4 : i.toNat < cs.length := by rw [List.length_map] at e3; exact e3
          have e5 : (cs.map V.int)[i.toNat]? = some (.int cs[i.toNat]) := by
            rw [List.getElem?_map, List.getElem?_eq_getElem e4]
            rfl
          have e6 : atI (cs.map V.int) i = some (.int cs[i.toNat]) := by
            have := atI_nat (xs := cs.map V.int) e5
            rw [show ((i.toNat : Nat) : Int) = i by omega] at this
            exact this
          refine ⟨_, rfl, D, _, _, _, rfl, rfl, SqL.of hD, atI_nat (j := 0) rfl, ?_⟩
          refine ⟨_, rfl, D, _, _, _, rfl, rfl, SqL.of hD, atI_nat (j := 1) rfl, ?_⟩
          refine ⟨S, _, _, _, rfl, rfl, SqL.of hS, e6, ?_⟩
          refine ⟨_, rfl, _, rfl, _, _, rfl, rfl, .inl ⟨by decide, by decide⟩, ?_⟩
          refine ⟨_, rfl, _, _, rfl, rfl, .inr ⟨_, rfl, _, _, rfl, rfl, ?_⟩⟩
          exact ⟨_, _, rfl, rfl⟩
        · exact ⟨_, _, rfl, rfl⟩
      · rintro σ' H' ⟨z, x, rfl, rfl⟩
        refine ⟨_, rfl, D, _, _, _, rfl, rfl, SqL.of hD, atI_nat (j := 1) rfl, ?_⟩
        refine ⟨_, _, rfl, rfl, D, _, _, 1, rfl, rfl, hD, rfl, ?_⟩
        have hD1 : (upd H' D (.lst [.ref S, .int (i + 1), .int r, .int c])) D = some (.lst [.ref S, .int (i + 1), .int r, .int c]) := upd_same
        have d1 : DrawAt S D (upd H' D (.lst [.ref S, .int (i + 1), .int r, .int c])) := d.set (by omega)
        refine ⟨_, rfl, _, _, rfl, rfl, ⟨by decide, by decide, by decide⟩, _, _, rfl, rfl, .inl ⟨by decide, by decide⟩, _, _, rfl, rfl, _, rfl, ?_⟩
        refine ite2 (fun e1 => ?_) (fun e1 => ?_)
        · refine ⟨_, rfl, _, _, rfl, rfl, ⟨by decide, by decide⟩, .inl ⟨_, rfl, _, _, rfl, rfl, ⟨by decide, by decide, by decide⟩, ?_⟩⟩
          refine ⟨_, _, rfl, rfl, ?_, ?_⟩
          · show (0 : Int) < 1 * 2 ^ (6000 : Int).toNat
            exact Int.mul_pos (by decide) (Int.pow_pos (by decide))
          · refine ⟨_, rfl, _, rfl, _, _, rfl, rfl, hm, _, rfl, D, _, _, 2, rfl, rfl, hD1, rfl, ?_⟩
            refine ⟨_, rfl, .inl ⟨_, rfl, _, rfl, _, _, rfl, rfl, hm0, ?_⟩⟩
            exact q _ _ (Int.emod_nonneg _ (by omega)) (Int.emod_lt_of_pos _ hm0) ⟨d1.set (by omega), Keep.refl.set.set⟩
        · refine ⟨_, rfl, D, _, _, _, rfl, rfl, SqL.of hD1, atI_nat (j := 3) rfl, _, _, rfl, rfl, .inr ⟨by decide, by decide⟩, ?_⟩
          refine ⟨_, rfl, .inl ⟨_, rfl, _, _, rfl, rfl, (by show (0 : Int) < 2147483629; decide), _, _, rfl, rfl, .inr ⟨by decide, by decide⟩, _, _, rfl, rfl, ?_⟩⟩
          refine ⟨_, rfl, D, _, _, _, rfl, rfl, SqL.of hD1, atI_nat (j := 1) rfl, _, _, rfl, rfl, .inr ⟨by decide, by decide⟩, _, _, rfl, rfl, _, _, rfl, rfl, .inl ⟨_, rfl, ?_⟩⟩
          refine ⟨_, _, rfl, rfl, (by show (0 : Int) < 2147483647; decide), _, rfl, D, _, _, 3, rfl, rfl, hD1, rfl, ?_⟩
          refine ⟨_, rfl, D, _, _, _, rfl, rfl, SqL.of upd_same, atI_nat (j := 3) rfl, _, _, rfl, rfl, ⟨by decide, by decide⟩, ?_⟩
          refine .inl ⟨_, rfl, _, rfl, _, _, rfl, rfl, hm0, ?_⟩
          exact q _ _ (Int.emod_nonneg _ (by omega)) (Int.emod_lt_of_pos _ hm0) ⟨d1.set (by omega), Keep.refl.set.set⟩
theorem ok__law_begin (T : Txt K mg) {f : Addr} {fd : FuncData} (F : FnP K "_law_begin" s__law_begin f fd) : FnOk P w K mg base CX0 1 f fd ["script"] (spBegin K) := by
  refine F.ok sc__law_begin (fun vs H Q E h => ?_) (fun cdv A outer s H vs Q E hr h => ?_)
  · obtain ⟨a, ns, rfl, _⟩ := h
    rfl
  · obtain ⟨a, ns, rfl, hS, hlen, q⟩ := h
    refine ⟨_, PSs.nox (pss_one (ps_ret (pe_lst (pa_cons (pe_lc (own := [("cell", 1)]) (g := (gName 1)) (tt := tYes) rfl sc__law_begin.nd (pi_list (pv 0)) (blkOk_by (N := N__law_begin) (sc := defScope s__law_begin) (by decide +kernel)) (fun _ _ _ _ _ => (pg_name (i := 1) sc__law_begin.nd rfl (Or.inl rfl))) (fun _ _ _ _ _ => pts_nil) (fun _ _ _ _ _ => (pe_callTy call_int1 (by rfl) T.b_int (by decide +kernel) (pa_cons (pv 1) pa_nil)))) (pa_cons pe_int (pa_cons pe_int (pa_cons pe_int pa_nil))))))), ?_⟩
    refine ⟨_, rfl, a, rfl, ⟨_, hS⟩, fun L hL => lc_list (xs := ns.map V.int) (fun i H' => H' = upd H L (.lst ((ns.take i).map V.int))) rfl (fun i H' _ e => ?_) ?_ ?_⟩
    · subst e
      exact (show Same H _ from fun b o h => by rw [upd_ne (ne_of_none h hL)]; exact h).seq hS
    · rintro i x H1 hi rfl
      obtain ⟨z, rfl, hz⟩ := getV hi
      refine ⟨rfl, _, rfl, .inl ⟨_, rfl, _, upd_same, ?_, ?_⟩⟩
      · rw [List.length_map, List.length_take]
        exact Nat.lt_of_le_of_lt (Nat.min_le_right _ _) (small1000 (by omega))
      · rw [upd_upd, take_map_succ (f := V.int) hz]
    · rintro H' rfl
      refine ⟨by show 4 ≤ sizeLine; decide, fun D hD => ?_⟩
      have nLD : D ≠ L := fun e => by
        rw [e, upd_same] at hD
        cases hD
      have hD0 : H D = none := by
        rw [upd_ne nLD] at hD
        exact hD
      refine q L D _ (fun b o h => ?_) hD0 ⟨fun e => nLD e.symm, ⟨ns, ?_⟩, ⟨0, 0, 7, by decide, upd_same⟩⟩
      · rw [upd_ne (ne_of_none h hD0), upd_ne (ne_of_none h hL)]
        exact h
      · rw [upd_ne (fun e => nLD e.symm), upd_same]
        rw [List.take_of_length_le (by rw [List.length_map]; exact Nat.le_refl _)]
theorem ok__law_pick (T : Txt K mg) (D__law_draw : Kept P w K mg base 1 "_law_draw" ["d", "many"] spDraw) {f : Addr} {fd : FuncData} (F : FnP K "_law_pick" s__law_pick f fd) : FnOk P w K mg base CX0 2 f fd ["d", "row"] (spPick K) := by
  refine F.ok sc__law_pick (fun vs H Q E h => ?_) (fun cdv A outer s H vs Q E hr h => ?_)
  · obtain ⟨S, D, r, xs, rfl, _⟩ := h
    rfl
  · obtain ⟨S, D, r, xs, rfl, d, hR, h0, h1, q⟩ := h
    refine ⟨_, PSs.nox (pss_one (ps_ret (pe_ix ix_seq (pv 1) (pe_d D__law_draw (hr.mono (by decide)) (by rfl) (pa_cons (pv 0) (pa_cons (pe_callB call_len (by rfl) T.b_len (by decide +kernel) (pa_cons (pv 1) pa_nil)) pa_nil))) (fun _ _ => rfl)))), ?_⟩
    refine ⟨r, rfl, _, rfl, _, rfl, r, xs.length, rfl, ?_, ?_⟩
    · rcases hR H (Go.refl d) with ⟨z, rfl, rfl⟩ | ⟨p, rfl, hp⟩
      · refine ⟨?_, by simp [Str.length]⟩
        rw [List.length_map] at h1
        have : z.length = z.cps.toList.length := by simp [Str.length]
        rw [this]
        exact Nat.le_trans h1 (by decide)
      · exact .inl ⟨_, hp, rfl⟩
    · refine ⟨S, D, _, rfl, divW_of (by omega) (by omega), d, fun H' v hv0 hv1 g => ?_⟩
      have hv : v.toNat < xs.length := by omega
      have e : ((v.toNat : Nat) : Int) = v := by omega
      have ex : xs[v.toNat]? = some xs[v.toNat] := List.getElem?_eq_getElem hv
      have ea : atI xs v = some xs[v.toNat] := by
        have := atI_nat (xs := xs) ex
        rw [e] at this
        exact this
      rcases hR H' g with ⟨z, rfl, rfl⟩ | ⟨p, rfl, hp⟩
      · refine .inr (.inr ⟨z, v, z.cps.toList[v.toNat]'(by rw [List.length_map] at hv; exact hv), rfl, rfl, ?_, ?_, ?_⟩)
        · rw [List.length_map] at h1
          have : z.length = z.cps.toList.length := by simp [Str.length]
          rw [this]
          exact Nat.le_trans h1 (by decide)
        · have := atI_nat (xs := z.cps.toList) (List.getElem?_eq_getElem (show v.toNat < z.cps.toList.length by rw [List.length_map] at hv; exact hv))
          rw [e] at this
          exact this
        · refine q H' _ ?_ g
          exact List.mem_map_of_mem (List.getElem_mem _)
      · exact .inl ⟨p, xs, v, _, rfl, rfl, hp, ea, q H' _ (List.getElem_mem _) g⟩
theorem ok__law_reserved (T : Txt K mg) {f : Addr} {fd : FuncData} (F : FnP K "_law_reserved" s__law_reserved f fd) : FnOk P w K mg base CX0 1 f fd [] spRes := by
  refine F.ok sc__law_reserved (fun vs H Q E h => ?_) (fun cdv A outer s H vs Q E hr h => ?_)
  · obtain ⟨rfl, _⟩ := h
    rfl
  · obtain ⟨rfl, q⟩ := h
    refine ⟨_, PSs.nox (pss_cons (ps_set (i := 0) sc__law_reserved.nd rfl (Or.inl rfl) pe_str)
      (pss_cons (ps_set (i := 0) sc__law_reserved.nd rfl (Or.inl rfl) (pe_op op_add_str (pv 0) pe_str))
      (pss_one (ps_ret (pe_split (pv 0) pe_str))))), ?_⟩
    refine ⟨_, rfl, _, _, rfl, rfl, by decide +kernel, _, rfl, ⟨_, rfl⟩, _, _, rfl, rfl, by decide +kernel, by decide +kernel, fun p hp => ?_⟩
    have := q p hp
    rw [← split_res] at this
    exact this
theorem ok__law_rare (T : Txt K mg) (D__law_draw : Kept P w K mg base 1 "_law_draw" ["d", "many"] spDraw) {f : Addr} {fd : FuncData} (F : FnP K "_law_rare" s__law_rare f fd) : FnOk P w K mg base CX0 2 f fd ["d", "many"] spRare := by
  refine F.ok sc__law_rare (fun vs H Q E h => ?_) (fun cdv A outer s H vs Q E hr h => ?_)
  · obtain ⟨S, D, m, rfl, _⟩ := h
    rfl
  · obtain ⟨S, D, m, rfl, m0, m1, d, q⟩ := h
    refine ⟨_, PSs.nox (pss_one (ps_ret (pe_cmpR op_eq (pe_d D__law_draw (hr.mono (by decide)) (by rfl) (pa_cons (pv 0) (pa_cons (pv 1) pa_nil))) (pe_op op_fdivW (pv 1) pe_int) (nomark _)))), ?_⟩
    exact ⟨_, rfl, _, rfl, S, D, m, rfl, divW_of m0 (by omega), d, fun H1 v _ _ g => ⟨_, rfl, _, _, rfl, rfl, ⟨by decide, by decide⟩, rfl, q H1 _ g⟩⟩
theorem ok__law_small (T : Txt K mg) (D__law_draw : Kept P w K mg base 1 "_law_draw" ["d", "many"] spDraw) (D__law_rare : Kept P w K mg base 2 "_law_rare" ["d", "many"] spRare) {f : Addr} {fd : FuncData} (F : FnP K "_law_small" s__law_small f fd) : FnOk P w K mg base CX0 3 f fd ["d", "most"] spSmall := by
  refine F.ok sc__law_small (fun vs H Q E h => ?_) (fun cdv A outer s H vs Q E hr h => ?_)
  · obtain ⟨S, D, m, rfl, _⟩ := h
    rfl
  · obtain ⟨S, D, m, rfl, m0, m1, d, q⟩ := h
    refine ⟨_, PSs.nox (pss_cons (ps_if (pt_val (pe_d D__law_rare (hr.mono (by decide)) (by rfl) (pa_cons (pv 0) (pa_cons pe_int pa_nil)))) (pss_one (ps_ret (pe_op op_add pe_int (pe_d D__law_draw (hr.mono (by decide)) (by rfl) (pa_cons (pv 0) (pa_cons (pv 1) pa_nil)))))) pss_nil)
      (pss_one (ps_ret (pe_op op_add pe_int (pe_d D__law_draw (hr.mono (by decide)) (by rfl) (pa_cons (pv 0) (pa_cons (pe_callB (call_min2 rfl) (by rfl) T.b_min (by decide +kernel) (pa_cons pe_int (pa_cons (pv 1) pa_nil))) pa_nil))))))), ?_⟩
    refine ⟨_, rfl, S, D, 9, rfl, by decide, by decide, d, fun H1 b g1 => ⟨b, rfl, ?_⟩⟩
    cases b with
    | true => exact ⟨_, rfl, _, rfl, S, D, m, rfl, divW_of m0 (by omega), g1.1, fun H2 v v0 v1 g2 => ⟨_, _, rfl, rfl, q H2 _ (by omega) (by omega) (g1.trans g2)⟩⟩
    | false =>
      refine ⟨_, rfl, _, rfl, _, _, rfl, S, D, _, rfl, divW_of ?_ ?_, g1.1, fun H2 v v0 v1 g2 => ⟨_, _, rfl, rfl, q H2 _ (by omega) ?_ (g1.trans g2)⟩⟩
      · split <;> omega
      · split <;> omega
      · split at v1 <;> omega
theorem ok__law_word (T : Txt K mg) (D__law_draw : Kept P w K mg base 1 "_law_draw" ["d", "many"] spDraw) (D__law_pick : Kept P w K mg base 2 "_law_pick" ["d", "row"] (spPick K)) (D__law_small : Kept P w K mg base 3 "_law_small" ["d", "most"] spSmall) (D__law_reserved : Kept P w K mg base 1 "_law_reserved" [] spRes) {f : Addr} {fd : FuncData} (F : FnP K "_law_word" s__law_word f fd) : FnOk P w K mg base CX0 4 f fd ["d"] spWord := by
  refine F.ok sc__law_word (fun vs H Q E h => ?_) (fun cdv A outer s H vs Q E hr h => ?_)
  · obtain ⟨S, D, rfl, _⟩ := h
    rfl
  · obtain ⟨S, D, rfl, d, q⟩ := h
    refine ⟨_, PSs.nox (pss_cons (ps_set (i := 1) sc__law_word.nd rfl (Or.inl rfl) (pe_d D__law_pick (hr.mono (by decide)) (by rfl) (pa_cons (pv 0) (pa_cons pe_str pa_nil))))
      (Evl.pss_cut (ps_if (pt_cmpR op_gt (pe_d D__law_draw (hr.mono (by decide)) (by rfl) (pa_cons (pv 0) (pa_cons pe_int pa_nil))) pe_int (nomark _)) (pss_one (ps_for PassesOwn.never rfl (pi_range1 (by rfl) T.b_range (pa_cons (pe_op op_sub (pe_d D__law_small (hr.mono (by decide)) (by rfl) (pa_cons (pv 0) (pa_cons pe_int pa_nil))) pe_int) pa_nil)) (pg_name (i := 2) sc__law_word.nd rfl (Or.inl rfl)) (pss_one (ps_set (i := 1) sc__law_word.nd rfl (Or.inl rfl) (pe_op op_add_str (pv 1) (pe_d D__law_pick (hr.mono (by decide)) (by rfl) (pa_cons (pv 0) (pa_cons pe_str pa_nil)))))))) (pss_cons (ps_set (i := 1) sc__law_word.nd rfl (Or.inl rfl) (pe_d D__law_pick (hr.mono (by decide)) (by rfl) (pa_cons (pv 0) (pa_cons (pe_d0 D__law_reserved (hr.mono (by decide)) (by rfl)) pa_nil))))
      (pss_one (ps_if (pt_cmpR op_eq (pe_d D__law_draw (hr.mono (by decide)) (by rfl) (pa_cons (pv 0) (pa_cons pe_int pa_nil))) pe_int (nomark _)) (pss_one (ps_set (i := 1) sc__law_word.nd rfl (Or.inl rfl) (pe_slice sl_str (pv 1) po_none (po_some (pe_un un_neg pe_int))))) (pss_one (ps_set (i := 1) sc__law_word.nd rfl (Or.inl rfl) (pe_op op_add_str (pv 1) (pe_d D__law_pick (hr.mono (by decide)) (by rfl) (pa_cons (pv 0) (pa_cons pe_str pa_nil))))))))))
      (pss_cons (ps_set (i := 1) sc__law_word.nd rfl (Or.inl rfl) (pe_slice sl_str (pv 1) po_none (po_some pe_int)))
      (pss_cons (ps_if (pt_cmpR op_in_seq (pv 1) (pe_d0 D__law_reserved (hr.mono (by decide)) (by rfl)) (by rfl)) (pss_one (ps_set (i := 1) sc__law_word.nd rfl (Or.inl rfl) (pe_op op_add_str (pe_slice sl_str (pv 1) po_none (po_some pe_int)) pe_str))) pss_nil)
      (pss_one (ps_ret (pv 1))))))), ?_⟩
    refine ⟨_, rfl, S, D, _, _, rfl, d, fun H' _ => row_str LETz, by decide +kernel, by decide +kernel, fun H1 x hx g1 => ?_⟩
    obtain ⟨c0, rfl, hc0⟩ := sign_of hx
    have hd0 := hdL_sign hc0
    refine ⟨fun σ' H' => ∃ (z : Str) (k : Option V), σ' = [some (.ref D), some (.str z), k] ∧ HdL z ∧ z.length ≤ 20 ∧ Go S D H H', ?_, ?_⟩
    · refine ⟨_, rfl, S, D, 4, rfl, divW_of (by decide) (by decide), g1.1, fun H2 v _ _ g2 => ?_⟩
      refine ⟨_, _, rfl, rfl, _, rfl, ?_⟩
      have g12 := g1.trans g2
      refine ite2 (fun _ => ?_) (fun _ => ?_)
      · refine ⟨_, rfl, S, D, 8, rfl, by decide, by decide, g2.1, fun H3 n n0 n1 g3 => ?_⟩
        refine ⟨_, _, rfl, rfl, _, rfl, by omega, by omega, for_range (lo := 0) (n := (n - 1).toNat) (fun i σ H' => ∃ (z : Str) (k : Option V), σ = [some (.ref D), some (.str z), k] ∧ HdL z ∧ z.length = i + 1 ∧ Go S D H H') ⟨_, _, rfl, hd0, rfl, g12.trans g3⟩ ?_ ?_⟩
        · rintro i σ H4 hi ⟨z, k, rfl, hh, hz, g⟩
          refine ⟨_, rfl, _, rfl, S, D, _, _, rfl, g.1, fun H' _ => row_str LDz, by decide +kernel, by decide +kernel, fun H5 x hx g5 => ?_⟩
          obtain ⟨c, rfl, _⟩ := sign_of hx
          refine ⟨_, _, rfl, rfl, ?_, _, _, rfl, hdL_app hh _, ?_, g.trans g5⟩
          · rw [hz, len_one]
            exact Nat.le_trans (show i + 1 + 1 ≤ 1000 by omega) (by decide)
          · rw [PySem.Str.length_append, hz, len_one]
        · rintro σ H4 ⟨z, k, rfl, hh, hz, g⟩
          exact ⟨z, k, rfl, hh, by omega, g⟩
      · refine ⟨_, rfl, rfl, fun p hp => ?_⟩
        have pD := (g2.1.free hp).1
        have gn := Go.new (o := .lst (RES.map V.str)) g2.1 hp
        refine ⟨S, D, _, RES.map V.str, rfl, gn.1, fun H' g => .inr ⟨p, rfl, SqL.of (g.2 _ _ upd_same pD)⟩, by decide +kernel, by decide +kernel, fun H3 x hx g3 => ?_⟩
        obtain ⟨z, hz, rfl⟩ := List.mem_map.mp hx
        obtain ⟨z2, z9, hh⟩ := res_get hz
        have g4 := (g12.trans gn).trans g3
        refine ⟨_, rfl, S, D, 2, rfl, divW_of (by decide) (by decide), g3.1, fun H4 v v0 v1 g5 => ?_⟩
        refine ⟨rfl, _, rfl, ?_⟩
        refine ite2 (fun _ => ?_) (fun _ => ?_)
        · refine ⟨_, rfl, _, rfl, _, rfl, z, rfl, line5 (by omega), _, _, rfl, hdL_cut hh ?_, Nat.le_trans (cutS_length _ _ _) (by omega), g4.trans g5⟩
          show 0 < HT.sIx z.length z.length (some (-1))
          show 0 < (if (-1 : Int) < 0 then ((-1 : Int) + (z.length : Int)).toNat else min (-1 : Int).toNat z.length)
          rw [if_pos (by decide)]
          omega
        · refine ⟨_, rfl, _, rfl, S, D, _, _, rfl, g5.1, fun H' _ => row_str LDz, by decide +kernel, by decide +kernel, fun H5 x hx g6 => ?_⟩
          obtain ⟨c, rfl, _⟩ := sign_of hx
          refine ⟨_, _, rfl, rfl, ?_, _, _, rfl, hdL_app hh _, ?_, (g4.trans g5).trans g6⟩
          · rw [len_one]
            exact Nat.le_trans (show z.length + 1 ≤ 1000 by omega) (by decide)
          · rw [PySem.Str.length_append, len_one]
            omega
    · rintro σ' H' ⟨z, k, rfl, hh, hz, g⟩
      refine ⟨_, rfl, _, rfl, z, rfl, line5 (by omega), ?_⟩
      have hp := hdL_pos hh
      have h8 : HdL (cutS z none (some (8 : Nat))) := hdL_cut hh (by rw [HT.sIx_nat]; omega)
      have l8 : (cutS z none (some (8 : Nat))).length ≤ 8 := cut_len
      have hp8 := hdL_pos h8
      generalize hz8 : cutS z none (some (8 : Nat)) = z8 at h8 l8 hp8
      refine ⟨_, rfl, rfl, fun p hp => ?_⟩
      refine ⟨p, RES.map V.str, rfl, .inl (SqL.of upd_same), rfl, by decide +kernel, _, rfl, ?_⟩
      have gn := g.trans (Go.new (o := .lst (RES.map V.str)) g.1 hp)
      refine ite2 (fun _ => ?_) (fun _ => ?_)
      · have h7 : HdL (cutS z8 none (some (7 : Nat))) := hdL_cut h8 (by rw [HT.sIx_nat]; omega)
        have l7 : (cutS z8 none (some (7 : Nat))).length ≤ 7 := cut_len
        refine ⟨_, rfl, _, rfl, z8, rfl, line5 (by omega), _, _, rfl, rfl, line5 ?_, _, rfl, q _ _ ?_ gn⟩
        · show (cutS z8 none (some (7 : Nat))).length + 1 ≤ 100000
          omega
        · refine ⟨?_, hdL_no (hdL_app h7 _)⟩
          show ((cutS z8 none (some (7 : Nat))) ++ ("0" : Str)).length ≤ 9
          rw [PySem.Str.length_append]
          show _ + 1 ≤ 9
          omega
      · exact ⟨_, rfl, q _ _ ⟨by omega, hdL_no h8⟩ gn⟩
end
end Mt
namespace Mt
open PySem PySem.Spec PyProof.Rows L2
def MENU : List Str := (["hold", "mark", "add", "drop", "put", "take", "load", "unload", "interrupt", "stop", "end"] : List String).map Str.ofString
def NEST : List Str := (["draw", "use", "if", "loop", "guard"] : List String).map Str.ofString
theorem DrawAt.upd {S D L : Addr} {H : Hp} {o : HO} (d : DrawAt S D H) (n1 : L ≠ D) (n2 : L ≠ S) : DrawAt S D (upd H L o) := by
  obtain ⟨cs, h1⟩ := d.cells
  obtain ⟨i, r, c, h0, h2⟩ := d.at_
  exact ⟨d.ne, ⟨cs, by rw [upd_ne n2.symm]; exact h1⟩, ⟨i, r, c, h0, by rw [upd_ne n1.symm]; exact h2⟩⟩
/-- the draws, and one list F that may change -/
structure StF (S D F : Addr) (H : Hp) : Prop where
  dr : DrawAt S D H
  nS : F ≠ S
  fl : ∃ o, H F = some (.lst o)
def GoL (S D F : Addr) (H H' : Hp) : Prop := StF S D F H' ∧ ∀ b o, H b = some o → b ≠ D → b ≠ F → H' b = some o
section
variable {S D F L p : Addr} {H H1 H2 H' : Hp} {o : HO} {K : PySem.W.Frag}
theorem StF.of_draw (d : DrawAt S D H) : StF S D D H := ⟨d, d.ne.symm, let ⟨_, _, _, _, h⟩ := d.at_; ⟨_, h⟩⟩
theorem StF.free (st : StF S D F H) (h : H p = none) : p ≠ D ∧ p ≠ S ∧ p ≠ F := by
  obtain ⟨o, hF⟩ := st.fl
  exact ⟨(st.dr.free h).1, (st.dr.free h).2, (ne_of_none hF h).symm⟩
theorem GoL.refl (st : StF S D F H) : GoL S D F H H := ⟨st, fun _ _ h _ _ => h⟩
theorem GoL.trans (a : GoL S D F H H1) (b : GoL S D F H1 H2) : GoL S D F H H2 := ⟨b.1, fun x o h n m => b.2 x o (a.2 x o h n m) n m⟩
theorem GoL.of_go (st : StF S D F H) (g : Go S D H H') : GoL S D F H H' := by
  refine ⟨⟨g.1, st.nS, ?_⟩, fun b o h n _ => g.2 b o h n⟩
  obtain ⟨o, hF⟩ := st.fl
  by_cases e : F = D
  · rw [e]
    obtain ⟨_, _, _, _, h⟩ := g.1.at_
    exact ⟨_, h⟩
  · exact ⟨o, g.2 F _ hF e⟩
theorem GoL.to_go (g : GoL S D D H H') : Go S D H H' := ⟨g.1.dr, fun b o h n => g.2 b o h n n⟩
theorem GoL.mut (st : StF S D F H) (g : GoL S D F H H') (h : H L = none) : GoL S D F H (upd H' L o) := by
  obtain ⟨n1, n2, n3⟩ := st.free h
  obtain ⟨u, hF⟩ := g.1.fl
  exact ⟨⟨g.1.dr.upd n1 n2, st.nS, ⟨u, by rw [upd_ne n3.symm]; exact hF⟩⟩, fun b v hb m1 m2 => by
    rw [upd_ne (ne_of_none hb h)]
    exact g.2 b v hb m1 m2⟩
theorem GoL.new (st : StF S D F H) (h : H p = none) : GoL S D F H (upd H p o) := GoL.mut st (GoL.refl st) h
theorem GoL.setF {l : List V} (nD : F ≠ D) (g : GoL S D F H H') : GoL S D F H (upd H' F (.lst l)) :=
  ⟨⟨g.1.dr.upd nD g.1.nS, g.1.nS, ⟨l, upd_same⟩⟩, fun b v hb m1 m2 => by
    rw [upd_ne m2]
    exact g.2 b v hb m1 m2⟩
theorem GoL.back (st : StF S D F H) (g : GoL S D F H H') (h : H' p = none) : H p = none := by
  cases q : H p with
  | none => rfl
  | some u =>
    obtain ⟨n1, n2, n3⟩ := g.1.free h
    rw [g.2 p u q n1 n3] at h
    cases h
theorem lst_not {l : List V} {xs : List V} (h : H p = some (.lst l)) (r : Rd H L (.tup xs)) : L ≠ p := fun e => by
  subst e
  rcases r with r | ⟨o, r⟩
  · rw [h] at r
    cases r
  · rw [h] at r
    cases r
theorem GoL.keepT (st : StF S D F H) (g : GoL S D F H H') : KeepT H H' := fun p xs r => by
  obtain ⟨_, _, _, _, hD⟩ := st.dr.at_
  obtain ⟨o, hF⟩ := st.fl
  have n1 := lst_not hD r
  have n2 := lst_not hF r
  rcases r with r | ⟨o, r⟩
  · exact .inl (g.2 _ _ r n1 n2)
  · exact .inr ⟨o, g.2 _ _ r n1 n2⟩
theorem Go.keepT (d : DrawAt S D H) (g : Go S D H H') : KeepT H H' := GoL.keepT (StF.of_draw d) (GoL.of_go (StF.of_draw d) g)
theorem keepT_lst {l : List V} (h : H L = some (.lst l)) : KeepT H (upd H L o) := fun p xs r => by
  have n := lst_not h r
  rcases r with r | ⟨o, r⟩
  · exact .inl (by rw [upd_ne n]; exact r)
  · exact .inr ⟨o, by rw [upd_ne n]; exact r⟩
theorem keepT_new (h : H L = none) : KeepT H (upd H L o) := KeepT.of_same (same_new h)
theorem dpA_snoc : ∀ {ds : List PyData} {xs : List V} {x : V} {d : PyData}, DpAll K H xs ds → Dp K H x d → DpAll K H (xs ++ [x]) (ds ++ [d])
  | [], _, _, _, h, hx => by
    rw [dpA_nil h]
    exact .cons hx .nil
  | d0 :: ds, _, _, _, h, hx => by
    obtain ⟨y, r, rfl, h1, h2⟩ := dpA_cons h
    exact .cons h1 (dpA_snoc h2 hx)
theorem noLs_of {α : Type} {f : α → PyData} (h : ∀ a, noL (f a) = true) (l : List α) : noLs (l.map f) = true := noLs_map f l fun a _ => h a
end
/-- a list that is being filled -/
structure BL (K : PySem.W.Frag) (S D F L : Addr) (H0 H : Hp) {α : Type} (f : α → PyData) (as : List α) : Prop where
  g : GoL S D F H0 H
  l : ∃ zs, H L = some (.lst zs) ∧ DpAll K H zs (as.map f)
section
variable {S D F L : Addr} {H0 H H1 : Hp} {K : PySem.W.Frag} {α : Type} {f : α → PyData} {as : List α}
theorem BL.nil (st : StF S D F H0) (h : H0 L = none) : BL K S D F L H0 (upd H0 L (.lst [])) f [] := ⟨GoL.new st h, [], upd_same, .nil⟩
theorem BL.go (st : StF S D F H0) (hL : H0 L = none) (hn : ∀ a, noL (f a) = true) (b : BL K S D F L H0 H f as) (g : GoL S D F H H1) : BL K S D F L H0 H1 f as := by
  obtain ⟨zs, h1, h2⟩ := b.l
  obtain ⟨n1, n2, n3⟩ := st.free hL
  exact ⟨b.g.trans g, zs, g.2 _ _ h1 n1 n3, dpA_keep (GoL.keepT b.g.1 g) _ _ (noLs_of hn as) h2⟩
theorem BL.add (st : StF S D F H0) (hL : H0 L = none) (hn : ∀ a, noL (f a) = true) {a : α} {x : V} {zs : List V} (g : GoL S D F H0 H) (h1 : H L = some (.lst zs)) (h2 : DpAll K H zs (as.map f)) (hx : Dp K H x (f a)) :
    BL K S D F L H0 (upd H L (.lst (zs ++ [x]))) f (as ++ [a]) := by
  have k := keepT_lst (o := .lst (zs ++ [x])) h1
  refine ⟨GoL.mut st g hL, zs ++ [x], upd_same, ?_⟩
  rw [List.map_append]
  exact dpA_snoc (dpA_keep k _ _ (noLs_of hn as) h2) (dp_keep k _ _ (hn a) hx)
theorem BL.len (b : BL K S D F L H0 H f as) : ∃ zs, H L = some (.lst zs) ∧ DpAll K H zs (as.map f) ∧ zs.length = as.length := by
  obtain ⟨zs, h1, h2⟩ := b.l
  exact ⟨zs, h1, h2, by have := dpA_len h2; rw [List.length_map] at this; exact this⟩
end
theorem dPart_noL (p : Str × Int) : noL (dPart p) = true := rfl
theorem int_noL (p : Int) : noL (.int p) = true := rfl
def spPlain (K : PySem.W.Frag) (n : Nat) : Sp := fun vs H Q _ => ∃ (S D : Addr) (w : Str), vs = [.ref D, .str w] ∧ w ∈ MENU ∧ DrawAt S D H ∧ ∀ (H' : Hp) (v : V) (s : S1 (Bd n)), Go S D H H' → Dp K H' v (dS (dB n) s) → okS (okB n) s → cS (cB n) s = 1 → Q v H'
section
variable {P : Program} {w : World} {K : PySem.W.Frag} {mg : Str → Option Value} {base : Heap}
theorem ok_tplain {n : Nat} (T : Txt K mg) (D__law_draw : Kept P w K mg base 1 "_law_draw" ["d", "many"] spDraw) (D__law_small : Kept P w K mg base 3 "_law_small" ["d", "most"] spSmall) (D__law_word : Kept P w K mg base 4 "_law_word" ["d"] spWord)
    {f : Addr} {fd : FuncData} (F : FnP K "_law_t_plain" s__law_t_plain f fd) : FnOk P w K mg base CX0 5 f fd ["d", "word"] (spPlain K n) := by
  refine F.ok sc__law_t_plain (fun vs H Q E h => ?_) (fun cdv A outer s H vs Q E hr h => ?_)
  · obtain ⟨S, D, wd, rfl, _⟩ := h
    rfl
  · obtain ⟨S, D, wd, rfl, hw, d, q⟩ := h
    refine ⟨_, PSs.nox (pss_cons (ps_if (pt_cmpR op_eq (pv 1) pe_str (nomark _)) (pss_one (ps_ret (pe_tup (pa_cons (pv 1) (pa_cons (pe_d D__law_draw (hr.mono (by decide)) (by rfl) (pa_cons (pv 0) (pa_cons pe_int pa_nil))) pa_nil))))) pss_nil)
      (pss_cons (ps_if (pt_cmpR op_in_seq (pv 1) (pe_tup (pa_cons pe_str (pa_cons pe_str pa_nil))) (by rfl)) (pss_one (ps_ret (pe_tup (pa_cons (pv 1) (pa_cons (pe_d D__law_word (hr.mono (by decide)) (by rfl) (pa_cons (pv 0) pa_nil)) (pa_cons (pe_d D__law_draw (hr.mono (by decide)) (by rfl) (pa_cons (pv 0) (pa_cons pe_int pa_nil))) pa_nil)))))) pss_nil)
      (pss_cons (ps_if (pt_cmpR op_in_seq (pv 1) (pe_tup (pa_cons pe_str (pa_cons pe_str pa_nil))) (by rfl)) (pss_one (ps_ret (pe_tup (pa_cons (pv 1) (pa_cons (pe_callTy call_tuple_of (by rfl) T.b_tuple (by decide +kernel) (pa_cons (pe_lc (own := [("k", 2)]) (g := (gName 2)) (tt := tYes) rfl sc__law_t_plain.nd (pi_range1 (by rfl) T.b_range (pa_cons (pe_d D__law_small (hr.mono (by decide)) (by rfl) (pa_cons (pv 0) (pa_cons pe_int pa_nil))) pa_nil)) (blkOk_by (N := N__law_t_plain) (sc := defScope s__law_t_plain) (by decide +kernel)) (fun _ _ _ _ _ => (pg_name (i := 2) sc__law_t_plain.nd rfl (Or.inl rfl))) (fun _ _ _ _ _ => pts_nil) (fun _ _ _ _ _ => (pe_tup (pa_cons (pe_d D__law_word (hr.mono (by decide)) (by rfl) (pa_cons (pv 0) pa_nil)) (pa_cons (pe_d D__law_draw (hr.mono (by decide)) (by rfl) (pa_cons (pv 0) (pa_cons pe_int pa_nil))) pa_nil))))) pa_nil)) pa_nil))))) pss_nil)
      (pss_cons (ps_if (pt_cmpR op_in_seq (pv 1) (pe_tup (pa_cons pe_str (pa_cons pe_str pa_nil))) (by rfl)) (pss_one (ps_ret (pe_tup (pa_cons (pv 1) pa_nil)))) pss_nil)
      (pss_one (ps_ret (pe_tup (pa_cons (pv 1) (pa_cons (pe_d D__law_word (hr.mono (by decide)) (by rfl) (pa_cons (pv 0) pa_nil)) pa_nil))))))))), ?_⟩
    have hw2 : wd ∈ (["hold", "mark", "add", "drop", "put", "take", "load", "unload", "interrupt", "stop", "end"] : List Str) := hw
    simp only [List.mem_cons, List.not_mem_nil, or_false] at hw2
    rcases hw2 with h | h | h | h | h | h | h | h | h | h | h
    · subst h
      have g0 := Go.refl d
      refine ⟨_, rfl, rfl, _, rfl, ?_⟩
      refine ite2 (fun _ => ?_) (fun e => absurd (by decide +kernel) e)
      refine ⟨_, rfl, _, rfl, S, D, 10, rfl, divW_of (by decide) (by decide), d, fun H1 v v0 v1 g1 => ⟨by show 2 ≤ sizeLine; decide, fun p hp => ?_⟩⟩
      exact q _ _ (.plain "hold" [.i v]) (g1.trans (Go.new g1.1 hp)) (.tup (SqT.of upd_same) (.cons (.str _) (.cons (.int _) .nil))) ⟨by decide +kernel, by show 1 ≤ 2; decide, fun a ha => by rw [List.mem_singleton.mp ha]; exact ⟨v0, by show v ≤ 9; omega⟩⟩ rfl
    · subst h
      have g0 := Go.refl d
      refine ⟨_, rfl, rfl, _, rfl, ?_⟩
      refine ite2 (fun e => absurd e (by decide +kernel)) (fun _ => ?_)
      refine ⟨_, rfl, by show 2 ≤ sizeLine; decide, fun p0 hp0 => ⟨p0, _, rfl, .inr (SqT.of upd_same), rfl, by decide +kernel, _, rfl, ?_⟩⟩
      have g1 := g0.trans (Go.new (o := .tup [V.str "add", .str "drop"]) g0.1 hp0)
      refine ite2 (fun e => absurd e (by decide +kernel)) (fun _ => ?_)
      refine ⟨_, rfl, by show 2 ≤ sizeLine; decide, fun p1 hp1 => ⟨p1, _, rfl, .inr (SqT.of upd_same), rfl, by decide +kernel, _, rfl, ?_⟩⟩
      have g2 := g1.trans (Go.new (o := .tup [V.str "put", .str "take"]) g1.1 hp1)
      refine ite2 (fun e => absurd e (by decide +kernel)) (fun _ => ?_)
      refine ⟨_, rfl, by show 2 ≤ sizeLine; decide, fun p2 hp2 => ⟨p2, _, rfl, .inr (SqT.of upd_same), rfl, by decide +kernel, _, rfl, ?_⟩⟩
      have g3 := g2.trans (Go.new (o := .tup [V.str "stop", .str "end"]) g2.1 hp2)
      refine ite2 (fun e => absurd e (by decide +kernel)) (fun _ => ?_)
      refine ⟨_, rfl, _, rfl, S, D, rfl, g3.1, fun H1 z hz g4 => ⟨by show 2 ≤ sizeLine; decide, fun p hp => ?_⟩⟩
      exact q _ _ (.plain "mark" [.s z]) ((g3.trans g4).trans (Go.new g4.1 hp)) (.tup (SqT.of upd_same) (.cons (.str _) (.cons (.str _) .nil))) ⟨by decide +kernel, by show 1 ≤ 2; decide, fun a ha => by rw [List.mem_singleton.mp ha]; exact hz⟩ rfl
    · subst h
      have g0 := Go.refl d
      refine ⟨_, rfl, rfl, _, rfl, ?_⟩
      refine ite2 (fun e => absurd e (by decide +kernel)) (fun _ => ?_)
      refine ⟨_, rfl, by show 2 ≤ sizeLine; decide, fun p0 hp0 => ⟨p0, _, rfl, .inr (SqT.of upd_same), rfl, by decide +kernel, _, rfl, ?_⟩⟩
      have g1 := g0.trans (Go.new (o := .tup [V.str "add", .str "drop"]) g0.1 hp0)
      refine ite2 (fun _ => ?_) (fun e => absurd (by decide +kernel) e)
      refine ⟨_, rfl, _, rfl, S, D, rfl, g1.1, fun H1 z hz g2 => ⟨_, rfl, S, D, 10, rfl, divW_of (by decide) (by decide), g2.1, fun H2 v v0 v1 g3 => ⟨by show 3 ≤ sizeLine; decide, fun p hp => ?_⟩⟩⟩
      refine q _ _ (.plain "add" [.s z, .i v]) (((g1.trans g2).trans g3).trans (Go.new g3.1 hp)) (.tup (SqT.of upd_same) (.cons (.str _) (.cons (.str _) (.cons (.int _) .nil)))) ⟨by decide +kernel, by show 2 ≤ 2; decide, fun a ha => ?_⟩ rfl
      simp only [List.mem_cons, List.not_mem_nil, or_false] at ha
      rcases ha with h | h <;> subst h
      · exact hz
      · exact ⟨v0, by show v ≤ 9; omega⟩
    · subst h
      have g0 := Go.refl d
      refine ⟨_, rfl, rfl, _, rfl, ?_⟩
      refine ite2 (fun e => absurd e (by decide +kernel)) (fun _ => ?_)
      refine ⟨_, rfl, by show 2 ≤ sizeLine; decide, fun p0 hp0 => ⟨p0, _, rfl, .inr (SqT.of upd_same), rfl, by decide +kernel, _, rfl, ?_⟩⟩
      have g1 := g0.trans (Go.new (o := .tup [V.str "add", .str "drop"]) g0.1 hp0)
      refine ite2 (fun _ => ?_) (fun e => absurd (by decide +kernel) e)
      refine ⟨_, rfl, _, rfl, S, D, rfl, g1.1, fun H1 z hz g2 => ⟨_, rfl, S, D, 10, rfl, divW_of (by decide) (by decide), g2.1, fun H2 v v0 v1 g3 => ⟨by show 3 ≤ sizeLine; decide, fun p hp => ?_⟩⟩⟩
      refine q _ _ (.plain "drop" [.s z, .i v]) (((g1.trans g2).trans g3).trans (Go.new g3.1 hp)) (.tup (SqT.of upd_same) (.cons (.str _) (.cons (.str _) (.cons (.int _) .nil)))) ⟨by decide +kernel, by show 2 ≤ 2; decide, fun a ha => ?_⟩ rfl
      simp only [List.mem_cons, List.not_mem_nil, or_false] at ha
      rcases ha with h | h <;> subst h
      · exact hz
      · exact ⟨v0, by show v ≤ 9; omega⟩
    · subst h
      have g0 := Go.refl d
      refine ⟨_, rfl, rfl, _, rfl, ?_⟩
      refine ite2 (fun e => absurd e (by decide +kernel)) (fun _ => ?_)
      refine ⟨_, rfl, by show 2 ≤ sizeLine; decide, fun p0 hp0 => ⟨p0, _, rfl, .inr (SqT.of upd_same), rfl, by decide +kernel, _, rfl, ?_⟩⟩
      have g1 := g0.trans (Go.new (o := .tup [V.str "add", .str "drop"]) g0.1 hp0)
      refine ite2 (fun e => absurd e (by decide +kernel)) (fun _ => ?_)
      refine ⟨_, rfl, by show 2 ≤ sizeLine; decide, fun p1 hp1 => ⟨p1, _, rfl, .inr (SqT.of upd_same), rfl, by decide +kernel, _, rfl, ?_⟩⟩
      have g2 := g1.trans (Go.new (o := .tup [V.str "put", .str "take"]) g1.1 hp1)
      refine ite2 (fun _ => ?_) (fun e => absurd (by decide +kernel) e)
      refine ⟨_, rfl, _, rfl, S, D, 9, rfl, by decide, by decide, g2.1, fun H1 n n0 n1 g3 => ?_⟩
      have st := StF.of_draw g3.1
      refine ⟨_, rfl, by omega, by omega, fun L hL => lc_range (lo := 0) (n := n.toNat) (fun j H2 => ∃ ps : List (Str × Int), BL K S D D L H1 H2 dPart ps ∧ ps.length = j ∧ ∀ p ∈ ps, okN p.1 ∧ okI p.2) ⟨[], BL.nil st hL, rfl, fun _ h => absurd h List.not_mem_nil⟩ ?_ ?_⟩
      · rintro j H2 hj ⟨ps, b, pl, po⟩
        refine ⟨rfl, _, rfl, S, D, rfl, b.g.1.dr, fun H3 z hz g4 => ⟨_, rfl, S, D, 10, rfl, divW_of (by decide) (by decide), g4.1, fun H4 v v0 v1 g5 => ⟨by show 2 ≤ sizeLine; decide, fun p hp => ?_⟩⟩⟩
        have b4 := b.go st hL dPart_noL (GoL.of_go b.g.1 ((g4.trans g5).trans (Go.new (o := .tup [V.str z, .int v]) g5.1 hp)))
        obtain ⟨zs, h1, h2, h3⟩ := b4.len
        refine ⟨zs, h1, line6 (by omega), ps ++ [(z, v)], BL.add st hL dPart_noL b4.g h1 h2 (.tup (SqT.of upd_same) (.cons (.str _) (.cons (.int _) .nil))), by rw [List.length_append, List.length_singleton, pl], fun x hx => ?_⟩
        rcases List.mem_append.mp hx with h | h
        · exact po x h
        · rw [List.mem_singleton.mp h]
          exact ⟨hz, v0, by show v ≤ 9; omega⟩
      · rintro H2 ⟨ps, b, pl, po⟩
        obtain ⟨zs, h1, h2⟩ := b.l
        refine ⟨L, zs, rfl, .inl ⟨SqL.of h1, fun l hl => ?_⟩⟩
        have k1 := keepT_new (o := .tup zs) hl
        refine ⟨by show 2 ≤ sizeLine; decide, fun p hp => ?_⟩
        have k2 := keepT_new (o := .tup [V.str "put", .ref l]) hp
        have g6 := (g2.trans g3).trans (b.g.to_go)
        have g7 := g6.trans (Go.new (o := .tup zs) g6.1 hl)
        refine q _ _ (.parts "put" ps) (g7.trans (Go.new g7.1 hp)) (.tup (SqT.of upd_same) (.cons (.str _) (.cons (.tup (sqt_keep k2 (SqT.of upd_same)) (dpA_keep (k1.trans k2) _ _ (noLs_of dPart_noL ps) h2)) .nil))) ⟨by first | exact .inl rfl | exact .inr rfl, by omega, by omega, po⟩ rfl
    · subst h
      have g0 := Go.refl d
      refine ⟨_, rfl, rfl, _, rfl, ?_⟩
      refine ite2 (fun e => absurd e (by decide +kernel)) (fun _ => ?_)
      refine ⟨_, rfl, by show 2 ≤ sizeLine; decide, fun p0 hp0 => ⟨p0, _, rfl, .inr (SqT.of upd_same), rfl, by decide +kernel, _, rfl, ?_⟩⟩
      have g1 := g0.trans (Go.new (o := .tup [V.str "add", .str "drop"]) g0.1 hp0)
      refine ite2 (fun e => absurd e (by decide +kernel)) (fun _ => ?_)
      refine ⟨_, rfl, by show 2 ≤ sizeLine; decide, fun p1 hp1 => ⟨p1, _, rfl, .inr (SqT.of upd_same), rfl, by decide +kernel, _, rfl, ?_⟩⟩
      have g2 := g1.trans (Go.new (o := .tup [V.str "put", .str "take"]) g1.1 hp1)
      refine ite2 (fun _ => ?_) (fun e => absurd (by decide +kernel) e)
      refine ⟨_, rfl, _, rfl, S, D, 9, rfl, by decide, by decide, g2.1, fun H1 n n0 n1 g3 => ?_⟩
      have st := StF.of_draw g3.1
      refine ⟨_, rfl, by omega, by omega, fun L hL => lc_range (lo := 0) (n := n.toNat) (fun j H2 => ∃ ps : List (Str × Int), BL K S D D L H1 H2 dPart ps ∧ ps.length = j ∧ ∀ p ∈ ps, okN p.1 ∧ okI p.2) ⟨[], BL.nil st hL, rfl, fun _ h => absurd h List.not_mem_nil⟩ ?_ ?_⟩
      · rintro j H2 hj ⟨ps, b, pl, po⟩
        refine ⟨rfl, _, rfl, S, D, rfl, b.g.1.dr, fun H3 z hz g4 => ⟨_, rfl, S, D, 10, rfl, divW_of (by decide) (by decide), g4.1, fun H4 v v0 v1 g5 => ⟨by show 2 ≤ sizeLine; decide, fun p hp => ?_⟩⟩⟩
        have b4 := b.go st hL dPart_noL (GoL.of_go b.g.1 ((g4.trans g5).trans (Go.new (o := .tup [V.str z, .int v]) g5.1 hp)))
        obtain ⟨zs, h1, h2, h3⟩ := b4.len
        refine ⟨zs, h1, line6 (by omega), ps ++ [(z, v)], BL.add st hL dPart_noL b4.g h1 h2 (.tup (SqT.of upd_same) (.cons (.str _) (.cons (.int _) .nil))), by rw [List.length_append, List.length_singleton, pl], fun x hx => ?_⟩
        rcases List.mem_append.mp hx with h | h
        · exact po x h
        · rw [List.mem_singleton.mp h]
          exact ⟨hz, v0, by show v ≤ 9; omega⟩
      · rintro H2 ⟨ps, b, pl, po⟩
        obtain ⟨zs, h1, h2⟩ := b.l
        refine ⟨L, zs, rfl, .inl ⟨SqL.of h1, fun l hl => ?_⟩⟩
        have k1 := keepT_new (o := .tup zs) hl
        refine ⟨by show 2 ≤ sizeLine; decide, fun p hp => ?_⟩
        have k2 := keepT_new (o := .tup [V.str "take", .ref l]) hp
        have g6 := (g2.trans g3).trans (b.g.to_go)
        have g7 := g6.trans (Go.new (o := .tup zs) g6.1 hl)
        refine q _ _ (.parts "take" ps) (g7.trans (Go.new g7.1 hp)) (.tup (SqT.of upd_same) (.cons (.str _) (.cons (.tup (sqt_keep k2 (SqT.of upd_same)) (dpA_keep (k1.trans k2) _ _ (noLs_of dPart_noL ps) h2)) .nil))) ⟨by first | exact .inl rfl | exact .inr rfl, by omega, by omega, po⟩ rfl
    · subst h
      have g0 := Go.refl d
      refine ⟨_, rfl, rfl, _, rfl, ?_⟩
      refine ite2 (fun e => absurd e (by decide +kernel)) (fun _ => ?_)
      refine ⟨_, rfl, by show 2 ≤ sizeLine; decide, fun p0 hp0 => ⟨p0, _, rfl, .inr (SqT.of upd_same), rfl, by decide +kernel, _, rfl, ?_⟩⟩
      have g1 := g0.trans (Go.new (o := .tup [V.str "add", .str "drop"]) g0.1 hp0)
      refine ite2 (fun e => absurd e (by decide +kernel)) (fun _ => ?_)
      refine ⟨_, rfl, by show 2 ≤ sizeLine; decide, fun p1 hp1 => ⟨p1, _, rfl, .inr (SqT.of upd_same), rfl, by decide +kernel, _, rfl, ?_⟩⟩
      have g2 := g1.trans (Go.new (o := .tup [V.str "put", .str "take"]) g1.1 hp1)
      refine ite2 (fun e => absurd e (by decide +kernel)) (fun _ => ?_)
      refine ⟨_, rfl, by show 2 ≤ sizeLine; decide, fun p2 hp2 => ⟨p2, _, rfl, .inr (SqT.of upd_same), rfl, by decide +kernel, _, rfl, ?_⟩⟩
      have g3 := g2.trans (Go.new (o := .tup [V.str "stop", .str "end"]) g2.1 hp2)
      refine ite2 (fun e => absurd e (by decide +kernel)) (fun _ => ?_)
      refine ⟨_, rfl, _, rfl, S, D, rfl, g3.1, fun H1 z hz g4 => ⟨by show 2 ≤ sizeLine; decide, fun p hp => ?_⟩⟩
      exact q _ _ (.plain "load" [.s z]) ((g3.trans g4).trans (Go.new g4.1 hp)) (.tup (SqT.of upd_same) (.cons (.str _) (.cons (.str _) .nil))) ⟨by decide +kernel, by show 1 ≤ 2; decide, fun a ha => by rw [List.mem_singleton.mp ha]; exact hz⟩ rfl
    · subst h
      have g0 := Go.refl d
      refine ⟨_, rfl, rfl, _, rfl, ?_⟩
      refine ite2 (fun e => absurd e (by decide +kernel)) (fun _ => ?_)
      refine ⟨_, rfl, by show 2 ≤ sizeLine; decide, fun p0 hp0 => ⟨p0, _, rfl, .inr (SqT.of upd_same), rfl, by decide +kernel, _, rfl, ?_⟩⟩
      have g1 := g0.trans (Go.new (o := .tup [V.str "add", .str "drop"]) g0.1 hp0)
      refine ite2 (fun e => absurd e (by decide +kernel)) (fun _ => ?_)
      refine ⟨_, rfl, by show 2 ≤ sizeLine; decide, fun p1 hp1 => ⟨p1, _, rfl, .inr (SqT.of upd_same), rfl, by decide +kernel, _, rfl, ?_⟩⟩
      have g2 := g1.trans (Go.new (o := .tup [V.str "put", .str "take"]) g1.1 hp1)
      refine ite2 (fun e => absurd e (by decide +kernel)) (fun _ => ?_)
      refine ⟨_, rfl, by show 2 ≤ sizeLine; decide, fun p2 hp2 => ⟨p2, _, rfl, .inr (SqT.of upd_same), rfl, by decide +kernel, _, rfl, ?_⟩⟩
      have g3 := g2.trans (Go.new (o := .tup [V.str "stop", .str "end"]) g2.1 hp2)
      refine ite2 (fun e => absurd e (by decide +kernel)) (fun _ => ?_)
      refine ⟨_, rfl, _, rfl, S, D, rfl, g3.1, fun H1 z hz g4 => ⟨by show 2 ≤ sizeLine; decide, fun p hp => ?_⟩⟩
      exact q _ _ (.plain "unload" [.s z]) ((g3.trans g4).trans (Go.new g4.1 hp)) (.tup (SqT.of upd_same) (.cons (.str _) (.cons (.str _) .nil))) ⟨by decide +kernel, by show 1 ≤ 2; decide, fun a ha => by rw [List.mem_singleton.mp ha]; exact hz⟩ rfl
    · subst h
      have g0 := Go.refl d
      refine ⟨_, rfl, rfl, _, rfl, ?_⟩
      refine ite2 (fun e => absurd e (by decide +kernel)) (fun _ => ?_)
      refine ⟨_, rfl, by show 2 ≤ sizeLine; decide, fun p0 hp0 => ⟨p0, _, rfl, .inr (SqT.of upd_same), rfl, by decide +kernel, _, rfl, ?_⟩⟩
      have g1 := g0.trans (Go.new (o := .tup [V.str "add", .str "drop"]) g0.1 hp0)
      refine ite2 (fun e => absurd e (by decide +kernel)) (fun _ => ?_)
      refine ⟨_, rfl, by show 2 ≤ sizeLine; decide, fun p1 hp1 => ⟨p1, _, rfl, .inr (SqT.of upd_same), rfl, by decide +kernel, _, rfl, ?_⟩⟩
      have g2 := g1.trans (Go.new (o := .tup [V.str "put", .str "take"]) g1.1 hp1)
      refine ite2 (fun e => absurd e (by decide +kernel)) (fun _ => ?_)
      refine ⟨_, rfl, by show 2 ≤ sizeLine; decide, fun p2 hp2 => ⟨p2, _, rfl, .inr (SqT.of upd_same), rfl, by decide +kernel, _, rfl, ?_⟩⟩
      have g3 := g2.trans (Go.new (o := .tup [V.str "stop", .str "end"]) g2.1 hp2)
      refine ite2 (fun e => absurd e (by decide +kernel)) (fun _ => ?_)
      refine ⟨_, rfl, _, rfl, S, D, rfl, g3.1, fun H1 z hz g4 => ⟨by show 2 ≤ sizeLine; decide, fun p hp => ?_⟩⟩
      exact q _ _ (.plain "interrupt" [.s z]) ((g3.trans g4).trans (Go.new g4.1 hp)) (.tup (SqT.of upd_same) (.cons (.str _) (.cons (.str _) .nil))) ⟨by decide +kernel, by show 1 ≤ 2; decide, fun a ha => by rw [List.mem_singleton.mp ha]; exact hz⟩ rfl
    · subst h
      have g0 := Go.refl d
      refine ⟨_, rfl, rfl, _, rfl, ?_⟩
      refine ite2 (fun e => absurd e (by decide +kernel)) (fun _ => ?_)
      refine ⟨_, rfl, by show 2 ≤ sizeLine; decide, fun p0 hp0 => ⟨p0, _, rfl, .inr (SqT.of upd_same), rfl, by decide +kernel, _, rfl, ?_⟩⟩
      have g1 := g0.trans (Go.new (o := .tup [V.str "add", .str "drop"]) g0.1 hp0)
      refine ite2 (fun e => absurd e (by decide +kernel)) (fun _ => ?_)
      refine ⟨_, rfl, by show 2 ≤ sizeLine; decide, fun p1 hp1 => ⟨p1, _, rfl, .inr (SqT.of upd_same), rfl, by decide +kernel, _, rfl, ?_⟩⟩
      have g2 := g1.trans (Go.new (o := .tup [V.str "put", .str "take"]) g1.1 hp1)
      refine ite2 (fun e => absurd e (by decide +kernel)) (fun _ => ?_)
      refine ⟨_, rfl, by show 2 ≤ sizeLine; decide, fun p2 hp2 => ⟨p2, _, rfl, .inr (SqT.of upd_same), rfl, by decide +kernel, _, rfl, ?_⟩⟩
      have g3 := g2.trans (Go.new (o := .tup [V.str "stop", .str "end"]) g2.1 hp2)
      refine ite2 (fun _ => ?_) (fun e => absurd (by decide +kernel) e)
      refine ⟨_, rfl, by show 1 ≤ sizeLine; decide, fun p hp => ?_⟩
      exact q _ _ (.plain "stop" []) (g3.trans (Go.new g3.1 hp)) (.tup (SqT.of upd_same) (.cons (.str _) .nil)) ⟨by decide +kernel, by show 0 ≤ 2; decide, fun a ha => absurd ha List.not_mem_nil⟩ rfl
    · subst h
      have g0 := Go.refl d
      refine ⟨_, rfl, rfl, _, rfl, ?_⟩
      refine ite2 (fun e => absurd e (by decide +kernel)) (fun _ => ?_)
      refine ⟨_, rfl, by show 2 ≤ sizeLine; decide, fun p0 hp0 => ⟨p0, _, rfl, .inr (SqT.of upd_same), rfl, by decide +kernel, _, rfl, ?_⟩⟩
      have g1 := g0.trans (Go.new (o := .tup [V.str "add", .str "drop"]) g0.1 hp0)
      refine ite2 (fun e => absurd e (by decide +kernel)) (fun _ => ?_)
      refine ⟨_, rfl, by show 2 ≤ sizeLine; decide, fun p1 hp1 => ⟨p1, _, rfl, .inr (SqT.of upd_same), rfl, by decide +kernel, _, rfl, ?_⟩⟩
      have g2 := g1.trans (Go.new (o := .tup [V.str "put", .str "take"]) g1.1 hp1)
      refine ite2 (fun e => absurd e (by decide +kernel)) (fun _ => ?_)
      refine ⟨_, rfl, by show 2 ≤ sizeLine; decide, fun p2 hp2 => ⟨p2, _, rfl, .inr (SqT.of upd_same), rfl, by decide +kernel, _, rfl, ?_⟩⟩
      have g3 := g2.trans (Go.new (o := .tup [V.str "stop", .str "end"]) g2.1 hp2)
      refine ite2 (fun _ => ?_) (fun e => absurd (by decide +kernel) e)
      refine ⟨_, rfl, by show 1 ≤ sizeLine; decide, fun p hp => ?_⟩
      exact q _ _ (.plain "end" []) (g3.trans (Go.new g3.1 hp)) (.tup (SqT.of upd_same) (.cons (.str _) .nil)) ⟨by decide +kernel, by show 0 ≤ 2; decide, fun a ha => absurd ha List.not_mem_nil⟩ rfl
end
end Mt
namespace Mt
open PySem PySem.Spec PyProof.Rows L2
theorem body_noL {n : Nat} (b : Bd n) : noL (dB n b) = true := dB_noL n b
theorem arm_noL (n : Nat) (a : List Int × Bd n) : noL (dArm (dB n) a) = true := by
  show (noLs (a.1.map PyData.int) && (noL (dB n a.2) && true)) = true
  rw [noLs_map PyData.int a.1 fun _ _ => rfl, dB_noL]
  rfl
/-- what a body that is drawn tells -/
def GiveB (K : PySem.W.Frag) (S D F : Addr) (c : Int) (H : Hp) (Q : VK) {α : Type} (dat : α → PyData) (cnt : α → Nat) (ok : α → Prop) (e : Int) : Prop :=
  ∀ (H' : Hp) (v : V) (b : α) (c' : Int), GoL S D F H H' → H' F = some (.lst [.int c']) → 0 ≤ c' → (cnt b : Int) + c' ≤ c + e → Dp K H' v (dat b) → ok b → Q v H'
def cArms {n : Nat} (l : List (List Int × Bd n)) : Nat := (l.map fun a => cB n a.2).sum
def dArms {n : Nat} (l : List (List Int × Bd n)) : PyData := .tuple (l.map (dArm (dB n)))
def okArm {n : Nat} (a : List Int × Bd n) : Prop := 0 < a.1.length ∧ a.1.length ≤ 6 ∧ (∀ i ∈ a.1, okI i) ∧ okB n a.2
def okArms {n : Nat} (l : List (List Int × Bd n)) : Prop := l.length ≤ 6 ∧ ∀ a ∈ l, okArm a
def spTB (K : PySem.W.Frag) (k n : Nat) : Sp := fun vs H Q _ => ∃ (S D F : Addr) (c : Int), vs = [.ref D, .ref F, .int (k : Int)] ∧ StF S D F H ∧ F ≠ D ∧ H F = some (.lst [.int c]) ∧ 0 ≤ c ∧ c ≤ 100 ∧ GiveB K S D F c H Q (dB n) (cB n) (okB n) 0
def spArms (K : PySem.W.Frag) (k n : Nat) : Sp := fun vs H Q _ => ∃ (S D F : Addr) (c : Int), vs = [.ref D, .ref F, .int (k : Int)] ∧ StF S D F H ∧ F ≠ D ∧ H F = some (.lst [.int c]) ∧ 0 ≤ c ∧ c ≤ 100 ∧ GiveB K S D F c H Q (dArms (n := n)) cArms okArms 0
def spNest (K : PySem.W.Frag) (k n : Nat) : Sp := fun vs H Q _ => 2 ≤ k ∧ ∃ (S D F : Addr) (c : Int) (wd : Str), vs = [.ref D, .str wd, .ref F, .int (k : Int)] ∧ wd ∈ NEST ∧ StF S D F H ∧ F ≠ D ∧ H F = some (.lst [.int c]) ∧ 0 ≤ c ∧ c ≤ 100 ∧ GiveB K S D F c H Q (dS (dB n)) (cS (cB n)) (okS (okB n)) 1
section
variable {P : Program} {w : World} {K : PySem.W.Frag} {mg : Str → Option Value} {base : Heap}
theorem ok_tarms {k n : Nat} (T : Txt K mg) (D__law_draw : Kept P w K mg base 1 "_law_draw" ["d", "many"] spDraw) (D__law_small : Kept P w K mg base 3 "_law_small" ["d", "most"] spSmall)
    (D__law_t_body : Kept P w K mg base (2 * k + 6) "_law_t_body" ["d", "left", "depth"] (spTB K k n)) {f : Addr} {fd : FuncData} (F : FnP K "_law_t_arms" s__law_t_arms f fd) :
    FnOk P w K mg base CX0 (2 * k + 7) f fd ["d", "left", "depth"] (spArms K k n) := by
  refine F.ok sc__law_t_arms (fun vs H Q E h => ?_) (fun cdv A outer s H vs Q E hr h => ?_)
  · obtain ⟨S, D, F, c, rfl, _⟩ := h
    rfl
  · obtain ⟨S, D, F, c, rfl, st, nD, hF, c0, c1, q⟩ := h
    refine ⟨_, PSs.nox (pss_cons (ps_set (i := 3) sc__law_t_arms.nd rfl (Or.inl rfl) (pe_lst pa_nil))
      (pss_cons (ps_for PassesOwn.never rfl (pi_range1 (by rfl) T.b_range (pa_cons (pe_d D__law_small (hr.mono (by omega)) (by rfl) (pa_cons (pv 0) (pa_cons pe_int pa_nil))) pa_nil)) (pg_name (i := 4) sc__law_t_arms.nd rfl (Or.inl rfl)) (pss_cons (ps_set (i := 5) sc__law_t_arms.nd rfl (Or.inl rfl) (pe_callTy call_tuple_of (by rfl) T.b_tuple (by decide +kernel) (pa_cons (pe_lc (own := [("j", 6)]) (g := (gName 6)) (tt := tYes) rfl sc__law_t_arms.nd (pi_range1 (by rfl) T.b_range (pa_cons (pe_d D__law_small (hr.mono (by omega)) (by rfl) (pa_cons (pv 0) (pa_cons pe_int pa_nil))) pa_nil)) (blkOk_by (N := N__law_t_arms) (sc := defScope s__law_t_arms) (by decide +kernel)) (fun _ _ _ _ _ => (pg_name (i := 6) sc__law_t_arms.nd rfl (Or.inl rfl))) (fun _ _ _ _ _ => pts_nil) (fun _ _ _ _ _ => (pe_d D__law_draw (hr.mono (by omega)) (by rfl) (pa_cons (pv 0) (pa_cons pe_int pa_nil))))) pa_nil)))
      (pss_one (ps_expr (pe_bm PySem.F.plainAttrs_list PySem.F.slot_list_append PySem.F.type_list_append mt_append (pv 3) (pa_cons (pe_tup (pa_cons (pv 5) (pa_cons (pe_d D__law_t_body (hr.mono (by omega)) (by rfl) (pa_cons (pv 0) (pa_cons (pv 1) (pa_cons (pv 2) pa_nil)))) pa_nil))) pa_nil))))))
      (pss_one (ps_ret (pe_callTy call_tuple_of (by rfl) T.b_tuple (by decide +kernel) (pa_cons (pv 3) pa_nil)))))), ?_⟩
    refine ⟨Nat.zero_le _, fun L hL => ?_⟩
    obtain ⟨lD, lS, lF⟩ := st.free hL
    have b0 : BL K S D F L H (upd H L (.lst [])) (dArm (dB n)) [] := BL.nil st hL
    have hF0 : (upd H L (.lst [])) F = some (.lst [.int c]) := by
      rw [upd_ne lF.symm]
      exact hF
    refine ⟨_, rfl, S, D, 6, rfl, by decide, by decide, b0.g.1.dr, fun H1 m m0 m1 g1 => ?_⟩
    refine ⟨_, rfl, by omega, by omega, for_range (lo := 0) (n := m.toNat) (fun i σ H' => ∃ (y4 y5 : Option V) (as : List (List Int × Bd n)) (c' : Int), σ = [some (.ref D), some (.ref F), some (.int (k : Int)), some (.ref L), y4, y5, none] ∧ BL K S D F L H H' (dArm (dB n)) as ∧ H' F = some (.lst [.int c']) ∧ 0 ≤ c' ∧ (cArms as : Int) + c' ≤ c ∧ as.length = i ∧ ∀ a ∈ as, okArm a) ⟨_, _, [], c, rfl, b0.go st hL (arm_noL n) (GoL.of_go b0.g.1 g1), g1.2 F _ hF0 nD, c0, by show (0 : Int) + c ≤ c; omega, rfl, fun _ h => absurd h List.not_mem_nil⟩ ?_ ?_⟩
    · rintro i σ H2 hi ⟨y4, y5, as, c', rfl, b, hF2, k0, k1, al, ao⟩
      -- the digits
      refine ⟨_, rfl, S, D, 6, rfl, by decide, by decide, b.g.1.dr, fun H3 m m0 m1 g3 => ?_⟩
      have st3 := StF.of_draw g3.1
      refine ⟨_, rfl, by omega, by omega, fun L2 hL2 => lc_range (lo := 0) (n := m.toNat) (fun j H4 => ∃ ds : List Int, BL K S D D L2 H3 H4 PyData.int ds ∧ ds.length = j ∧ ∀ x ∈ ds, okI x) ⟨[], BL.nil st3 hL2, rfl, fun _ h => absurd h List.not_mem_nil⟩ ?_ ?_⟩
      · rintro j H4 hj ⟨ds, b4, dl, do_⟩
        refine ⟨rfl, _, rfl, S, D, 10, rfl, divW_of (by decide) (by decide), b4.g.1.dr, fun H5 v v0 v1 g5 => ?_⟩
        have b5 := b4.go st3 hL2 int_noL (GoL.of_go b4.g.1 g5)
        obtain ⟨zs, h1, h2, h3⟩ := b5.len
        refine ⟨zs, h1, line6 (by omega), ds ++ [v], BL.add st3 hL2 int_noL b5.g h1 h2 (.int _), by rw [List.length_append, List.length_singleton, dl], fun x hx => ?_⟩
        rcases List.mem_append.mp hx with h | h
        · exact do_ x h
        · rw [List.mem_singleton.mp h]
          exact ⟨v0, by show v ≤ 9; omega⟩
      · rintro H4 ⟨ds, b4, dl, do_⟩
        obtain ⟨zs, h1, h2⟩ := b4.l
        refine ⟨L2, zs, rfl, .inl ⟨SqL.of h1, fun l hl => ?_⟩⟩
        have g24 := g3.trans b4.g.to_go
        have g25 := g24.trans (Go.new (o := .tup zs) g24.1 hl)
        have b5 := b.go st hL (arm_noL n) (GoL.of_go b.g.1 g25)
        have hF5 := g25.2 F _ hF2 nD
        have hdig : Dp K _ (.ref l) (.tuple (ds.map PyData.int)) := .tup (SqT.of (upd_same (a := l) (o := .tup zs))) (dpA_keep (keepT_new (o := .tup zs) hl) _ _ (noLs_of int_noL ds) h2)
        have hBL := b5.len
        obtain ⟨ys, hy1, hy2, hy3⟩ := hBL
        refine ⟨_, rfl, .inl ⟨rfl, _, SqL.of hy1⟩, _, rfl, _, rfl, _, rfl, _, rfl, S, D, F, c', rfl, b5.g.1, nD, hF5, k0, by omega, fun H6 v bb c6 g6 hF6 c60 c61 hv okb => ?_⟩
        refine ⟨by show 2 ≤ sizeLine; decide, fun p hp => ?_⟩
        have b6 := b5.go st hL (arm_noL n) (g6.trans (GoL.new (o := .tup [V.ref l, v]) g6.1 hp))
        obtain ⟨xs, hx1, hx2, hx3⟩ := b6.len
        have kk := (GoL.keepT b5.g.1 g6).trans (keepT_new (o := .tup [V.ref l, v]) hp)
        have harm : Dp K _ (.ref p) (dArm (dB n) (ds, bb)) := .tup (SqT.of (upd_same (a := p) (o := .tup [V.ref l, v]))) (.cons (dp_keep kk _ _ (noLs_of int_noL ds) hdig) (.cons (dp_keep (keepT_new (o := .tup [V.ref l, v]) hp) _ _ (dB_noL n bb) hv) .nil))
        refine ⟨L, xs, _, rfl, rfl, hx1, line6 (by omega), ?_⟩
        refine ⟨_, _, as ++ [(ds, bb)], c6, rfl, BL.add st hL (arm_noL n) b6.g hx1 hx2 harm, ?_, c60, ?_, by rw [List.length_append, List.length_singleton, al], fun x hx => ?_⟩
        · have pF := (g6.1.free hp).2.2
          rw [upd_ne lF.symm, upd_ne pF.symm]
          exact hF6
        · have e : cArms (as ++ [(ds, bb)]) = cArms as + cB n bb := by
            unfold cArms
            rw [List.map_append, List.sum_append]
            rfl
          rw [e]
          omega
        · rcases List.mem_append.mp hx with h | h
          · exact ao x h
          · rw [List.mem_singleton.mp h]
            exact ⟨by show 0 < ds.length; omega, by show ds.length ≤ 6; omega, do_, okb⟩
    · rintro σ H2 ⟨y4, y5, as, c', rfl, b, hF2, k0, k1, al, ao⟩
      obtain ⟨zs, h1, h2⟩ := b.l
      refine ⟨_, rfl, L, zs, rfl, .inl ⟨SqL.of h1, fun l hl => ?_⟩⟩
      have lF2 := (b.g.1.free hl).2.2
      exact q _ _ as c' (b.g.trans (GoL.new b.g.1 hl)) (by rw [upd_ne lF2.symm]; exact hF2) k0 (by omega) (.tup (SqT.of upd_same) (dpA_keep (keepT_new hl) _ _ (noLs_of (arm_noL n) as) h2)) ⟨by omega, ao⟩
end
end Mt
namespace Mt
open PySem PySem.Spec PyProof.Rows L2
theorem gauge_ok : (["free", "queue", "store", "belt", "counter"] : List Str).all (fun z => decide (z.length ≤ 9) && !inV (.str z) (BRACE.map V.str)) = true := by decide +kernel
theorem emp_dp {K : PySem.W.Frag} {H : Hp} {e : Addr} {n : Nat} (h : H e = some (.tup [])) : Dp K H (.ref e) (dB (n + 1) (show Bd (n + 1) from ([] : List (S1 (Bd n))))) := .tup (SqT.of h) .nil
section
variable {P : Program} {w : World} {K : PySem.W.Frag} {mg : Str → Option Value} {base : Heap}
theorem ok_tnest0 {k n : Nat} (hk : k < 2) {f : Addr} {fd : FuncData} (F : FnP K "_law_t_nest" s__law_t_nest f fd) :
    FnOk P w K mg base CX0 (2 * k + 5) f fd ["d", "word", "left", "depth"] (spNest K k n) := by
  refine F.ok sc__law_t_nest (fun vs H Q E h => ?_) (fun cdv A outer s H vs Q E hr h => ?_)
  · obtain ⟨h, _⟩ := h
    omega
  · obtain ⟨h, _⟩ := h
    omega
theorem ok_tnest {j i : Nat} (T : Txt K mg) (D__law_draw : Kept P w K mg base 1 "_law_draw" ["d", "many"] spDraw) (D__law_pick : Kept P w K mg base 2 "_law_pick" ["d", "row"] (spPick K)) (D__law_word : Kept P w K mg base 4 "_law_word" ["d"] spWord)
    (D__law_t_arms : Kept P w K mg base (2 * j + 7) "_law_t_arms" ["d", "left", "depth"] (spArms K j (i + 1))) (D__law_t_body : Kept P w K mg base (2 * (j + 1) + 6) "_law_t_body" ["d", "left", "depth"] (spTB K (j + 1) (i + 1)))
    {f : Addr} {fd : FuncData} (F : FnP K "_law_t_nest" s__law_t_nest f fd) : FnOk P w K mg base CX0 (2 * (j + 2) + 5) f fd ["d", "word", "left", "depth"] (spNest K (j + 2) (i + 1)) := by
  refine F.ok sc__law_t_nest (fun vs H Q E h => ?_) (fun cdv A outer s H vs Q E hr h => ?_)
  · obtain ⟨_, S, D, F, c, wd, rfl, _⟩ := h
    rfl
  · obtain ⟨_, S, D, F, c, wd, rfl, hw, st, nD, hF, c0, c1, q⟩ := h
    refine ⟨_, PSs.nox (pss_cons (ps_if (pt_cmpR op_eq (pv 1) pe_str (nomark _)) (pss_cons (ps_set (i := 4) sc__law_t_nest.nd rfl (Or.inl rfl) (pe_d D__law_word (hr.mono (by omega)) (by rfl) (pa_cons (pv 0) pa_nil)))
      (pss_one (ps_ret (pe_tup (pa_cons (pv 1) (pa_cons (pv 4) (pa_cons (pe_d D__law_t_arms (hr.mono (by omega)) (by rfl) (pa_cons (pv 0) (pa_cons (pv 2) (pa_cons (pe_op op_sub (pv 3) pe_int) pa_nil)))) pa_nil))))))) pss_nil)
      (pss_cons (ps_if (pt_cmpR op_eq (pv 1) pe_str (nomark _)) (pss_cons (ps_set (i := 4) sc__law_t_nest.nd rfl (Or.inl rfl) (pe_d D__law_word (hr.mono (by omega)) (by rfl) (pa_cons (pv 0) pa_nil)))
      (pss_cons (ps_set (i := 5) sc__law_t_nest.nd rfl (Or.inl rfl) (pe_d D__law_draw (hr.mono (by omega)) (by rfl) (pa_cons (pv 0) (pa_cons pe_int pa_nil))))
      (pss_cons (ps_set (i := 6) sc__law_t_nest.nd rfl (Or.inl rfl) (pe_d D__law_t_body (hr.mono (by omega)) (by rfl) (pa_cons (pv 0) (pa_cons (pv 2) (pa_cons (pe_op op_sub (pv 3) pe_int) pa_nil)))))
      (pss_cons (ps_if (pt_cmpR op_eq (pe_d D__law_draw (hr.mono (by omega)) (by rfl) (pa_cons (pv 0) (pa_cons pe_int pa_nil))) pe_int (nomark _)) (pss_one (ps_ret (pe_tup (pa_cons (pv 1) (pa_cons (pv 4) (pa_cons (pv 5) (pa_cons pe_non (pa_cons (pv 6) (pa_cons (pe_tup pa_nil) pa_nil))))))))) pss_nil)
      (pss_cons (ps_set (i := 7) sc__law_t_nest.nd rfl (Or.inl rfl) (pe_d D__law_draw (hr.mono (by omega)) (by rfl) (pa_cons (pv 0) (pa_cons pe_int pa_nil))))
      (pss_one (ps_ret (pe_tup (pa_cons (pv 1) (pa_cons (pv 4) (pa_cons (pv 5) (pa_cons (pv 7) (pa_cons (pv 6) (pa_cons (pe_d D__law_t_body (hr.mono (by omega)) (by rfl) (pa_cons (pv 0) (pa_cons (pv 2) (pa_cons (pe_op op_sub (pv 3) pe_int) pa_nil)))) pa_nil)))))))))))))) pss_nil)
      (pss_cons (ps_if (pt_cmpR op_eq (pv 1) pe_str (nomark _)) (pss_cons (ps_set (i := 8) sc__law_t_nest.nd rfl (Or.inl rfl) (pe_d D__law_pick (hr.mono (by omega)) (by rfl) (pa_cons (pv 0) (pa_cons (pe_lst (pa_cons pe_str (pa_cons pe_str (pa_cons pe_str (pa_cons pe_str (pa_cons pe_str pa_nil)))))) pa_nil))))
      (pss_cons (ps_set (i := 4) sc__law_t_nest.nd rfl (Or.inl rfl) (pe_d D__law_word (hr.mono (by omega)) (by rfl) (pa_cons (pv 0) pa_nil)))
      (pss_cons (ps_set (i := 9) sc__law_t_nest.nd rfl (Or.inl rfl) (pe_d D__law_draw (hr.mono (by omega)) (by rfl) (pa_cons (pv 0) (pa_cons pe_int pa_nil))))
      (pss_cons (ps_set (i := 6) sc__law_t_nest.nd rfl (Or.inl rfl) (pe_d D__law_t_body (hr.mono (by omega)) (by rfl) (pa_cons (pv 0) (pa_cons (pv 2) (pa_cons (pe_op op_sub (pv 3) pe_int) pa_nil)))))
      (pss_one (ps_ret (pe_tup (pa_cons (pv 1) (pa_cons (pv 8) (pa_cons (pv 4) (pa_cons (pv 9) (pa_cons (pv 6) (pa_cons (pe_d D__law_t_body (hr.mono (by omega)) (by rfl) (pa_cons (pv 0) (pa_cons (pv 2) (pa_cons (pe_op op_sub (pv 3) pe_int) pa_nil)))) pa_nil))))))))))))) pss_nil)
      (pss_cons (ps_if (pt_cmpR op_eq (pv 1) pe_str (nomark _)) (pss_cons (ps_set (i := 9) sc__law_t_nest.nd rfl (Or.inl rfl) (pe_d D__law_draw (hr.mono (by omega)) (by rfl) (pa_cons (pv 0) (pa_cons pe_int pa_nil))))
      (pss_one (ps_ret (pe_tup (pa_cons (pv 1) (pa_cons (pv 9) (pa_cons (pe_d D__law_t_body (hr.mono (by omega)) (by rfl) (pa_cons (pv 0) (pa_cons (pv 2) (pa_cons (pe_op op_sub (pv 3) pe_int) pa_nil)))) pa_nil))))))) pss_nil)
      (pss_cons (ps_set (i := 6) sc__law_t_nest.nd rfl (Or.inl rfl) (pe_d D__law_t_body (hr.mono (by omega)) (by rfl) (pa_cons (pv 0) (pa_cons (pv 2) (pa_cons (pe_op op_sub (pv 3) pe_int) pa_nil)))))
      (pss_one (ps_ret (pe_tup (pa_cons (pv 1) (pa_cons (pv 6) (pa_cons (pe_d D__law_t_body (hr.mono (by omega)) (by rfl) (pa_cons (pv 0) (pa_cons (pv 2) (pa_cons (pe_op op_sub (pv 3) pe_int) pa_nil)))) pa_nil))))))))))), ?_⟩
    have eq1 : [V.ref D, .ref F, .int (((j + 2 : Nat) : Int) - 1)] = [V.ref D, .ref F, .int ((j + 1 : Nat) : Int)] := by rw [show ((j + 2 : Nat) : Int) - 1 = ((j + 1 : Nat) : Int) by omega]
    have eq2 : [V.ref D, .ref F, .int (((j + 2 : Nat) : Int) - 2)] = [V.ref D, .ref F, .int (j : Int)] := by rw [show ((j + 2 : Nat) : Int) - 2 = (j : Int) by omega]
    have hw2 : wd ∈ (["draw", "use", "if", "loop", "guard"] : List Str) := hw
    simp only [List.mem_cons, List.not_mem_nil, or_false] at hw2
    rcases hw2 with h | h | h | h | h
    · subst h
      refine ⟨_, rfl, rfl, _, rfl, ?_⟩
      refine ite2 (fun _ => ?_) (fun e => absurd (by decide +kernel) e)
      refine ⟨_, rfl, S, D, rfl, st.dr, fun H1 nm hnm g1 => ?_⟩
      have a1 := GoL.of_go st g1
      refine ⟨_, rfl, _, rfl, _, rfl, _, rfl, _, rfl, _, _, rfl, rfl, S, D, F, c, eq2, a1.1, nD, g1.2 F _ hF nD, c0, c1, fun H2 v arms c2 g2 hF2 k0 k1 hv oka => ?_⟩
      refine ⟨by show 3 ≤ sizeLine; decide, fun p hp => ?_⟩
      have pF := (g2.1.free hp).2.2
      refine q _ _ (.draw nm arms) c2 ((a1.trans g2).trans (GoL.new g2.1 hp)) (by rw [upd_ne pF.symm]; exact hF2) k0 ?_ (.tup (SqT.of upd_same) (.cons (.str _) (.cons (.str _) (.cons (dp_keep (keepT_new hp) _ _ ?_ hv) .nil)))) ⟨hnm, oka⟩
      · show ((1 + cArms arms : Nat) : Int) + c2 ≤ c + 1
        omega
      · exact noLs_of (arm_noL (i + 1)) arms
    · subst h
      refine ⟨_, rfl, rfl, _, rfl, ?_⟩
      refine ite2 (fun e => absurd e (by decide +kernel)) (fun _ => ?_)
      refine ⟨_, rfl, rfl, _, rfl, ?_⟩
      refine ite2 (fun _ => ?_) (fun e => absurd (by decide +kernel) e)
      refine ⟨_, rfl, S, D, rfl, st.dr, fun H1 nm hnm g1 => ?_⟩
      refine ⟨_, rfl, S, D, 10, rfl, divW_of (by decide) (by decide), g1.1, fun H2 r r0 r1 g2 => ?_⟩
      have a2 := GoL.of_go st (g1.trans g2)
      refine ⟨_, rfl, _, rfl, _, rfl, _, _, rfl, rfl, S, D, F, c, eq1, a2.1, nD, (g1.trans g2).2 F _ hF nD, c0, c1, fun H3 v b c3 g3 hF3 k0 k1 hv okb => ?_⟩
      refine ⟨_, rfl, S, D, 2, rfl, divW_of (by decide) (by decide), g3.1.dr, fun H4 x _ _ g4 => ⟨rfl, _, rfl, ?_⟩⟩
      have a4 := GoL.of_go g3.1 g4
      have hF4 := g4.2 F _ hF3 nD
      have hv4 := dp_keep (GoL.keepT g3.1 a4) _ _ (dB_noL _ b) hv
      refine ite2 (fun _ => ?_) (fun _ => ?_)
      · refine ⟨_, rfl, _, rfl, _, rfl, _, rfl, Nat.zero_le _, fun e he => ⟨by show 6 ≤ sizeLine; decide, fun p hp => ?_⟩⟩
        have a5 := GoL.new (o := .tup []) a4.1 he
        have pF := (a5.1.free hp).2.2
        have eF := (a4.1.free he).2.2
        refine q _ _ (.use nm r none b (show Bd (i + 1) from ([] : List (S1 (Bd i))))) c3 ((((a2.trans g3).trans a4).trans a5).trans (GoL.new a5.1 hp)) (by rw [upd_ne pF.symm, upd_ne eF.symm]; exact hF4) k0 ?_
          (.tup (SqT.of upd_same) (.cons (.str _) (.cons (.str _) (.cons (.int _) (.cons .non (.cons (dp_keep ((keepT_new he).trans (keepT_new hp)) _ _ (dB_noL _ b) hv4) (.cons (dp_keep (keepT_new hp) _ _ (dB_noL _ _) (emp_dp (n := i) upd_same)) .nil))))))) ⟨hnm, ⟨r0, by show r ≤ 9; omega⟩, fun _ h => (by cases h), okb, fun _ h => absurd h List.not_mem_nil⟩
        show ((1 + cB (i + 1) b + 0 : Nat) : Int) + c3 ≤ c + 1
        omega
      · refine ⟨_, rfl, S, D, 10, rfl, divW_of (by decide) (by decide), g4.1, fun H5 t t0 t1 g5 => ?_⟩
        have a5 := GoL.of_go a4.1 g5
        have hF5 := g5.2 F _ hF4 nD
        have hv5 := dp_keep (GoL.keepT a4.1 a5) _ _ (dB_noL _ b) hv4
        refine ⟨_, rfl, _, rfl, _, rfl, _, rfl, _, rfl, _, rfl, _, rfl, _, rfl, _, _, rfl, rfl, S, D, F, c3, eq1, a5.1, nD, hF5, k0, by omega, fun H6 v2 b2 c6 g6 hF6 k60 k61 hv2 okb2 => ?_⟩
        refine ⟨by show 6 ≤ sizeLine; decide, fun p hp => ?_⟩
        have pF := (g6.1.free hp).2.2
        refine q _ _ (.use nm r (some t) b b2) c6 (((((a2.trans g3).trans a4).trans a5).trans g6).trans (GoL.new g6.1 hp)) (by rw [upd_ne pF.symm]; exact hF6) k60 ?_
          (.tup (SqT.of upd_same) (.cons (.str _) (.cons (.str _) (.cons (.int _) (.cons (.int _) (.cons (dp_keep ((GoL.keepT a5.1 g6).trans (keepT_new hp)) _ _ (dB_noL _ b) hv5) (.cons (dp_keep (keepT_new hp) _ _ (dB_noL _ b2) hv2) .nil))))))) ⟨hnm, ⟨r0, by show r ≤ 9; omega⟩, fun x h => (by cases h; exact ⟨t0, by show t ≤ 9; omega⟩), okb, okb2⟩
        show ((1 + cB (i + 1) b + cB (i + 1) b2 : Nat) : Int) + c6 ≤ c + 1
        omega
    · subst h
      refine ⟨_, rfl, rfl, _, rfl, ?_⟩
      refine ite2 (fun e => absurd e (by decide +kernel)) (fun _ => ?_)
      refine ⟨_, rfl, rfl, _, rfl, ?_⟩
      refine ite2 (fun e => absurd e (by decide +kernel)) (fun _ => ?_)
      refine ⟨_, rfl, rfl, _, rfl, ?_⟩
      refine ite2 (fun _ => ?_) (fun e => absurd (by decide +kernel) e)
      refine ⟨_, rfl, by show 5 ≤ sizeLine; decide, fun L hL => ?_⟩
      have an := GoL.new (o := .lst ((["free", "queue", "store", "belt", "counter"] : List Str).map V.str)) st hL
      have lD := (st.free hL).1
      have lF := (st.free hL).2.2
      refine ⟨S, D, _, (["free", "queue", "store", "belt", "counter"] : List Str).map V.str, rfl, an.1.dr, fun H' g => .inr ⟨L, rfl, SqL.of (g.2 _ _ upd_same lD)⟩, by decide, by decide, fun H0 x hx g0 => ?_⟩
      obtain ⟨ga, hga, rfl⟩ := List.mem_map.mp hx
      have okg : okN ga := by
        have := List.all_eq_true.mp gauge_ok ga hga
        rw [Bool.and_eq_true] at this
        exact ⟨of_decide_eq_true this.1, by simpa using this.2⟩
      have a0 := an.trans (GoL.of_go an.1 g0)
      have hF0 := g0.2 F _ (show (upd H L _) F = some (.lst [.int c]) by rw [upd_ne lF.symm]; exact hF) nD
      refine ⟨_, rfl, S, D, rfl, g0.1, fun H1 nm hnm g1 => ?_⟩
      refine ⟨_, rfl, S, D, 10, rfl, divW_of (by decide) (by decide), g1.1, fun H2 r r0 r1 g2 => ?_⟩
      have a2 := a0.trans (GoL.of_go a0.1 (g1.trans g2))
      refine ⟨_, rfl, _, rfl, _, rfl, _, _, rfl, rfl, S, D, F, c, eq1, a2.1, nD, (g1.trans g2).2 F _ hF0 nD, c0, c1, fun H3 v b c3 g3 hF3 k0 k1 hv okb => ?_⟩
      refine ⟨_, rfl, _, rfl, _, rfl, _, rfl, _, rfl, _, rfl, _, rfl, _, rfl, _, _, rfl, rfl, S, D, F, c3, eq1, g3.1, nD, hF3, k0, by omega, fun H6 v2 b2 c6 g6 hF6 k60 k61 hv2 okb2 => ?_⟩
      refine ⟨by show 6 ≤ sizeLine; decide, fun p hp => ?_⟩
      have pF := (g6.1.free hp).2.2
      refine q _ _ (.iff ga nm r b b2) c6 (((a2.trans g3).trans g6).trans (GoL.new g6.1 hp)) (by rw [upd_ne pF.symm]; exact hF6) k60 ?_
        (.tup (SqT.of upd_same) (.cons (.str _) (.cons (.str _) (.cons (.str _) (.cons (.int _) (.cons (dp_keep ((GoL.keepT g3.1 g6).trans (keepT_new hp)) _ _ (dB_noL _ b) hv) (.cons (dp_keep (keepT_new hp) _ _ (dB_noL _ b2) hv2) .nil))))))) ⟨okg, hnm, ⟨r0, by show r ≤ 9; omega⟩, okb, okb2⟩
      show ((1 + cB (i + 1) b + cB (i + 1) b2 : Nat) : Int) + c6 ≤ c + 1
      omega
    · subst h
      refine ⟨_, rfl, rfl, _, rfl, ?_⟩
      refine ite2 (fun e => absurd e (by decide +kernel)) (fun _ => ?_)
      refine ⟨_, rfl, rfl, _, rfl, ?_⟩
      refine ite2 (fun e => absurd e (by decide +kernel)) (fun _ => ?_)
      refine ⟨_, rfl, rfl, _, rfl, ?_⟩
      refine ite2 (fun e => absurd e (by decide +kernel)) (fun _ => ?_)
      refine ⟨_, rfl, rfl, _, rfl, ?_⟩
      refine ite2 (fun _ => ?_) (fun e => absurd (by decide +kernel) e)
      refine ⟨_, rfl, S, D, 10, rfl, divW_of (by decide) (by decide), st.dr, fun H2 r r0 r1 g2 => ?_⟩
      have a2 := GoL.of_go st g2
      refine ⟨_, rfl, _, rfl, _, rfl, _, rfl, _, rfl, _, _, rfl, rfl, S, D, F, c, eq1, a2.1, nD, g2.2 F _ hF nD, c0, c1, fun H3 v b c3 g3 hF3 k0 k1 hv okb => ?_⟩
      refine ⟨by show 3 ≤ sizeLine; decide, fun p hp => ?_⟩
      have pF := (g3.1.free hp).2.2
      refine q _ _ (.loop r b) c3 ((a2.trans g3).trans (GoL.new g3.1 hp)) (by rw [upd_ne pF.symm]; exact hF3) k0 ?_
        (.tup (SqT.of upd_same) (.cons (.str _) (.cons (.int _) (.cons (dp_keep (keepT_new hp) _ _ (dB_noL _ b) hv) .nil)))) ⟨⟨r0, by show r ≤ 9; omega⟩, okb⟩
      show ((1 + cB (i + 1) b : Nat) : Int) + c3 ≤ c + 1
      omega
    · subst h
      refine ⟨_, rfl, rfl, _, rfl, ?_⟩
      refine ite2 (fun e => absurd e (by decide +kernel)) (fun _ => ?_)
      refine ⟨_, rfl, rfl, _, rfl, ?_⟩
      refine ite2 (fun e => absurd e (by decide +kernel)) (fun _ => ?_)
      refine ⟨_, rfl, rfl, _, rfl, ?_⟩
      refine ite2 (fun e => absurd e (by decide +kernel)) (fun _ => ?_)
      refine ⟨_, rfl, rfl, _, rfl, ?_⟩
      refine ite2 (fun e => absurd e (by decide +kernel)) (fun _ => ?_)
      refine ⟨_, rfl, _, rfl, _, rfl, _, _, rfl, rfl, S, D, F, c, eq1, st, nD, hF, c0, c1, fun H3 v b c3 g3 hF3 k0 k1 hv okb => ?_⟩
      refine ⟨_, rfl, _, rfl, _, rfl, _, rfl, _, rfl, _, _, rfl, rfl, S, D, F, c3, eq1, g3.1, nD, hF3, k0, by omega, fun H6 v2 b2 c6 g6 hF6 k60 k61 hv2 okb2 => ?_⟩
      refine ⟨by show 3 ≤ sizeLine; decide, fun p hp => ?_⟩
      have pF := (g6.1.free hp).2.2
      refine q _ _ (.guard b b2) c6 ((g3.trans g6).trans (GoL.new g6.1 hp)) (by rw [upd_ne pF.symm]; exact hF6) k60 ?_
        (.tup (SqT.of upd_same) (.cons (.str _) (.cons (dp_keep ((GoL.keepT g3.1 g6).trans (keepT_new hp)) _ _ (dB_noL _ b) hv) (.cons (dp_keep (keepT_new hp) _ _ (dB_noL _ b2) hv2) .nil)))) ⟨okb, okb2⟩
      show ((1 + cB (i + 1) b + cB (i + 1) b2 : Nat) : Int) + c6 ≤ c + 1
      omega
end
end Mt
namespace Mt
open PySem PySem.Spec PyProof.Rows L2
section
variable {P : Program} {w : World} {K : PySem.W.Frag} {mg : Str → Option Value} {base : Heap}
theorem menu_no : MENU.all (fun w => !inV (.str w) (NEST.map V.str)) = true := by decide +kernel
theorem nest_yes : NEST.all (fun w => inV (.str w) (NEST.map V.str)) = true := by decide +kernel
theorem ok_tbody {k m : Nat} (T : Txt K mg) (D__law_draw : Kept P w K mg base 1 "_law_draw" ["d", "many"] spDraw) (D__law_pick : Kept P w K mg base 2 "_law_pick" ["d", "row"] (spPick K)) (D__law_t_plain : Kept P w K mg base 5 "_law_t_plain" ["d", "word"] (spPlain K m))
    (D__law_t_nest : Kept P w K mg base (2 * k + 5) "_law_t_nest" ["d", "word", "left", "depth"] (spNest K k m))
    {f : Addr} {fd : FuncData} (F : FnP K "_law_t_body" s__law_t_body f fd) : FnOk P w K mg base CX0 (2 * k + 6) f fd ["d", "left", "depth"] (spTB K k (m + 1)) := by
  refine F.ok sc__law_t_body (fun vs H Q E h => ?_) (fun cdv A outer s H vs Q E hr h => ?_)
  · obtain ⟨S, D, F, c, rfl, _⟩ := h
    rfl
  · obtain ⟨S, D, F, c, rfl, st, nD, hF, c0, c1, q⟩ := h
    refine ⟨_, PSs.nox (pss_cons (ps_set (i := 3) sc__law_t_body.nd rfl (Or.inl rfl) (pe_lst (pa_cons pe_str (pa_cons pe_str (pa_cons pe_str (pa_cons pe_str (pa_cons pe_str (pa_cons pe_str (pa_cons pe_str (pa_cons pe_str (pa_cons pe_str (pa_cons pe_str (pa_cons pe_str pa_nil)))))))))))))
      (Evl.pss_cut (ps_if (pt_cmpR op_ge (pv 2) pe_int (nomark _)) (pss_one (ps_set (i := 3) sc__law_t_body.nd rfl (Or.inl rfl) (pe_op op_cat (pv 3) (pe_lst (pa_cons pe_str (pa_cons pe_str (pa_cons pe_str (pa_cons pe_str (pa_cons pe_str (pa_cons pe_str (pa_cons pe_str (pa_cons pe_str pa_nil)))))))))))) pss_nil)
      (pss_cons (ps_set (i := 4) sc__law_t_body.nd rfl (Or.inl rfl) (pe_lst pa_nil))
      (pss_cons (ps_for PassesOwn.never rfl (pi_range1 (by rfl) T.b_range (pa_cons (pe_d D__law_draw (hr.mono (by omega)) (by rfl) (pa_cons (pv 0) (pa_cons pe_int pa_nil))) pa_nil)) (pg_name (i := 5) sc__law_t_body.nd rfl (Or.inl rfl)) (pss_one (ps_if (pt_cmpR op_gt (pe_ix ix_list (pv 1) pe_int (fun _ _ => rfl)) pe_int (nomark _)) (pss_cons (ps_augS (pv 1) pe_int get_list pe_int ip_sub set_list)
      (pss_cons (ps_set (i := 6) sc__law_t_body.nd rfl (Or.inl rfl) (pe_d D__law_pick (hr.mono (by omega)) (by rfl) (pa_cons (pv 0) (pa_cons (pv 3) pa_nil))))
      (pss_one (ps_if (pt_cmpR op_in_seq (pv 6) (pe_tup (pa_cons pe_str (pa_cons pe_str (pa_cons pe_str (pa_cons pe_str (pa_cons pe_str pa_nil)))))) (by rfl)) (pss_one (ps_expr (pe_bm PySem.F.plainAttrs_list PySem.F.slot_list_append PySem.F.type_list_append mt_append (pv 4) (pa_cons (pe_d D__law_t_nest (hr.mono (by omega)) (by rfl) (pa_cons (pv 0) (pa_cons (pv 6) (pa_cons (pv 1) (pa_cons (pv 2) pa_nil))))) pa_nil)))) (pss_one (ps_expr (pe_bm PySem.F.plainAttrs_list PySem.F.slot_list_append PySem.F.type_list_append mt_append (pv 4) (pa_cons (pe_d D__law_t_plain (hr.mono (by omega)) (by rfl) (pa_cons (pv 0) (pa_cons (pv 6) pa_nil))) pa_nil)))))))) pss_nil)))
      (pss_one (ps_ret (pe_callTy call_tuple_of (by rfl) T.b_tuple (by decide +kernel) (pa_cons (pv 4) pa_nil)))))))), ?_⟩
    refine ⟨by show 11 ≤ sizeLine; decide, fun M hM => ?_⟩
    have a1 := GoL.new (o := .lst (MENU.map V.str)) st hM
    have mD := (st.free hM).1
    have mF := (st.free hM).2.2
    have hF1 : (upd H M (.lst (MENU.map V.str))) F = some (.lst [.int c]) := by rw [upd_ne mF.symm]; exact hF
    refine ⟨fun σ' H' => ∃ (M : Addr) (ws : List Str), σ' = [some (.ref D), some (.ref F), some (.int (k : Int)), some (.ref M), none, none, none] ∧ GoL S D F H H' ∧ M ≠ D ∧ M ≠ F ∧ H' M = some (.lst (ws.map V.str)) ∧ H' F = some (.lst [.int c]) ∧ 0 < ws.length ∧ ws.length ≤ 19 ∧ ∀ z ∈ ws, z ∈ MENU ∨ (2 ≤ k ∧ z ∈ NEST), ?_, ?_⟩
    · refine ⟨_, rfl, _, _, rfl, rfl, _, rfl, ?_⟩
      refine ite2 (fun e => ?_) (fun e => ?_)
      · have k2 : 2 ≤ k := by
          have : (2 : Int) ≤ (k : Int) := of_decide_eq_true e
          omega
        refine ⟨_, rfl, by show 8 ≤ sizeLine; decide, fun M2 hM2 => ?_⟩
        have a2 := GoL.new (o := .lst ((["draw", "use", "if", "loop", "guard", "draw", "use", "if"] : List Str).map V.str)) a1.1 hM2
        have n2 := a1.1.free hM2
        have hM1 : (upd H M (.lst (MENU.map V.str))) M = some (.lst (MENU.map V.str)) := upd_same
        refine ⟨M, M2, _, _, rfl, rfl, a2.2 _ _ hM1 mD mF, upd_same, by decide, fun M3 hM3 => ?_⟩
        have n3 := a2.1.free hM3
        refine ⟨M3, MENU ++ (["draw", "use", "if", "loop", "guard", "draw", "use", "if"] : List Str), rfl, (a1.trans a2).trans (GoL.new a2.1 hM3), n3.1, n3.2.2, ?_, ?_, by decide, by decide, fun z hz => ?_⟩
        · rw [upd_same, List.map_append]
          rfl
        · rw [upd_ne n3.2.2.symm, upd_ne n2.2.2.symm]
          exact hF1
        · rcases List.mem_append.mp hz with h | h
          · exact .inl h
          · refine .inr ⟨k2, ?_⟩
            simp only [List.mem_cons, List.not_mem_nil, or_false] at h
            rcases h with h | h | h | h | h | h | h | h <;> subst h <;> decide +kernel
      · exact ⟨M, MENU, rfl, a1, mD, mF, upd_same, hF1, by decide, by decide, fun z hz => .inl hz⟩
    · rintro σ' H1 ⟨M, ws, rfl, a1, mD, mF, hM, hF1, w0, w1, wo⟩
      refine ⟨Nat.zero_le _, fun B hB => ?_⟩
      have st1 := a1.1
      obtain ⟨bD, bS, bF⟩ := st1.free hB
      have bb0 : BL K S D F B H1 (upd H1 B (.lst [])) (dS (dB m)) [] := BL.nil st1 hB
      have hF2 : (upd H1 B (.lst [])) F = some (.lst [.int c]) := by rw [upd_ne bF.symm]; exact hF1
      refine ⟨_, rfl, S, D, 4, rfl, divW_of (by decide) (by decide), bb0.g.1.dr, fun H2 v v0 v1 g2 => ?_⟩
      refine ⟨_, rfl, by omega, by omega, for_range (lo := 0) (n := v.toNat) (fun i σ H' => ∃ (y5 y6 : Option V) (ss : List (S1 (Bd m))) (c' : Int), σ = [some (.ref D), some (.ref F), some (.int (k : Int)), some (.ref M), some (.ref B), y5, y6] ∧ BL K S D F B H1 H' (dS (dB m)) ss ∧ H' F = some (.lst [.int c']) ∧ 0 ≤ c' ∧ ((ss.map (cS (cB m))).sum : Int) + c' ≤ c ∧ ss.length ≤ i ∧ ∀ s ∈ ss, okS (okB m) s) ⟨_, _, [], c, rfl, bb0.go st1 hB (dS_noL (dB_noL m)) (GoL.of_go bb0.g.1 g2), g2.2 F _ hF2 nD, c0, by show (0 : Int) + c ≤ c; omega, Nat.le_refl _, fun _ h => absurd h List.not_mem_nil⟩ ?_ ?_⟩
      · rintro i σ H3 hi ⟨y5, y6, ss, c3, rfl, b, hF3, k0, k1, sl, so⟩
        have hM3 := b.g.2 _ _ hM mD mF
        refine ⟨_, rfl, F, _, _, _, rfl, rfl, SqL.of hF3, atI_nat (j := 0) rfl, _, _, rfl, rfl, _, rfl, ?_⟩
        refine ite2 (fun e => ?_) (fun e => ?_)
        · have e0 : 0 < c3 := of_decide_eq_true e
          refine ⟨_, rfl, F, _, _, _, rfl, rfl, SqL.of hF3, atI_nat (j := 0) rfl, ?_⟩
          refine ⟨_, _, rfl, rfl, F, _, _, 0, rfl, rfl, hF3, rfl, ?_⟩
          have a4 : GoL S D F H3 (upd H3 F (.lst [.int (c3 - 1)])) := GoL.setF nD (GoL.refl b.g.1)
          have hF4 : (upd H3 F (.lst [.int (c3 - 1)])) F = some (.lst [.int (c3 - 1)]) := upd_same
          have hM4 := a4.2 _ _ hM3 mD mF
          refine ⟨_, rfl, _, rfl, S, D, _, ws.map V.str, rfl, a4.1.dr, fun H' g => .inr ⟨M, rfl, SqL.of (g.2 _ _ hM4 mD)⟩, by rw [List.length_map]; omega, by rw [List.length_map]; omega, fun H5 x hx g5 => ?_⟩
          obtain ⟨wd, hwd, rfl⟩ := List.mem_map.mp hx
          have a5 := a4.trans (GoL.of_go a4.1 g5)
          have hF5 := g5.2 F _ hF4 nD
          refine ⟨_, rfl, by show 5 ≤ sizeLine; decide, fun p hp => ⟨p, NEST.map V.str, rfl, .inr (SqT.of upd_same), rfl, by decide +kernel, _, rfl, ?_⟩⟩
          have a6 := a5.trans (GoL.new (o := .tup (NEST.map V.str)) a5.1 hp)
          have pF := (a5.1.free hp).2.2
          have hF6 : (upd H5 p (.tup (NEST.map V.str))) F = some (.lst [.int (c3 - 1)]) := by rw [upd_ne pF.symm]; exact hF5
          have b6 := b.go st1 hB (dS_noL (dB_noL m)) a6
          obtain ⟨zs6, hz6, _, _⟩ := b6.len
          refine ite2 (fun e => ?_) (fun e => ?_)
          · have hn : 2 ≤ k ∧ wd ∈ NEST := by
              rcases wo wd hwd with h | h
              · have h1 := List.all_eq_true.mp menu_no wd h
                have h2 : inV (.str wd) (NEST.map V.str) = true := e
                rw [h2] at h1
                cases h1
              · exact h
            refine ⟨_, rfl, .inl ⟨rfl, _, SqL.of hz6⟩, _, rfl, _, rfl, _, rfl, _, rfl, hn.1, S, D, F, c3 - 1, wd, rfl, hn.2, a6.1, nD, hF6, by omega, by omega, fun H7 x s c7 g7 hF7 c70 c71 hv oks => ?_⟩
            have b7 := b6.go st1 hB (dS_noL (dB_noL m)) g7
            obtain ⟨zs, h1, h2, h3⟩ := b7.len
            refine ⟨B, zs, _, rfl, rfl, h1, line6 (by omega), ?_⟩
            refine ⟨_, _, ss ++ [s], c7, rfl, BL.add st1 hB (dS_noL (dB_noL m)) b7.g h1 h2 hv, by rw [upd_ne bF.symm]; exact hF7, c70, ?_, by rw [List.length_append, List.length_singleton]; omega, fun x hx => ?_⟩
            · rw [List.map_append, List.sum_append]
              have e2 : ((List.map (cS (cB m)) [s]).sum) = cS (cB m) s := by
                show cS (cB m) s + 0 = _
                omega
              rw [e2]
              omega
            · rcases List.mem_append.mp hx with h | h
              · exact so x h
              · rw [List.mem_singleton.mp h]
                exact oks
          · have hn : wd ∈ MENU := by
              rcases wo wd hwd with h | h
              · exact h
              · have h1 := List.all_eq_true.mp nest_yes wd h.2
                exact absurd h1 e
            refine ⟨_, rfl, .inl ⟨rfl, _, SqL.of hz6⟩, _, rfl, _, rfl, S, D, wd, rfl, hn, a6.1.dr, fun H7 x s g7 hv oks hcs => ?_⟩
            have b7 := b6.go st1 hB (dS_noL (dB_noL m)) (GoL.of_go a6.1 g7)
            obtain ⟨zs, h1, h2, h3⟩ := b7.len
            refine ⟨B, zs, _, rfl, rfl, h1, line6 (by omega), ?_⟩
            refine ⟨_, _, ss ++ [s], c3 - 1, rfl, BL.add st1 hB (dS_noL (dB_noL m)) b7.g h1 h2 hv, by rw [upd_ne bF.symm]; exact g7.2 F _ hF6 nD, by omega, ?_, by rw [List.length_append, List.length_singleton]; omega, fun x hx => ?_⟩
            · rw [List.map_append, List.sum_append]
              have e2 : ((List.map (cS (cB m)) [s]).sum) = cS (cB m) s := by
                show cS (cB m) s + 0 = _
                omega
              rw [e2, hcs]
              omega
            · rcases List.mem_append.mp hx with h | h
              · exact so x h
              · rw [List.mem_singleton.mp h]
                exact oks
        · exact ⟨_, _, ss, c3, rfl, b, hF3, k0, k1, Nat.le_succ_of_le sl, so⟩
      · rintro σ H3 ⟨y5, y6, ss, c3, rfl, b, hF3, k0, k1, sl, so⟩
        obtain ⟨zs, h1, h2⟩ := b.l
        refine ⟨_, rfl, B, zs, rfl, .inl ⟨SqL.of h1, fun l hl => ?_⟩⟩
        have lF2 := (b.g.1.free hl).2.2
        refine q _ _ (show Bd (m + 1) from ss) c3 ((a1.trans b.g).trans (GoL.new b.g.1 hl)) (by rw [upd_ne lF2.symm]; exact hF3) k0 ?_ (.tup (SqT.of upd_same) (dpA_keep (keepT_new hl) _ _ (noLs_of (dS_noL (dB_noL m)) ss) h2)) so
        show ((ss.map (cS (cB m))).sum : Int) + c3 ≤ c + 0
        omega
end
end Mt
namespace Mt
open PySem PySem.Spec PyProof.Rows L2
theorem dSpan_noL (p : Int × Int) : noL (dSpan p) = true := rfl
theorem str_noL (p : Str) : noL (.str p) = true := rfl
theorem GoL.drop {S D F : Addr} {H H' : Hp} (g : GoL S D F H H') (h : H F = none) : Go S D H H' := ⟨g.1.dr, fun b o hb n => g.2 b o hb n (ne_of_none hb h)⟩
def spItemD (K : PySem.W.Frag) : Sp := fun vs H Q _ => ∃ (S D : Addr), vs = [.ref D] ∧ DrawAt S D H ∧ ∀ (H' : Hp) (v : V) (i : It), Go S D H H' → Dp K H' v (dI i) → okIt i → Q v H'
def spTM (K : PySem.W.Frag) : Sp := fun vs H Q _ => ∃ (S D : Addr), vs = [.ref D, .int 14, .int 6] ∧ DrawAt S D H ∧ ∀ (H' : Hp) (v : V) (m : Mdl 7), Go S D H H' → Dp K H' v (dM m) → okM m → Q v H'
section
variable {P : Program} {w : World} {K : PySem.W.Frag} {mg : Str → Option Value} {base : Heap}
theorem ok_titem (T : Txt K mg) (D__law_draw : Kept P w K mg base 1 "_law_draw" ["d", "many"] spDraw) (D__law_pick : Kept P w K mg base 2 "_law_pick" ["d", "row"] (spPick K)) (D__law_small : Kept P w K mg base 3 "_law_small" ["d", "most"] spSmall) (D__law_word : Kept P w K mg base 4 "_law_word" ["d"] spWord)
    {f : Addr} {fd : FuncData} (F : FnP K "_law_t_item" s__law_t_item f fd) : FnOk P w K mg base CX0 5 f fd ["d"] (spItemD K) := by
  refine F.ok sc__law_t_item (fun vs H Q E h => ?_) (fun cdv A outer s H vs Q E hr h => ?_)
  · obtain ⟨S, D, rfl, _⟩ := h
    rfl
  · obtain ⟨S, D, rfl, d, q⟩ := h
    refine ⟨_, PSs.nox (pss_cons (ps_set (i := 1) sc__law_t_item.nd rfl (Or.inl rfl) (pe_d D__law_pick (hr.mono (by decide)) (by rfl) (pa_cons (pv 0) (pa_cons (pe_lst (pa_cons pe_str (pa_cons pe_str (pa_cons pe_str (pa_cons pe_str pa_nil))))) pa_nil))))
      (pss_cons (ps_set (i := 2) sc__law_t_item.nd rfl (Or.inl rfl) (pe_d D__law_word (hr.mono (by decide)) (by rfl) (pa_cons (pv 0) pa_nil)))
      (pss_cons (ps_if (pt_cmpR op_eq (pv 1) pe_str (nomark _)) (pss_one (ps_ret (pe_tup (pa_cons (pv 1) (pa_cons (pv 2) (pa_cons (pe_callTy call_tuple_of (by rfl) T.b_tuple (by decide +kernel) (pa_cons (pe_lc (own := [("k", 3)]) (g := (gName 3)) (tt := tYes) rfl sc__law_t_item.nd (pi_range1 (by rfl) T.b_range (pa_cons (pe_d D__law_small (hr.mono (by decide)) (by rfl) (pa_cons (pv 0) (pa_cons pe_int pa_nil))) pa_nil)) (blkOk_by (N := N__law_t_item) (sc := defScope s__law_t_item) (by decide +kernel)) (fun _ _ _ _ _ => (pg_name (i := 3) sc__law_t_item.nd rfl (Or.inl rfl))) (fun _ _ _ _ _ => pts_nil) (fun _ _ _ _ _ => (pe_tup (pa_cons (pe_d D__law_draw (hr.mono (by decide)) (by rfl) (pa_cons (pv 0) (pa_cons pe_int pa_nil))) (pa_cons (pe_d D__law_draw (hr.mono (by decide)) (by rfl) (pa_cons (pv 0) (pa_cons pe_int pa_nil))) pa_nil))))) pa_nil)) pa_nil)))))) pss_nil)
      (pss_cons (ps_if (PW.pt (pw_and (pt_cmpR op_eq (pv 1) pe_str (nomark _)) (pw_and1 (pt_cmpR op_eq (pe_d D__law_draw (hr.mono (by decide)) (by rfl) (pa_cons (pv 0) (pa_cons pe_int pa_nil))) pe_int (nomark _))))) (pss_one (ps_ret (pe_tup (pa_cons (pv 1) (pa_cons (pv 2) (pa_cons (pe_d D__law_draw (hr.mono (by decide)) (by rfl) (pa_cons (pv 0) (pa_cons pe_int pa_nil))) (pa_cons pe_non pa_nil))))))) pss_nil)
      (pss_one (ps_ret (pe_tup (pa_cons (pv 1) (pa_cons (pv 2) (pa_cons (pe_d D__law_draw (hr.mono (by decide)) (by rfl) (pa_cons (pv 0) (pa_cons pe_int pa_nil))) (pa_cons (pe_d D__law_draw (hr.mono (by decide)) (by rfl) (pa_cons (pv 0) (pa_cons pe_int pa_nil))) pa_nil))))))))))), ?_⟩
    refine ⟨_, rfl, by show 4 ≤ sizeLine; decide, fun L hL => ?_⟩
    have an := Go.new (o := .lst ((["resource", "store", "belt", "counter"] : List Str).map V.str)) d hL
    have lD := (d.free hL).1
    refine ⟨S, D, _, (["resource", "store", "belt", "counter"] : List Str).map V.str, rfl, an.1, fun H' g => .inr ⟨L, rfl, SqL.of (g.2 _ _ upd_same lD)⟩, by decide, by decide, fun H0 x hx g0 => ?_⟩
    obtain ⟨wd, hwd, rfl⟩ := List.mem_map.mp hx
    have a0 := an.trans g0
    refine ⟨_, rfl, S, D, rfl, g0.1, fun H1 nm hnm g1 => ?_⟩
    have a1 := a0.trans g1
    simp only [List.mem_cons, List.not_mem_nil, or_false] at hwd
    rcases hwd with h | h | h | h
    · subst h
      refine ⟨_, rfl, rfl, _, rfl, ?_⟩
      refine ite2 (fun _ => ?_) (fun e => absurd (by decide +kernel) e)
      refine ⟨_, rfl, _, rfl, _, rfl, S, D, 6, rfl, by decide, by decide, a1.1, fun H3 n n0 n1 g3 => ?_⟩
      have st := StF.of_draw g3.1
      refine ⟨_, rfl, by omega, by omega, fun L hL => lc_range (lo := 0) (n := n.toNat) (fun j H2 => ∃ ps : List (Int × Int), BL K S D D L H3 H2 dSpan ps ∧ ps.length = j ∧ ∀ p ∈ ps, okI p.1 ∧ okI p.2) ⟨[], BL.nil st hL, rfl, fun _ h => absurd h List.not_mem_nil⟩ ?_ ?_⟩
      · rintro j H2 hj ⟨ps, b, pl, po⟩
        refine ⟨rfl, _, rfl, S, D, 10, rfl, divW_of (by decide) (by decide), b.g.1.dr, fun H4 u u0 u1 g4 => ⟨_, rfl, S, D, 10, rfl, divW_of (by decide) (by decide), g4.1, fun H5 v v0 v1 g5 => ⟨by show 2 ≤ sizeLine; decide, fun p hp => ?_⟩⟩⟩
        have b4 := b.go st hL dSpan_noL (GoL.of_go b.g.1 ((g4.trans g5).trans (Go.new (o := .tup [V.int u, .int v]) g5.1 hp)))
        obtain ⟨zs, h1, h2, h3⟩ := b4.len
        refine ⟨zs, h1, line6 (by omega), ps ++ [(u, v)], BL.add st hL dSpan_noL b4.g h1 h2 (.tup (SqT.of upd_same) (.cons (.int _) (.cons (.int _) .nil))), by rw [List.length_append, List.length_singleton, pl], fun x hx => ?_⟩
        rcases List.mem_append.mp hx with h | h
        · exact po x h
        · rw [List.mem_singleton.mp h]
          exact ⟨⟨u0, by show u ≤ 9; omega⟩, v0, by show v ≤ 9; omega⟩
      · rintro H2 ⟨ps, b, pl, po⟩
        obtain ⟨zs, h1, h2⟩ := b.l
        refine ⟨L, zs, rfl, .inl ⟨SqL.of h1, fun l hl => ?_⟩⟩
        have k1 := keepT_new (o := .tup zs) hl
        refine ⟨by show 3 ≤ sizeLine; decide, fun p hp => ?_⟩
        have k2 := keepT_new (o := .tup [V.str "resource", .str nm, .ref l]) hp
        have g6 := (a1.trans g3).trans (b.g.to_go)
        have g7 := g6.trans (Go.new (o := .tup zs) g6.1 hl)
        exact q _ _ (.res nm ps) (g7.trans (Go.new g7.1 hp)) (.tup (SqT.of upd_same) (.cons (.str _) (.cons (.str _) (.cons (.tup (sqt_keep k2 (SqT.of upd_same)) (dpA_keep (k1.trans k2) _ _ (noLs_of dSpan_noL ps) h2)) .nil)))) ⟨hnm, by omega, by omega, po⟩
    · subst h
      refine ⟨_, rfl, rfl, _, rfl, ?_⟩
      refine ite2 (fun e => absurd e (by decide +kernel)) (fun _ => ?_)
      refine ⟨_, rfl, rfl, _, rfl, ?_⟩
      refine ite2 (fun e => absurd e (by decide +kernel)) (fun _ => ?_)
      refine ite2 (fun e => absurd e Bool.false_ne_true) (fun _ => ?_)
      refine ⟨_, rfl, _, rfl, _, rfl, S, D, 10, rfl, divW_of (by decide) (by decide), a1.1, fun H3 l l0 l1 g3 => ?_⟩
      refine ⟨_, rfl, S, D, 10, rfl, divW_of (by decide) (by decide), g3.1, fun H4 r r0 r1 g4 => ⟨by show 4 ≤ sizeLine; decide, fun p hp => ?_⟩⟩
      have a4 := (a1.trans g3).trans g4
      exact q _ _ (.two "store" nm l r) (a4.trans (Go.new a4.1 hp)) (.tup (SqT.of upd_same) (.cons (.str _) (.cons (.str _) (.cons (.int _) (.cons (.int _) .nil))))) ⟨by first | exact .inl rfl | exact .inr rfl, hnm, ⟨l0, by show l ≤ 9; omega⟩, ⟨r0, by show r ≤ 9; omega⟩⟩
    · subst h
      refine ⟨_, rfl, rfl, _, rfl, ?_⟩
      refine ite2 (fun e => absurd e (by decide +kernel)) (fun _ => ?_)
      refine ⟨_, rfl, rfl, _, rfl, ?_⟩
      refine ite2 (fun _ => ?_) (fun e => absurd (by decide +kernel) e)
      refine ⟨_, rfl, S, D, 2, rfl, divW_of (by decide) (by decide), a1.1, fun H2 x _ _ g2 => ⟨rfl, _, rfl, ?_⟩⟩
      have a2 := a1.trans g2
      refine ite2 (fun _ => ?_) (fun _ => ?_)
      · refine ⟨_, rfl, _, rfl, _, rfl, S, D, 10, rfl, divW_of (by decide) (by decide), a2.1, fun H3 l l0 l1 g3 => ⟨by show 4 ≤ sizeLine; decide, fun p hp => ?_⟩⟩
        have a4 := a2.trans g3
        exact q _ _ (.belt nm l none) (a4.trans (Go.new a4.1 hp)) (.tup (SqT.of upd_same) (.cons (.str _) (.cons (.str _) (.cons (.int _) (.cons .non .nil))))) ⟨hnm, ⟨l0, by show l ≤ 9; omega⟩, fun _ h => (by cases h)⟩
      · skip
        refine ⟨_, rfl, _, rfl, _, rfl, S, D, 10, rfl, divW_of (by decide) (by decide), a2.1, fun H3 l l0 l1 g3 => ?_⟩
        refine ⟨_, rfl, S, D, 10, rfl, divW_of (by decide) (by decide), g3.1, fun H4 r r0 r1 g4 => ⟨by show 4 ≤ sizeLine; decide, fun p hp => ?_⟩⟩
        have a4 := (a2.trans g3).trans g4
        exact q _ _ (.belt nm l (some r)) (a4.trans (Go.new a4.1 hp)) (.tup (SqT.of upd_same) (.cons (.str _) (.cons (.str _) (.cons (.int _) (.cons (.int _) .nil))))) ⟨hnm, ⟨l0, by show l ≤ 9; omega⟩, fun x h => (by cases h; exact ⟨r0, by show r ≤ 9; omega⟩)⟩
    · subst h
      refine ⟨_, rfl, rfl, _, rfl, ?_⟩
      refine ite2 (fun e => absurd e (by decide +kernel)) (fun _ => ?_)
      refine ⟨_, rfl, rfl, _, rfl, ?_⟩
      refine ite2 (fun e => absurd e (by decide +kernel)) (fun _ => ?_)
      refine ite2 (fun e => absurd e Bool.false_ne_true) (fun _ => ?_)
      refine ⟨_, rfl, _, rfl, _, rfl, S, D, 10, rfl, divW_of (by decide) (by decide), a1.1, fun H3 l l0 l1 g3 => ?_⟩
      refine ⟨_, rfl, S, D, 10, rfl, divW_of (by decide) (by decide), g3.1, fun H4 r r0 r1 g4 => ⟨by show 4 ≤ sizeLine; decide, fun p hp => ?_⟩⟩
      have a4 := (a1.trans g3).trans g4
      exact q _ _ (.two "counter" nm l r) (a4.trans (Go.new a4.1 hp)) (.tup (SqT.of upd_same) (.cons (.str _) (.cons (.str _) (.cons (.int _) (.cons (.int _) .nil))))) ⟨by first | exact .inl rfl | exact .inr rfl, hnm, ⟨l0, by show l ≤ 9; omega⟩, ⟨r0, by show r ≤ 9; omega⟩⟩
theorem ok_tmodel (T : Txt K mg) (D__law_draw : Kept P w K mg base 1 "_law_draw" ["d", "many"] spDraw) (D__law_word : Kept P w K mg base 4 "_law_word" ["d"] spWord) (D__law_t_item : Kept P w K mg base 5 "_law_t_item" ["d"] (spItemD K))
    (D__law_t_body : Kept P w K mg base (2 * 6 + 6) "_law_t_body" ["d", "left", "depth"] (spTB K 6 7)) {f : Addr} {fd : FuncData} (F : FnP K "_law_t_model" s__law_t_model f fd) :
    FnOk P w K mg base CX0 19 f fd ["d", "most", "depth"] (spTM K) := by
  refine F.ok sc__law_t_model (fun vs H Q E h => ?_) (fun cdv A outer s H vs Q E hr h => ?_)
  · obtain ⟨S, D, rfl, _⟩ := h
    rfl
  · obtain ⟨S, D, rfl, d, q⟩ := h
    refine ⟨_, PSs.nox (pss_cons (ps_set (i := 3) sc__law_t_model.nd rfl (Or.inl rfl) (pe_d D__law_draw (hr.mono (by omega)) (by rfl) (pa_cons (pv 0) (pa_cons pe_int pa_nil))))
      (pss_cons (ps_set (i := 4) sc__law_t_model.nd rfl (Or.inl rfl) (pe_callTy call_tuple_of (by rfl) T.b_tuple (by decide +kernel) (pa_cons (pe_lc (own := [("k", 5)]) (g := (gName 5)) (tt := tYes) rfl sc__law_t_model.nd (pi_range1 (by rfl) T.b_range (pa_cons (pe_d D__law_draw (hr.mono (by omega)) (by rfl) (pa_cons (pv 0) (pa_cons pe_int pa_nil))) pa_nil)) (blkOk_by (N := N__law_t_model) (sc := defScope s__law_t_model) (by decide +kernel)) (fun _ _ _ _ _ => (pg_name (i := 5) sc__law_t_model.nd rfl (Or.inl rfl))) (fun _ _ _ _ _ => pts_nil) (fun _ _ _ _ _ => (pe_d D__law_word (hr.mono (by omega)) (by rfl) (pa_cons (pv 0) pa_nil)))) pa_nil)))
      (pss_cons (ps_set (i := 6) sc__law_t_model.nd rfl (Or.inl rfl) (pe_callTy call_tuple_of (by rfl) T.b_tuple (by decide +kernel) (pa_cons (pe_lc (own := [("k", 5)]) (g := (gName 5)) (tt := tYes) rfl sc__law_t_model.nd (pi_range1 (by rfl) T.b_range (pa_cons (pe_d D__law_draw (hr.mono (by omega)) (by rfl) (pa_cons (pv 0) (pa_cons pe_int pa_nil))) pa_nil)) (blkOk_by (N := N__law_t_model) (sc := defScope s__law_t_model) (by decide +kernel)) (fun _ _ _ _ _ => (pg_name (i := 5) sc__law_t_model.nd rfl (Or.inl rfl))) (fun _ _ _ _ _ => pts_nil) (fun _ _ _ _ _ => (pe_d D__law_t_item (hr.mono (by omega)) (by rfl) (pa_cons (pv 0) pa_nil)))) pa_nil)))
      (pss_cons (ps_set (i := 7) sc__law_t_model.nd rfl (Or.inl rfl) (pe_lst (pa_cons (pe_d D__law_draw (hr.mono (by omega)) (by rfl) (pa_cons (pv 0) (pa_cons (pe_op op_add (pv 1) pe_int) pa_nil))) pa_nil)))
      (pss_cons (ps_set (i := 8) sc__law_t_model.nd rfl (Or.inl rfl) (pe_lst pa_nil))
      (pss_cons (ps_for PassesOwn.never rfl (pi_range1 (by rfl) T.b_range (pa_cons (pe_d D__law_draw (hr.mono (by omega)) (by rfl) (pa_cons (pv 0) (pa_cons pe_int pa_nil))) pa_nil)) (pg_name (i := 5) sc__law_t_model.nd rfl (Or.inl rfl)) (pss_cons (ps_set (i := 9) sc__law_t_model.nd rfl (Or.inl rfl) (pe_d D__law_word (hr.mono (by omega)) (by rfl) (pa_cons (pv 0) pa_nil)))
      (pss_cons (ps_set (i := 10) sc__law_t_model.nd rfl (Or.inl rfl) (pe_d D__law_draw (hr.mono (by omega)) (by rfl) (pa_cons (pv 0) (pa_cons pe_int pa_nil))))
      (pss_cons (ps_set (i := 11) sc__law_t_model.nd rfl (Or.inl rfl) (pe_d D__law_t_body (hr.mono (by omega)) (by rfl) (pa_cons (pv 0) (pa_cons (pv 7) (pa_cons (pv 2) pa_nil)))))
      (pss_one (ps_expr (pe_bm PySem.F.plainAttrs_list PySem.F.slot_list_append PySem.F.type_list_append mt_append (pv 8) (pa_cons (pe_tup (pa_cons pe_str (pa_cons (pv 9) (pa_cons (pv 10) (pa_cons (pv 11) (pa_cons (pe_d D__law_t_body (hr.mono (by omega)) (by rfl) (pa_cons (pv 0) (pa_cons (pv 7) (pa_cons (pv 2) pa_nil)))) pa_nil)))))) pa_nil))))))))
      (pss_one (ps_ret (pe_tup (pa_cons pe_str (pa_cons (pv 3) (pa_cons (pv 4) (pa_cons (pv 6) (pa_cons (pe_callTy call_tuple_of (by rfl) T.b_tuple (by decide +kernel) (pa_cons (pv 8) pa_nil)) pa_nil)))))))))))))), ?_⟩
    refine ⟨_, rfl, S, D, 10, rfl, divW_of (by decide) (by decide), d, fun H1 bs bs0 bs1 g1 => ?_⟩
    -- the streams
    refine ⟨_, rfl, S, D, 4, rfl, divW_of (by decide) (by decide), g1.1, fun H2 n n0 n1 g2 => ?_⟩
    have st := StF.of_draw g2.1
    refine ⟨_, rfl, by omega, by omega, fun L hL => lc_range (lo := 0) (n := n.toNat) (fun j H3 => ∃ ps : List Str, BL K S D D L H2 H3 PyData.str ps ∧ ps.length = j ∧ ∀ p ∈ ps, okN p) ⟨[], BL.nil st hL, rfl, fun _ h => absurd h List.not_mem_nil⟩ ?_ ?_⟩
    · rintro j H3 hj ⟨ps, b, pl, po⟩
      refine ⟨rfl, _, rfl, S, D, rfl, b.g.1.dr, fun H4 z hz g4 => ?_⟩
      have b4 := b.go st hL str_noL (GoL.of_go b.g.1 g4)
      obtain ⟨zs, h1, h2, h3⟩ := b4.len
      refine ⟨zs, h1, line6 (by omega), ps ++ [z], BL.add st hL str_noL b4.g h1 h2 (.str _), by rw [List.length_append, List.length_singleton, pl], fun x hx => ?_⟩
      rcases List.mem_append.mp hx with h | h
      · exact po x h
      · rw [List.mem_singleton.mp h]
        exact hz
    rintro H3 ⟨ps, b, pl, po⟩
    obtain ⟨zs, h1, h2⟩ := b.l
    refine ⟨L, zs, rfl, .inl ⟨SqL.of h1, fun l hl => ?_⟩⟩
    have g3 := b.g.to_go
    have gl := Go.new (o := .tup zs) g3.1 hl
    have a4 := ((g1.trans g2).trans g3).trans gl
    have hstr : Dp K (upd H3 l (.tup zs)) (.ref l) (.tuple (ps.map PyData.str)) := .tup (SqT.of upd_same) (dpA_keep (keepT_new hl) _ _ (noLs_of str_noL ps) h2)
    generalize upd H3 l (.tup zs) = H4 at gl a4 hstr
    -- the items
    refine ⟨_, rfl, S, D, 4, rfl, divW_of (by decide) (by decide), a4.1, fun H5 n5 n50 n51 g5 => ?_⟩
    have st5 := StF.of_draw g5.1
    have hstr5 := dp_keep (Go.keepT a4.1 g5) _ _ (show noL (.tuple (ps.map PyData.str)) = true from noLs_of str_noL ps) hstr
    refine ⟨_, rfl, by omega, by omega, fun L5 hL5 => lc_range (lo := 0) (n := n5.toNat) (fun j H6 => ∃ is : List It, BL K S D D L5 H5 H6 dI is ∧ is.length = j ∧ ∀ i ∈ is, okIt i) ⟨[], BL.nil st5 hL5, rfl, fun _ h => absurd h List.not_mem_nil⟩ ?_ ?_⟩
    · rintro j H6 hj ⟨is, b, il, io⟩
      refine ⟨rfl, _, rfl, S, D, rfl, b.g.1.dr, fun H7 z it g7 hz hi => ?_⟩
      have b4 := b.go st5 hL5 dI_noL (GoL.of_go b.g.1 g7)
      obtain ⟨zs, h1, h2, h3⟩ := b4.len
      refine ⟨zs, h1, line6 (by omega), is ++ [it], BL.add st5 hL5 dI_noL b4.g h1 h2 hz, by rw [List.length_append, List.length_singleton, il], fun x hx => ?_⟩
      rcases List.mem_append.mp hx with h | h
      · exact io x h
      · rw [List.mem_singleton.mp h]
        exact hi
    rintro H6 ⟨is, b6, il, io⟩
    obtain ⟨zs6, h61, h62⟩ := b6.l
    refine ⟨L5, zs6, rfl, .inl ⟨SqL.of h61, fun l6 hl6 => ?_⟩⟩
    have g6 := b6.g.to_go
    have gl6 := Go.new (o := .tup zs6) g6.1 hl6
    have a7 := ((a4.trans g5).trans g6).trans gl6
    have hit : Dp K (upd H6 l6 (.tup zs6)) (.ref l6) (.tuple (is.map dI)) := .tup (SqT.of upd_same) (dpA_keep (keepT_new hl6) _ _ (noLs_of dI_noL is) h62)
    have hstr7 := dp_keep (Go.keepT g5.1 (g6.trans gl6)) _ _ (show noL (.tuple (ps.map PyData.str)) = true from noLs_of str_noL ps) hstr5
    generalize upd H6 l6 (.tup zs6) = H7 at gl6 a7 hit hstr7
    -- what is left
    refine ⟨_, rfl, _, rfl, _, _, rfl, rfl, S, D, 15, rfl, divW_of (by decide) (by decide), a7.1, fun H8 c c0 c1 g8 => ?_⟩
    refine ⟨by show 1 ≤ sizeLine; decide, fun F hF => ?_⟩
    have kk := (Go.keepT a7.1 g8).trans (keepT_new (o := .lst [.int c]) hF)
    have hstr9 := dp_keep kk _ _ (show noL (.tuple (ps.map PyData.str)) = true from noLs_of str_noL ps) hstr7
    have hit9 := dp_keep kk _ _ (show noL (.tuple (is.map dI)) = true from noLs_of dI_noL is) hit
    have a8 := a7.trans g8
    have gF := Go.new (o := .lst [.int c]) g8.1 hF
    have fD := (g8.1.free hF).1
    have fS := (g8.1.free hF).2
    have st9 : StF S D F (upd H8 F (.lst [.int c])) := ⟨gF.1, fS, ⟨_, upd_same⟩⟩
    have hF9 : (upd H8 F (.lst [.int c])) F = some (.lst [.int c]) := upd_same
    have a9 := a8.trans gF
    have fH : H F = none := by
      cases e : H F with
      | none => rfl
      | some o =>
        rw [a8.2 F o e fD] at hF
        cases hF
    generalize upd H8 F (.lst [.int c]) = H9 at st9 hF9 a9 gF hstr9 hit9
    -- the processes
    refine ⟨Nat.zero_le _, fun B hB => ?_⟩
    obtain ⟨bD, bS, bF⟩ := st9.free hB
    have bb0 : BL K S D F B H9 (upd H9 B (.lst [])) (dP 7) [] := BL.nil st9 hB
    have hFB : (upd H9 B (.lst [])) F = some (.lst [.int c]) := by rw [upd_ne bF.symm]; exact hF9
    refine ⟨_, rfl, S, D, 4, rfl, divW_of (by decide) (by decide), bb0.g.1.dr, fun H10 v v0 v1 g10 => ?_⟩
    refine ⟨_, rfl, by omega, by omega, for_range (lo := 0) (n := v.toNat) (fun i σ H' => ∃ (y5 y9 y10 y11 : Option V) (pr : List (Pr 7)) (c' : Int), σ = [some (.ref D), some (.int 14), some (.int 6), some (.int bs), some (.ref l), y5, some (.ref l6), some (.ref F), some (.ref B), y9, y10, y11] ∧ BL K S D F B H9 H' (dP 7) pr ∧ H' F = some (.lst [.int c']) ∧ 0 ≤ c' ∧ ((pr.map (cP 7)).sum : Int) + c' ≤ c ∧ pr.length = i ∧ ∀ s ∈ pr, okP 7 s) ⟨_, _, _, _, [], c, rfl, bb0.go st9 hB (dP_noL 7) (GoL.of_go bb0.g.1 g10), g10.2 F _ hFB fD, c0, by show (0 : Int) + c ≤ c; omega, rfl, fun _ h => absurd h List.not_mem_nil⟩ ?_ ?_⟩
    · rintro i σ H11 hi ⟨y5, y9, y10, y11, pr, c2, rfl, b, hF11, k0, k1, sl, so⟩
      refine ⟨_, rfl, S, D, rfl, b.g.1.dr, fun H12 nm hnm g12 => ?_⟩
      refine ⟨_, rfl, S, D, 10, rfl, divW_of (by decide) (by decide), g12.1, fun H13 r r0 r1 g13 => ?_⟩
      have a13 := GoL.of_go b.g.1 (g12.trans g13)
      have hF13 := (g12.trans g13).2 F _ hF11 fD
      refine ⟨_, rfl, _, rfl, _, rfl, S, D, F, c2, rfl, a13.1, fD, hF13, k0, by omega, fun H14 v1 b1 c3 g14 hF14 k30 k31 hv1 okb1 => ?_⟩
      have b14 := b.go st9 hB (dP_noL 7) (a13.trans g14)
      obtain ⟨zs, hz1, hz2, hz3⟩ := b14.len
      refine ⟨_, rfl, .inl ⟨rfl, _, SqL.of hz1⟩, _, rfl, _, rfl, _, rfl, _, rfl, _, rfl, _, rfl, S, D, F, c3, rfl, g14.1, fD, hF14, k30, by omega, fun H15 v2 b2 c4 g15 hF15 k40 k41 hv2 okb2 => ?_⟩
      refine ⟨by show 5 ≤ sizeLine; decide, fun p hp => ?_⟩
      have pF := (g15.1.free hp).2.2
      have hpr : Dp K (upd H15 p (.tup [V.str "process", .str nm, .int r, v1, v2])) (.ref p) (dP 7 (nm, r, b1, b2)) := .tup (SqT.of upd_same) (.cons (.str _) (.cons (.str _) (.cons (.int _) (.cons (dp_keep ((GoL.keepT g14.1 g15).trans (keepT_new hp)) _ _ (dB_noL _ b1) hv1) (.cons (dp_keep (keepT_new hp) _ _ (dB_noL _ b2) hv2) .nil)))))
      have b16 := b14.go st9 hB (dP_noL 7) (g15.trans (GoL.new (o := .tup [V.str "process", .str nm, .int r, v1, v2]) g15.1 hp))
      obtain ⟨xs, hx1, hx2, hx3⟩ := b16.len
      refine ⟨B, xs, _, rfl, rfl, hx1, line6 (by omega), ?_⟩
      refine ⟨_, _, _, _, pr ++ [(nm, r, b1, b2)], c4, rfl, BL.add st9 hB (dP_noL 7) b16.g hx1 hx2 hpr, by rw [upd_ne bF.symm, upd_ne pF.symm]; exact hF15, k40, ?_, by rw [List.length_append, List.length_singleton, sl], fun x hx => ?_⟩
      · rw [List.map_append, List.sum_append]
        have e2 : (List.map (cP 7) [(nm, r, b1, b2)]).sum = cB 7 b1 + cB 7 b2 := by
          show cB 7 b1 + cB 7 b2 + 0 = _
          omega
        rw [e2]
        omega
      · rcases List.mem_append.mp hx with h | h
        · exact so x h
        · rw [List.mem_singleton.mp h]
          exact ⟨hnm, ⟨r0, by show r ≤ 9; omega⟩, okb1, okb2⟩
    · rintro σ H11 ⟨y5, y9, y10, y11, pr, c2, rfl, b, hF11, k0, k1, sl, so⟩
      obtain ⟨zs, h1, h2⟩ := b.l
      refine ⟨_, rfl, _, rfl, _, rfl, _, rfl, B, zs, rfl, .inl ⟨SqL.of h1, fun l8 hl8 => ?_⟩⟩
      have gg := b.g.trans (GoL.new (o := .tup zs) b.g.1 hl8)
      refine ⟨by show 5 ≤ sizeLine; decide, fun p hp => ?_⟩
      have kx := (GoL.keepT st9 gg).trans (keepT_new (o := .tup [V.str "model", .int bs, .ref l, .ref l6, .ref l8]) hp)
      have g1x := gg.trans (GoL.new (o := .tup [V.str "model", .int bs, .ref l, .ref l6, .ref l8]) gg.1 hp)
      refine q _ _ ⟨bs, ps, is, pr⟩ ⟨g1x.1.dr, fun x o hx n => ?_⟩ (.tup (SqT.of upd_same) (.cons (.str _) (.cons (.int _) (.cons (dp_keep kx _ _ (show noL (.tuple (ps.map PyData.str)) = true from noLs_of str_noL ps) hstr9) (.cons (dp_keep kx _ _ (show noL (.tuple (is.map dI)) = true from noLs_of dI_noL is) hit9) (.cons (.tup (sqt_keep (keepT_new hp) (SqT.of upd_same)) (dpA_keep ((keepT_new hl8).trans (keepT_new hp)) _ _ (noLs_of (dP_noL 7) pr) h2)) .nil))))))
        ⟨⟨bs0, by show bs ≤ 9; omega⟩, by show ps.length ≤ 6; omega, by show is.length ≤ 6; omega, by show pr.length ≤ 6; omega, po, io, so, by show (pr.map (cP 7)).sum ≤ 150; omega⟩
      exact g1x.2 x o (a9.2 x o hx n) n (ne_of_none hx fH)
end
end Mt
namespace Mt
open PySem PySem.Spec PyProof.Rows L2
def spTower (K : PySem.W.Frag) : Sp := fun vs H Q _ => ∃ (S D : Addr) (n : Nat), vs = [.ref D, .int (n : Int)] ∧ n ≤ 18 ∧ DrawAt S D H ∧ ∀ (H' : Hp) (v : V) (b : Bd (n + 1)), Go S D H H' → Dp K H' v (dB (n + 1) b) → okB (n + 1) b → cB (n + 1) b ≤ 1 + 2 * n → Q v H'
def spBounded (K : PySem.W.Frag) : Sp := fun vs H Q _ => ∃ (S D : Addr), vs = [.ref D] ∧ DrawAt S D H ∧ ∀ (H' : Hp) (v : V) (m : Mdl 7), Go S D H H' → Dp K H' v (dM m) → okM m → Q v H'
def spGood (K : PySem.W.Frag) : Sp := fun vs H Q _ => ∃ (n : Nat) (v : V) (m : Mdl n), vs = [v] ∧ n ≤ 19 ∧ Dp K H v (dM m) ∧ okM m ∧ ∀ H' : Hp, Same H H' → Q (.bl true) H'
/-- one statement more around a body -/
def one {n : Nat} (s : S1 (Bd n)) : Bd (n + 1) := show List (S1 (Bd n)) from [s]
def nil {n : Nat} : Bd (n + 1) := show List (S1 (Bd n)) from []
theorem dp_one {K : PySem.W.Frag} {H : Hp} {n : Nat} {s : S1 (Bd n)} {a : Addr} {x : V} (h : SqT K H a [x]) (hx : Dp K H x (dS (dB n) s)) : Dp K H (.ref a) (dB (n + 1) (one s)) := .tup h (.cons hx .nil)
theorem ok_one {n : Nat} {s : S1 (Bd n)} (h : okS (okB n) s) : okB (n + 1) (one s) := fun x hx => by
  rw [List.mem_singleton.mp hx]
  exact h
theorem c_one {n : Nat} (s : S1 (Bd n)) : cB (n + 1) (one s) = cS (cB n) s := Nat.add_zero _
theorem dp_nil {K : PySem.W.Frag} {H : Hp} {e : Addr} {n : Nat} (h : SqT K H e []) : Dp K H (.ref e) (dB (n + 1) (nil (n := n))) := .tup h .nil
theorem ok_nil {n : Nat} : okB (n + 1) (nil (n := n)) := fun x hx => absurd hx List.not_mem_nil
theorem c_nil {n : Nat} : cB (n + 1) (nil (n := n)) = 0 := rfl
theorem ok_stop {B : Type} {ob : B → Prop} : okS ob (.plain "stop" []) := ⟨by decide +kernel, by show 0 ≤ 2; decide, fun a ha => absurd ha List.not_mem_nil⟩
theorem ok_end {B : Type} {ob : B → Prop} : okS ob (.plain "end" []) := ⟨by decide +kernel, by show 0 ≤ 2; decide, fun a ha => absurd ha List.not_mem_nil⟩
theorem okN_belt : okN "belt" := ⟨by decide +kernel, by decide +kernel⟩
section
variable {P : Program} {w : World} {K : PySem.W.Frag} {mg : Str → Option Value} {base : Heap}
theorem ok_tower (T : Txt K mg) (D__law_draw : Kept P w K mg base 1 "_law_draw" ["d", "many"] spDraw) (D__law_pick : Kept P w K mg base 2 "_law_pick" ["d", "row"] (spPick K)) (D__law_word : Kept P w K mg base 4 "_law_word" ["d"] spWord)
    {f : Addr} {fd : FuncData} (F : FnP K "_law_tower" s__law_tower f fd) : FnOk P w K mg base CX0 5 f fd ["d", "many"] (spTower K) := by
  refine F.ok sc__law_tower (fun vs H Q E h => ?_) (fun cdv A outer s H vs Q E hr h => ?_)
  · obtain ⟨S, D, n, rfl, _⟩ := h
    rfl
  · obtain ⟨S, D, n, rfl, n18, d, q⟩ := h
    refine ⟨_, PSs.nox (pss_cons (ps_set (i := 2) sc__law_tower.nd rfl (Or.inl rfl) (pe_d D__law_pick (hr.mono (by omega)) (by rfl) (pa_cons (pv 0) (pa_cons (pe_lst (pa_cons (pe_tup pa_nil) (pa_cons (pe_tup (pa_cons (pe_tup (pa_cons pe_str pa_nil)) pa_nil)) (pa_cons (pe_tup (pa_cons (pe_tup (pa_cons pe_str (pa_cons pe_int pa_nil))) pa_nil)) pa_nil)))) pa_nil))))
      (pss_cons (ps_for PassesOwn.never rfl (pi_range1 (by rfl) T.b_range (pa_cons (pv 1) pa_nil)) (pg_name (i := 3) sc__law_tower.nd rfl (Or.inl rfl)) (pss_cons (ps_set (i := 4) sc__law_tower.nd rfl (Or.inl rfl) (pe_d D__law_draw (hr.mono (by omega)) (by rfl) (pa_cons (pv 0) (pa_cons pe_int pa_nil))))
      (pss_one (ps_if (pt_cmpR op_eq (pv 4) pe_int (nomark _)) (pss_one (ps_set (i := 2) sc__law_tower.nd rfl (Or.inl rfl) (pe_tup (pa_cons (pe_tup (pa_cons pe_str (pa_cons (pe_d D__law_draw (hr.mono (by omega)) (by rfl) (pa_cons (pv 0) (pa_cons pe_int pa_nil))) (pa_cons (pv 2) pa_nil)))) pa_nil)))) (pss_one (ps_if (pt_cmpR op_eq (pv 4) pe_int (nomark _)) (pss_one (ps_set (i := 2) sc__law_tower.nd rfl (Or.inl rfl) (pe_tup (pa_cons (pe_tup (pa_cons pe_str (pa_cons (pv 2) (pa_cons (pe_tup pa_nil) pa_nil)))) pa_nil)))) (pss_one (ps_if (pt_cmpR op_eq (pv 4) pe_int (nomark _)) (pss_one (ps_set (i := 2) sc__law_tower.nd rfl (Or.inl rfl) (pe_tup (pa_cons (pe_tup (pa_cons pe_str (pa_cons (pe_tup pa_nil) (pa_cons (pv 2) pa_nil)))) (pa_cons (pe_tup (pa_cons pe_str pa_nil)) pa_nil))))) (pss_one (ps_if (pt_cmpR op_eq (pv 4) pe_int (nomark _)) (pss_one (ps_set (i := 2) sc__law_tower.nd rfl (Or.inl rfl) (pe_tup (pa_cons (pe_tup (pa_cons pe_str (pa_cons (pe_d D__law_word (hr.mono (by omega)) (by rfl) (pa_cons (pv 0) pa_nil)) (pa_cons (pe_d D__law_draw (hr.mono (by omega)) (by rfl) (pa_cons (pv 0) (pa_cons pe_int pa_nil))) (pa_cons pe_non (pa_cons (pv 2) (pa_cons (pe_tup pa_nil) pa_nil))))))) pa_nil)))) (pss_one (ps_if (pt_cmpR op_eq (pv 4) pe_int (nomark _)) (pss_one (ps_set (i := 2) sc__law_tower.nd rfl (Or.inl rfl) (pe_tup (pa_cons (pe_tup (pa_cons pe_str (pa_cons (pe_d D__law_word (hr.mono (by omega)) (by rfl) (pa_cons (pv 0) pa_nil)) (pa_cons pe_int (pa_cons (pe_d D__law_draw (hr.mono (by omega)) (by rfl) (pa_cons (pv 0) (pa_cons pe_int pa_nil))) (pa_cons (pe_tup pa_nil) (pa_cons (pv 2) pa_nil))))))) pa_nil)))) (pss_one (ps_set (i := 2) sc__law_tower.nd rfl (Or.inl rfl) (pe_tup (pa_cons (pe_tup (pa_cons pe_str (pa_cons pe_str (pa_cons (pe_d D__law_word (hr.mono (by omega)) (by rfl) (pa_cons (pv 0) pa_nil)) (pa_cons pe_int (pa_cons (pe_tup (pa_cons (pe_tup (pa_cons pe_str pa_nil)) pa_nil)) (pa_cons (pv 2) pa_nil))))))) pa_nil))))))))))))))))
      (pss_one (ps_ret (pv 2))))), ?_⟩
    refine ⟨_, rfl, ?_⟩
    -- the first body
    refine ⟨Nat.zero_le _, fun e he => ?_⟩
    have g1 := Go.new (o := .tup []) d he
    refine ⟨by show 1 ≤ sizeLine; decide, fun p1 hp1 => ?_⟩
    have g2 := Go.new (o := .tup [V.str "stop"]) g1.1 hp1
    refine ⟨by show 1 ≤ sizeLine; decide, fun p2 hp2 => ?_⟩
    have g3 := Go.new (o := .tup [V.ref p1]) g2.1 hp2
    refine ⟨by show 2 ≤ sizeLine; decide, fun p3 hp3 => ?_⟩
    have g4 := Go.new (o := .tup [V.str "hold", .int 0]) g3.1 hp3
    refine ⟨by show 1 ≤ sizeLine; decide, fun p4 hp4 => ?_⟩
    have g5 := Go.new (o := .tup [V.ref p3]) g4.1 hp4
    refine ⟨by show 3 ≤ sizeLine; decide, fun L hL => ?_⟩
    have g6 := Go.new (o := .lst [V.ref e, .ref p2, .ref p4]) g5.1 hL
    have lD := (g5.1.free hL).1
    have k2 := keepT_new (o := .tup [V.str "stop"]) hp1
    have k3 := keepT_new (o := .tup [V.ref p1]) hp2
    have k4 := keepT_new (o := .tup [V.str "hold", .int 0]) hp3
    have k5 := keepT_new (o := .tup [V.ref p3]) hp4
    have k6 := keepT_new (o := .lst [V.ref e, .ref p2, .ref p4]) hL
    have b0 := dp_nil (K := K) (n := 0) (SqT.of (upd_same (H := H) (a := e) (o := .tup [])))
    have b1 := dp_one (K := K) (n := 0) (s := .plain "stop" []) (SqT.of (upd_same (H := upd (upd H e (.tup [])) p1 (.tup [V.str "stop"])) (a := p2) (o := .tup [V.ref p1]))) (.tup (sqt_keep k3 (SqT.of upd_same)) (.cons (.str _) .nil))
    have b2 := dp_one (K := K) (n := 0) (s := .plain "hold" [.i 0]) (SqT.of (upd_same (H := upd (upd (upd (upd H e (.tup [])) p1 (.tup [V.str "stop"])) p2 (.tup [V.ref p1])) p3 (.tup [V.str "hold", .int 0])) (a := p4) (o := .tup [V.ref p3]))) (.tup (sqt_keep k5 (SqT.of upd_same)) (.cons (.str _) (.cons (.int _) .nil)))
    have c0 := dp_keep (((((k2.trans k3).trans k4).trans k5).trans k6)) _ _ (dB_noL 1 _) b0
    have c1 := dp_keep ((k4.trans k5).trans k6) _ _ (dB_noL 1 _) b1
    have c2 := dp_keep k6 _ _ (dB_noL 1 _) b2
    have a6 := ((((g1.trans g2).trans g3).trans g4).trans g5).trans g6
    refine ⟨S, D, _, [V.ref e, .ref p2, .ref p4], rfl, a6.1, fun H' g => .inr ⟨L, rfl, SqL.of (g.2 _ _ upd_same lD)⟩, by show 0 < 3; decide, by show 3 ≤ 100000; decide, fun H0 x hx g0 => ?_⟩
    have a0 := a6.trans g0
    obtain ⟨b, hb, okb, cb⟩ : ∃ b : Bd 1, Dp K H0 x (dB 1 b) ∧ okB 1 b ∧ cB 1 b ≤ 1 := by
      have kk := Go.keepT a6.1 g0
      simp only [List.mem_cons, List.not_mem_nil, or_false] at hx
      rcases hx with h | h | h <;> subst h
      · exact ⟨nil, dp_keep kk _ _ (dB_noL 1 _) c0, ok_nil, by rw [c_nil]; decide⟩
      · exact ⟨one (.plain "stop" []), dp_keep kk _ _ (dB_noL 1 _) c1, ok_one ok_stop, by rw [c_one]; exact Nat.le_refl 1⟩
      · refine ⟨one (.plain "hold" [.i 0]), dp_keep kk _ _ (dB_noL 1 _) c2, ok_one ⟨by decide +kernel, by show 1 ≤ 2; decide, fun a ha => ?_⟩, by rw [c_one]; exact Nat.le_refl 1⟩
        rw [List.mem_singleton.mp ha]
        exact ⟨by decide, by decide⟩
    refine ⟨_, rfl, _, rfl, by omega, by omega, for_range (lo := 0) (n := n) (fun i σ H' => ∃ (v : V) (y3 y4 : Option V) (b : Bd (i + 1)), σ = [some (.ref D), some (.int (n : Int)), some v, y3, y4] ∧ Go S D H H' ∧ Dp K H' v (dB (i + 1) b) ∧ okB (i + 1) b ∧ cB (i + 1) b ≤ 1 + 2 * i) ⟨_, _, _, b, rfl, a0, hb, okb, cb⟩ ?_ ?_⟩
    · rintro i σ H1 hi ⟨v, y3, y4, b, rfl, a1, hv, okb, cb⟩
      refine ⟨_, rfl, S, D, 6, rfl, divW_of (by decide) (by decide), a1.1, fun H2 x x0 x1 g2 => ?_⟩
      have a2 := a1.trans g2
      have hv2 := dp_keep (Go.keepT a1.1 g2) _ _ (dB_noL _ b) hv
      refine ⟨_, rfl, rfl, _, rfl, ?_⟩
      refine ite2 (fun _ => ?_) (fun _ => ?_)
      · refine ⟨_, rfl, S, D, 10, rfl, divW_of (by decide) (by decide), g2.1, fun H3 r r0 r1 g3 => ⟨_, rfl, by show 3 ≤ sizeLine; decide, fun p hp => ⟨by show 1 ≤ sizeLine; decide, fun p2 hp2 => ?_⟩⟩⟩
        have k1 := keepT_new (o := .tup [V.str "loop", .int r, v]) hp
        have k2 := keepT_new (o := .tup [V.ref p]) hp2
        have a3 := a2.trans g3
        have a4 := a3.trans (Go.new (o := .tup [V.str "loop", .int r, v]) a3.1 hp)
        refine ⟨_, _, _, one (.loop r b), rfl, a4.trans (Go.new (o := .tup [V.ref p]) a4.1 hp2), dp_one (SqT.of upd_same) (.tup (sqt_keep k2 (SqT.of upd_same)) (.cons (.str _) (.cons (.int _) (.cons (dp_keep (((Go.keepT g2.1 g3).trans k1).trans k2) _ _ (dB_noL _ b) hv2) .nil)))), ok_one ⟨⟨r0, by show r ≤ 9; omega⟩, okb⟩, ?_⟩
        rw [c_one]
        show 1 + cB (i + 1) b ≤ 1 + 2 * (i + 1)
        omega
      refine ⟨_, rfl, rfl, _, rfl, ?_⟩
      refine ite2 (fun _ => ?_) (fun _ => ?_)
      · refine ⟨_, rfl, Nat.zero_le _, fun e he => ⟨by show 3 ≤ sizeLine; decide, fun p hp => ⟨by show 1 ≤ sizeLine; decide, fun p2 hp2 => ?_⟩⟩⟩
        have k0 := keepT_new (o := .tup []) he
        have k1 := keepT_new (o := .tup [V.str "guard", v, .ref e]) hp
        have k2 := keepT_new (o := .tup [V.ref p]) hp2
        have a3 := a2.trans (Go.new (o := .tup []) a2.1 he)
        have a4 := a3.trans (Go.new (o := .tup [V.str "guard", v, .ref e]) a3.1 hp)
        refine ⟨_, _, _, one (.guard b nil), rfl, a4.trans (Go.new (o := .tup [V.ref p]) a4.1 hp2), dp_one (SqT.of upd_same) (.tup (sqt_keep k2 (SqT.of upd_same)) (.cons (.str _) (.cons (dp_keep ((k0.trans k1).trans k2) _ _ (dB_noL _ b) hv2) (.cons (dp_keep (k1.trans k2) _ _ (dB_noL _ _) (dp_nil (n := i) (SqT.of upd_same))) .nil)))), ok_one ⟨okb, ok_nil⟩, ?_⟩
        rw [c_one]
        show 1 + cB (i + 1) b + 0 ≤ 1 + 2 * (i + 1)
        omega
      refine ⟨_, rfl, rfl, _, rfl, ?_⟩
      refine ite2 (fun _ => ?_) (fun _ => ?_)
      · refine ⟨Nat.zero_le _, fun e he => ⟨_, rfl, by show 3 ≤ sizeLine; decide, fun p hp => ⟨by show 1 ≤ sizeLine; decide, fun p1 hp1 => ⟨by show 2 ≤ sizeLine; decide, fun p2 hp2 => ?_⟩⟩⟩⟩
        have k0 := keepT_new (o := .tup []) he
        have k1 := keepT_new (o := .tup [V.str "guard", .ref e, v]) hp
        have k2 := keepT_new (o := .tup [V.str "end"]) hp1
        have k3 := keepT_new (o := .tup [V.ref p, .ref p1]) hp2
        have a3 := a2.trans (Go.new (o := .tup []) a2.1 he)
        have a4 := a3.trans (Go.new (o := .tup [V.str "guard", .ref e, v]) a3.1 hp)
        have a5 := a4.trans (Go.new (o := .tup [V.str "end"]) a4.1 hp1)
        have e1 : Dp K _ (.ref p) (dS (dB (i + 1)) (.guard nil b)) := .tup (sqt_keep (k2.trans k3) (SqT.of upd_same)) (.cons (.str _) (.cons (dp_keep ((k1.trans k2).trans k3) _ _ (dB_noL _ _) (dp_nil (n := i) (SqT.of upd_same))) (.cons (dp_keep (((k0.trans k1).trans k2).trans k3) _ _ (dB_noL _ b) hv2) .nil)))
        refine ⟨_, _, _, (show Bd (i + 2) from (show List (S1 (Bd (i + 1))) from [.guard nil b, .plain "end" []])), rfl, a5.trans (Go.new (o := .tup [V.ref p, .ref p1]) a5.1 hp2), .tup (SqT.of upd_same) (.cons e1 (.cons (.tup (sqt_keep k3 (SqT.of upd_same)) (.cons (.str _) .nil)) .nil)), fun s hs => ?_, ?_⟩
        · have hs2 : s ∈ ([.guard nil b, .plain "end" []] : List (S1 (Bd (i + 1)))) := hs
          simp only [List.mem_cons, List.not_mem_nil, or_false] at hs2
          rcases hs2 with h | h <;> subst h
          · exact ⟨ok_nil, okb⟩
          · exact ok_end
        · show (1 + 0 + cB (i + 1) b) + (1 + 0) ≤ 1 + 2 * (i + 1)
          omega
      refine ⟨_, rfl, rfl, _, rfl, ?_⟩
      refine ite2 (fun _ => ?_) (fun _ => ?_)
      · refine ⟨_, rfl, S, D, rfl, g2.1, fun H3 nm hnm g3 => ⟨_, rfl, S, D, 10, rfl, divW_of (by decide) (by decide), g3.1, fun H4 r r0 r1 g4 => ?_⟩⟩
        refine ⟨_, rfl, Nat.zero_le _, fun e he => ⟨by show 6 ≤ sizeLine; decide, fun p hp => ⟨by show 1 ≤ sizeLine; decide, fun p2 hp2 => ?_⟩⟩⟩
        have k0 := keepT_new (o := .tup []) he
        have k1 := keepT_new (o := .tup [V.str "use", .str nm, .int r, .non, v, .ref e]) hp
        have k2 := keepT_new (o := .tup [V.ref p]) hp2
        have a4 := (a2.trans g3).trans g4
        have a5 := a4.trans (Go.new (o := .tup []) a4.1 he)
        have a6 := a5.trans (Go.new (o := .tup [V.str "use", .str nm, .int r, .non, v, .ref e]) a5.1 hp)
        have hv4 := dp_keep (Go.keepT g2.1 (g3.trans g4)) _ _ (dB_noL _ b) hv2
        refine ⟨_, _, _, one (.use nm r none b nil), rfl, a6.trans (Go.new (o := .tup [V.ref p]) a6.1 hp2), dp_one (SqT.of upd_same) (.tup (sqt_keep k2 (SqT.of upd_same)) (.cons (.str _) (.cons (.str _) (.cons (.int _) (.cons .non (.cons (dp_keep ((k0.trans k1).trans k2) _ _ (dB_noL _ b) hv4) (.cons (dp_keep (k1.trans k2) _ _ (dB_noL _ _) (dp_nil (n := i) (SqT.of upd_same))) .nil))))))), ok_one ⟨hnm, ⟨r0, by show r ≤ 9; omega⟩, fun _ h => (by cases h), okb, ok_nil⟩, ?_⟩
        rw [c_one]
        show 1 + cB (i + 1) b + 0 ≤ 1 + 2 * (i + 1)
        omega
      refine ⟨_, rfl, rfl, _, rfl, ?_⟩
      refine ite2 (fun _ => ?_) (fun _ => ?_)
      · refine ⟨_, rfl, S, D, rfl, g2.1, fun H3 nm hnm g3 => ⟨_, rfl, S, D, 10, rfl, divW_of (by decide) (by decide), g3.1, fun H4 r r0 r1 g4 => ?_⟩⟩
        refine ⟨Nat.zero_le _, fun e he => ⟨_, rfl, by show 6 ≤ sizeLine; decide, fun p hp => ⟨by show 1 ≤ sizeLine; decide, fun p2 hp2 => ?_⟩⟩⟩
        have k0 := keepT_new (o := .tup []) he
        have k1 := keepT_new (o := .tup [V.str "use", .str nm, .int 0, .int r, .ref e, v]) hp
        have k2 := keepT_new (o := .tup [V.ref p]) hp2
        have a4 := (a2.trans g3).trans g4
        have a5 := a4.trans (Go.new (o := .tup []) a4.1 he)
        have a6 := a5.trans (Go.new (o := .tup [V.str "use", .str nm, .int 0, .int r, .ref e, v]) a5.1 hp)
        have hv4 := dp_keep (Go.keepT g2.1 (g3.trans g4)) _ _ (dB_noL _ b) hv2
        refine ⟨_, _, _, one (.use nm 0 (some r) nil b), rfl, a6.trans (Go.new (o := .tup [V.ref p]) a6.1 hp2), dp_one (SqT.of upd_same) (.tup (sqt_keep k2 (SqT.of upd_same)) (.cons (.str _) (.cons (.str _) (.cons (.int _) (.cons (.int _) (.cons (dp_keep (k1.trans k2) _ _ (dB_noL _ _) (dp_nil (n := i) (SqT.of upd_same))) (.cons (dp_keep ((k0.trans k1).trans k2) _ _ (dB_noL _ b) hv4) .nil))))))), ok_one ⟨hnm, ⟨by decide, by decide⟩, fun x h => (by cases h; exact ⟨r0, by show r ≤ 9; omega⟩), ok_nil, okb⟩, ?_⟩
        rw [c_one]
        show 1 + 0 + cB (i + 1) b ≤ 1 + 2 * (i + 1)
        omega
      · refine ⟨_, rfl, S, D, rfl, g2.1, fun H3 nm hnm g3 => ?_⟩
        refine ⟨by show 1 ≤ sizeLine; decide, fun e1 he1 => ⟨by show 1 ≤ sizeLine; decide, fun e he => ⟨_, rfl, by show 6 ≤ sizeLine; decide, fun p hp => ⟨by show 1 ≤ sizeLine; decide, fun p2 hp2 => ?_⟩⟩⟩⟩
        have k00 := keepT_new (o := .tup [V.str "stop"]) he1
        have k0 := keepT_new (o := .tup [V.ref e1]) he
        have k1 := keepT_new (o := .tup [V.str "if", .str "belt", .str nm, .int 9, .ref e, v]) hp
        have k2 := keepT_new (o := .tup [V.ref p]) hp2
        have a4 := a2.trans g3
        have a44 := a4.trans (Go.new (o := .tup [V.str "stop"]) a4.1 he1)
        have a5 := a44.trans (Go.new (o := .tup [V.ref e1]) a44.1 he)
        have a6 := a5.trans (Go.new (o := .tup [V.str "if", .str "belt", .str nm, .int 9, .ref e, v]) a5.1 hp)
        have hv4 := dp_keep (Go.keepT g2.1 g3) _ _ (dB_noL _ b) hv2
        have hs := dp_one (K := K) (n := i) (s := .plain "stop" []) (SqT.of (upd_same (H := upd H3 e1 (.tup [V.str "stop"])) (a := e) (o := .tup [V.ref e1]))) (.tup (sqt_keep k0 (SqT.of upd_same)) (.cons (.str _) .nil))
        refine ⟨_, _, _, one (.iff "belt" nm 9 (one (.plain "stop" [])) b), rfl, a6.trans (Go.new (o := .tup [V.ref p]) a6.1 hp2), dp_one (SqT.of upd_same) (.tup (sqt_keep k2 (SqT.of upd_same)) (.cons (.str _) (.cons (.str _) (.cons (.str _) (.cons (.int _) (.cons (dp_keep (k1.trans k2) _ _ (dB_noL _ _) hs) (.cons (dp_keep (((k00.trans k0).trans k1).trans k2) _ _ (dB_noL _ b) hv4) .nil))))))), ok_one ⟨okN_belt, hnm, ⟨by decide, by decide⟩, ok_one ok_stop, okb⟩, ?_⟩
        rw [c_one]
        show 1 + cB (i + 1) (one (.plain "stop" [])) + cB (i + 1) b ≤ 1 + 2 * (i + 1)
        rw [c_one]
        show 1 + 1 + cB (i + 1) b ≤ 1 + 2 * (i + 1)
        omega
    · rintro σ H1 ⟨v, y3, y4, b, rfl, a1, hv, okb, cb⟩
      exact ⟨_, rfl, q _ _ b a1 hv okb cb⟩
end
end Mt
namespace Mt
open PySem PySem.Spec PyProof.Rows L2
def spLaw (K : PySem.W.Frag) : Sp := fun vs H Q _ => ∃ (a : Addr) (ns : List Int), vs = [.ref a] ∧ SqL K H a (ns.map V.int) ∧ ns.length ≤ 63 ∧ ∀ H', Q (.bl true) H'
theorem okI2 : okI 2 := ⟨by decide, by decide⟩
theorem okI0 : okI 0 := ⟨by decide, by decide⟩
theorem okNp : okN "p" := ⟨by decide +kernel, by decide +kernel⟩
theorem dM_noL {n : Nat} (m : Mdl n) : noL (dM m) = true := by
  show (true && (true && (noLs (m.streams.map PyData.str) && (noLs (m.items.map dI) && (noLs (m.procs.map (dP n)) && true))))) = true
  rw [noLs_of str_noL, noLs_of dI_noL, noLs_of (dP_noL n)]
  rfl
theorem tM_len {n : Nat} {m : Mdl n} (ok : okM m) : (tM m).length ≤ 20000 := by
  have f1 := ok.few1
  have f2 := ok.few2
  have f3 := ok.few3
  have f4 := ok.few
  have tl1 := fm_c tI 40 m.items fun i hi => tI_len i (ok.it i hi)
  have tl2 := fm_le (tP n) (cP n) 9 m.procs fun p hp => tP_len n p (ok.pr p hp)
  show ((["model", num m.base, "streams"] : List Str) ++ (m.streams ++ [("{" : Str)]) ++ m.items.flatMap tI ++ m.procs.flatMap (tP n) ++ [("}" : Str)]).length ≤ 20000
  simp only [List.length_append, List.length_cons, List.length_nil]
  omega
section
variable {P : Program} {w : World} {K : PySem.W.Frag} {mg : Str → Option Value} {base : Heap}
theorem ok_body0 {f : Addr} {fd : FuncData} (F : FnP K "body_tokens" s_body_tokens f fd) : FnOk P w K mg base CX0 1 f fd ["body"] (spBodyT K 0) := by
  refine F.ok sc_body_tokens (fun vs H Q E h => ?_) (fun cdv A outer s H vs Q E hr h => ?_)
  · obtain ⟨v, b, _⟩ := h
    exact nomatch b
  · obtain ⟨v, b, _⟩ := h
    exact nomatch b
theorem ok_wbody0 {f : Addr} {fd : FuncData} (F : FnP K "_law_w_body" s__law_w_body f fd) : FnOk P w K mg base CX0 1 f fd ["body", "odd"] (spWB K 0) := by
  refine F.ok sc__law_w_body (fun vs H Q E h => ?_) (fun cdv A outer s H vs Q E hr h => ?_)
  · obtain ⟨v, O, b, _⟩ := h
    exact nomatch b
  · obtain ⟨v, O, b, _⟩ := h
    exact nomatch b
theorem ok_bounded (T : Txt K mg) (D__law_t_model : Kept P w K mg base 19 "_law_t_model" ["d", "most", "depth"] (spTM K)) (D__law_w_model : Kept P w K mg base (2 * 7 + 2) "_law_w_model" ["model", "odd"] (spWM K 7))
    {f : Addr} {fd : FuncData} (F : FnP K "_law_bounded" s__law_bounded f fd) : FnOk P w K mg base CX0 20 f fd ["d"] (spBounded K) := by
  refine F.ok sc__law_bounded (fun vs H Q E h => ?_) (fun cdv A outer s H vs Q E hr h => ?_)
  · obtain ⟨S, D, rfl, _⟩ := h
    rfl
  · obtain ⟨S, D, rfl, d, q⟩ := h
    refine ⟨_, PSs.nox (pss_cons (ps_set (i := 1) sc__law_bounded.nd rfl (Or.inl rfl) (pe_d D__law_t_model (hr.mono (by omega)) (by rfl) (pa_cons (pv 0) (pa_cons pe_int (pa_cons pe_int pa_nil)))))
      (pss_cons (ps_if (pt_cmpR op_gt (pe_callB call_len (by rfl) T.b_len (by decide +kernel) (pa_cons (pe_words (pe_d D__law_w_model (hr.mono (by omega)) (by rfl) (pa_cons (pv 1) (pa_cons (pe_lst (pa_cons pe_int pa_nil)) pa_nil)))) pa_nil)) pe_int (nomark _)) (pss_one (ps_ret (pe_op op_catT (pe_slice sl_tup (pv 1) po_none (po_some pe_int)) (pe_tup (pa_cons (pe_tup pa_nil) pa_nil))))) pss_nil)
      (pss_one (ps_ret (pv 1))))), ?_⟩
    refine ⟨_, rfl, S, D, rfl, d, fun H1 v m g1 hv ok => ?_⟩
    refine ⟨_, rfl, by show 1 ≤ sizeLine; decide, fun O hO => ?_⟩
    have gO := Go.new (o := .lst [.int 0]) g1.1 hO
    have hv1 := dp_keep (Go.keepT g1.1 gO) _ _ (dM_noL m) hv
    refine ⟨v, O, m, rfl, upd_same, hv1, ok, fun H2 z s2 hz => ?_⟩
    have g2 := (g1.trans gO).trans (Go.same gO.1 s2)
    have hv2 := dp_keep (KeepT.of_same s2) _ _ (dM_noL m) hv1
    have lz := wm_len ok (tM_tok m ok) (tM_len ok) hz
    refine ⟨⟨_, rfl⟩, _, rfl, rfl, line7 (by omega), fun p hp => ?_⟩
    have gp := Go.new (o := .lst ((Txt.words z).map V.str)) g2.1 hp
    have hv3 := dp_keep (Go.keepT g2.1 gp) _ _ (dM_noL m) hv2
    have g3 := g2.trans gp
    refine ⟨_, _, rfl, .inl ⟨_, SqL.of upd_same, rfl⟩, _, _, rfl, rfl, _, rfl, ?_⟩
    refine ite2 (fun _ => ?_) (fun _ => ?_)
    · obtain ⟨a, xs, rfl, hT, hA⟩ := dp_tup hv3
      obtain ⟨x0, r0, rfl, h0, hA1⟩ := dpA_cons hA
      obtain ⟨x1, r1, rfl, h1, hA2⟩ := dpA_cons hA1
      obtain ⟨x2, r2, rfl, h2, hA3⟩ := dpA_cons hA2
      obtain ⟨x3, r3, rfl, h3, hA4⟩ := dpA_cons hA3
      obtain ⟨x4, r4, rfl, h4, hA5⟩ := dpA_cons hA4
      cases dpA_nil hA5
      cases dp_str h0
      cases dp_int h1
      refine ⟨_, rfl, _, rfl, a, _, rfl, hT, fun h => absurd h.2 (by show ¬ (min 4 5 = 5); decide), fun p2 hp2 => ⟨Nat.zero_le _, fun e he => ⟨by show 1 ≤ sizeLine; decide, fun p3 hp3 => ?_⟩⟩⟩
      have k1 := keepT_new (o := .tup [V.str "model", .int m.base, x2, x3]) hp2
      have k2 := keepT_new (o := .tup []) he
      have k3 := keepT_new (o := .tup [V.ref e]) hp3
      refine ⟨p2, p3, [V.str "model", .int m.base, x2, x3], [V.ref e], rfl, rfl, sqt_keep (k2.trans k3) (SqT.of upd_same), SqT.of upd_same, List.cons_ne_nil _ _, by show 5 ≤ sizeLine; decide, fun h => absurd h (List.cons_ne_nil _ _), fun _ p4 hp4 => ?_⟩
      have k4 := keepT_new (o := .tup [V.str "model", .int m.base, x2, x3, .ref e]) hp4
      have kk := ((k1.trans k2).trans k3).trans k4
      have b1 := g3.trans (Go.new (o := .tup [V.str "model", .int m.base, x2, x3]) g3.1 hp2)
      have b2 := b1.trans (Go.new (o := .tup []) b1.1 he)
      have b3 := b2.trans (Go.new (o := .tup [V.ref e]) b2.1 hp3)
      exact q _ _ ⟨m.base, m.streams, m.items, []⟩ (b3.trans (Go.new (o := .tup [V.str "model", .int m.base, x2, x3, .ref e]) b3.1 hp4))
        (.tup (SqT.of upd_same) (.cons (.str _) (.cons (.int _) (.cons (dp_keep kk _ _ (show noL (.tuple (m.streams.map PyData.str)) = true from noLs_of str_noL _) h2) (.cons (dp_keep kk _ _ (show noL (.tuple (m.items.map dI)) = true from noLs_of dI_noL _) h3) (.cons (.tup (sqt_keep (k3.trans k4) (SqT.of upd_same)) .nil) .nil))))))
        ⟨ok.base, ok.few1, ok.few2, Nat.zero_le _, ok.st, ok.it, fun _ h => absurd h List.not_mem_nil, Nat.zero_le _⟩
    · exact ⟨_, rfl, q _ _ m g3 hv3 ok⟩
theorem ok_good (T : Txt K mg) (Dw : ∀ n, Kept P w K mg base (3 * n + 3) "write_model" ["model"] (spWrite K n)) (Dm : ∀ n, Kept P w K mg base (2 * n + 2) "_law_w_model" ["model", "odd"] (spWM K n))
    {f : Addr} {fd : FuncData} (F : FnP K "_law_good" s__law_good f fd) : FnOk P w K mg base CX0 61 f fd ["model"] (spGood K) := by
  refine F.ok sc__law_good (fun vs H Q E h => ?_) (fun cdv A outer s H vs Q E hr h => ?_)
  · obtain ⟨n, v, m, rfl, _⟩ := h
    rfl
  · obtain ⟨n, v, m, rfl, hn, hv, ok, q⟩ := h
    have D_write_model := Dw n
    have D__law_w_model := Dm n
    refine ⟨_, PSs.nox (pss_cons (ps_set (i := 1) sc__law_good.nd rfl (Or.inl rfl) (pe_d D_write_model (hr.mono (by omega)) (by rfl) (pa_cons (pv 0) pa_nil)))
      (pss_one (ps_ret (pe_and (pe_callB call_isi (by rfl) T.b_isinstance (by decide +kernel) (pa_cons (pv 1) (pa_cons (pe_bltn (v := .ty "str") (u := .type "str") (by rfl) T.b_str (by decide +kernel) rfl) pa_nil))) (pe_one (pe_cmpR op_eq (pv 1) (pe_d D__law_w_model (hr.mono (by omega)) (by rfl) (pa_cons (pv 0) (pa_cons (pe_lst (pa_cons pe_int pa_nil)) pa_nil))) (nomark _))))))), ?_⟩
    refine ⟨_, rfl, v, m, rfl, hv, ok, fun H1 z s1 hz => ?_⟩
    refine ⟨_, rfl, _, .ty "str", .type "str", .type "str", true, rfl, .ty _, .base (.str _), kit_ty (by decide +kernel), true, rfl, ?_⟩
    refine ⟨_, rfl, _, rfl, by show 1 ≤ sizeLine; decide, fun O hO => ⟨v, O, m, rfl, upd_same, dp_keep (KeepT.of_same (s1.trans (same_new hO))) _ _ (dM_noL m) hv, ok, fun H2 z2 s2 hz2 => ?_⟩⟩
    refine ⟨rfl, ?_⟩
    have e : z = z2 := TL.ext_tl (hz.trans hz2.symm)
    have e2 : decide (V.str z = V.str z2) = true := by
      rw [e]
      exact decide_eq_true rfl
    rw [e2]
    exact q _ ((s1.trans (same_new hO)).trans s2)
theorem ok_law (T : Txt K mg) (D__law_begin : Kept P w K mg base 1 "_law_begin" ["script"] (spBegin K)) (D__law_draw : Kept P w K mg base 1 "_law_draw" ["d", "many"] spDraw) (D__law_pick : Kept P w K mg base 2 "_law_pick" ["d", "row"] (spPick K))
    (D__law_tower : Kept P w K mg base 5 "_law_tower" ["d", "many"] (spTower K)) (D__law_bounded : Kept P w K mg base 20 "_law_bounded" ["d"] (spBounded K)) (D__law_good : Kept P w K mg base 61 "_law_good" ["model"] (spGood K))
    {f : Addr} {fd : FuncData} (F : FnP K "law" s_law f fd) : FnOk P w K mg base CX0 62 f fd ["script"] (spLaw K) := by
  refine F.ok sc_law (fun vs H Q E h => ?_) (fun cdv A outer s H vs Q E hr h => ?_)
  · obtain ⟨a, ns, rfl, _⟩ := h
    rfl
  · obtain ⟨a, ns, rfl, hS, hlen, q⟩ := h
    refine ⟨_, PSs.nox (pss_cons (ps_set (i := 1) sc_law.nd rfl (Or.inl rfl) (pe_d D__law_begin (hr.mono (by omega)) (by rfl) (pa_cons (pv 0) pa_nil)))
      (pss_cons (ps_set (i := 2) sc_law.nd rfl (Or.inl rfl) (pe_d D__law_bounded (hr.mono (by omega)) (by rfl) (pa_cons (pv 1) pa_nil)))
      (pss_cons (ps_set (i := 3) sc_law.nd rfl (Or.inl rfl) (pe_d D__law_bounded (hr.mono (by omega)) (by rfl) (pa_cons (pv 1) pa_nil)))
      (pss_cons (ps_set (i := 4) sc_law.nd rfl (Or.inl rfl) (pe_d D__law_tower (hr.mono (by omega)) (by rfl) (pa_cons (pv 1) (pa_cons (pe_d D__law_draw (hr.mono (by omega)) (by rfl) (pa_cons (pv 1) (pa_cons pe_int pa_nil))) pa_nil))))
      (pss_cons (ps_set (i := 5) sc_law.nd rfl (Or.inl rfl) (pe_d D__law_pick (hr.mono (by omega)) (by rfl) (pa_cons (pv 1) (pa_cons (pe_lst (pa_cons (pe_tup (pa_cons (pv 4) (pa_cons (pe_tup pa_nil) pa_nil))) (pa_cons (pe_tup (pa_cons (pe_tup pa_nil) (pa_cons (pv 4) pa_nil))) pa_nil))) pa_nil))))
      (pss_cons (ps_set (i := 6) sc_law.nd rfl (Or.inl rfl) (pe_tup (pa_cons pe_str (pa_cons pe_int (pa_cons (pe_tup pa_nil) (pa_cons (pe_tup pa_nil) (pa_cons (pe_tup (pa_cons (pe_tup (pa_cons pe_str (pa_cons pe_str (pa_cons pe_int (pa_cons (pe_ix ix_tup (pv 5) pe_int (fun _ _ => rfl)) (pa_cons (pe_ix ix_tup (pv 5) pe_int (fun _ _ => rfl)) pa_nil)))))) pa_nil)) pa_nil)))))))
      (pss_one (ps_ret (pe_and (pe_d D__law_good (hr.mono (by omega)) (by rfl) (pa_cons (pv 2) pa_nil)) (pe_and (pe_d D__law_good (hr.mono (by omega)) (by rfl) (pa_cons (pv 3) pa_nil)) (pe_and (pe_d D__law_good (hr.mono (by omega)) (by rfl) (pa_cons (pv 6) pa_nil)) (pe_one (pe_d D__law_good (hr.mono (by omega)) (by rfl) (pa_cons (pv 2) pa_nil)))))))))))))), ?_⟩
    refine ⟨_, rfl, a, ns, rfl, hS, hlen, fun S D H1 s1 fD d => ?_⟩
    refine ⟨_, rfl, S, D, rfl, d, fun H2 v1 m1 g2 hv1 ok1 => ?_⟩
    refine ⟨_, rfl, S, D, rfl, g2.1, fun H3 v2 m2 g3 hv2 ok2 => ?_⟩
    refine ⟨_, rfl, _, rfl, S, D, 19, rfl, divW_of (by decide) (by decide), g3.1, fun H4 t t0 t1 g4 => ?_⟩
    refine ⟨S, D, t.toNat, by rw [show ((t.toNat : Nat) : Int) = t by omega]; rfl, by omega, g4.1, fun H5 vh b g5 hvh okb cb => ?_⟩
    have g35 := (g3.trans g4).trans g5
    have hv1' := dp_keep (Go.keepT g2.1 g35) _ _ (dM_noL m1) hv1
    have hv2' := dp_keep (Go.keepT g3.1 (g4.trans g5)) _ _ (dM_noL m2) hv2
    clear g35
    -- the bodies
    refine ⟨_, rfl, _, rfl, Nat.zero_le _, fun e1 he1 => ⟨by show 2 ≤ sizeLine; decide, fun p1 hp1 => ⟨Nat.zero_le _, fun e2 he2 => ⟨_, rfl, by show 2 ≤ sizeLine; decide, fun p2 hp2 => ⟨by show 2 ≤ sizeLine; decide, fun L hL => ?_⟩⟩⟩⟩⟩
    have c1 := Go.new (o := .tup []) g5.1 he1
    have c2 := Go.new (o := .tup [vh, .ref e1]) c1.1 hp1
    have c3 := Go.new (o := .tup []) c2.1 he2
    have c4 := Go.new (o := .tup [V.ref e2, vh]) c3.1 hp2
    have c5 := Go.new (o := .lst [V.ref p1, .ref p2]) c4.1 hL
    have lD := (c4.1.free hL).1
    have k1 := keepT_new (o := .tup []) he1
    have k2 := keepT_new (o := .tup [vh, .ref e1]) hp1
    have k3 := keepT_new (o := .tup []) he2
    have k4 := keepT_new (o := .tup [V.ref e2, vh]) hp2
    have k5 := keepT_new (o := .lst [V.ref p1, .ref p2]) hL
    have kA := (((k1.trans k2).trans k3).trans k4).trans k5
    have w0 := dp_keep kA _ _ (dB_noL _ b) hvh
    have w1 := dp_keep (((k2.trans k3).trans k4).trans k5) _ _ (dB_noL _ _) (dp_nil (K := K) (n := t.toNat) (SqT.of (upd_same (H := H5) (a := e1) (o := .tup []))))
    have w2 := dp_keep (k4.trans k5) _ _ (dB_noL _ _) (dp_nil (K := K) (n := t.toNat) (SqT.of (upd_same (H := upd (upd H5 e1 (.tup [])) p1 (.tup [vh, .ref e1])) (a := e2) (o := .tup []))))
    have y1 : SqT K _ p1 [vh, .ref e1] := sqt_keep ((k3.trans k4).trans k5) (SqT.of (upd_same (H := upd H5 e1 (.tup [])) (a := p1) (o := .tup [vh, .ref e1])))
    have y2 : SqT K _ p2 [V.ref e2, vh] := sqt_keep k5 (SqT.of (upd_same (a := p2) (o := .tup [V.ref e2, vh])))
    have hv1a := dp_keep kA _ _ (dM_noL m1) hv1'
    have hv2a := dp_keep kA _ _ (dM_noL m2) hv2'
    refine ⟨S, D, _, [V.ref p1, .ref p2], rfl, c5.1, fun H' g => .inr ⟨L, rfl, SqL.of (g.2 _ _ upd_same lD)⟩, by show 0 < 2; decide, by show 2 ≤ 100000; decide, fun H6 x hx g6 => ?_⟩
    have k6 := Go.keepT c5.1 g6
    have hv1b := dp_keep k6 _ _ (dM_noL m1) hv1a
    have hv2b := dp_keep k6 _ _ (dM_noL m2) hv2a
    obtain ⟨pq, u1, u2, ba, bb, rfl, hpq, hu1, hu2, ok3, ok4, cab⟩ : ∃ (pq : Addr) (u1 u2 : V) (ba bb : Bd (t.toNat + 1)), x = .ref pq ∧ SqT K H6 pq [u1, u2] ∧ Dp K H6 u1 (dB _ ba) ∧ Dp K H6 u2 (dB _ bb) ∧ okB _ ba ∧ okB _ bb ∧ cB _ ba + cB _ bb ≤ 100 := by
      simp only [List.mem_cons, List.not_mem_nil, or_false] at hx
      rcases hx with h | h <;> subst h
      · exact ⟨p1, vh, .ref e1, b, nil, rfl, sqt_keep k6 y1, dp_keep k6 _ _ (dB_noL _ _) w0, dp_keep k6 _ _ (dB_noL _ _) w1, okb, ok_nil, by rw [c_nil]; omega⟩
      · exact ⟨p2, .ref e2, vh, nil, b, rfl, sqt_keep k6 y2, dp_keep k6 _ _ (dB_noL _ _) w2, dp_keep k6 _ _ (dB_noL _ _) w0, ok_nil, okb, by rw [c_nil]; omega⟩
    clear hv1a hv2a w0 w1 w2 y1 y2
    -- the deep model
    refine ⟨Nat.zero_le _, fun e3 he3 => ⟨Nat.zero_le _, fun e4 he4 => ?_⟩⟩
    have q3 := keepT_new (o := .tup []) he3
    have q4 := keepT_new (o := .tup []) he4
    have hpq4 := sqt_keep (q3.trans q4) hpq
    refine ⟨_, rfl, pq, _, _, _, rfl, rfl, hpq4, atI_nat (j := 0) rfl, _, rfl, pq, _, _, _, rfl, rfl, hpq4, atI_nat (j := 1) rfl, ?_⟩
    refine ⟨by show 5 ≤ sizeLine; decide, fun p5 hp5 => ⟨by show 1 ≤ sizeLine; decide, fun p6 hp6 => ⟨by show 5 ≤ sizeLine; decide, fun p7 hp7 => ?_⟩⟩⟩
    have q5 := keepT_new (o := .tup [V.str "process", .str "p", .int 0, u1, u2]) hp5
    have q6 := keepT_new (o := .tup [V.ref p5]) hp6
    have q7 := keepT_new (o := .tup [V.str "model", .int 2, .ref e3, .ref e4, .ref p6]) hp7
    have qA := ((((q3.trans q4).trans q5).trans q6).trans q7)
    have hd : Dp K (upd (upd (upd (upd (upd H6 e3 (.tup [])) e4 (.tup [])) p5 (.tup [V.str "process", .str "p", .int 0, u1, u2])) p6 (.tup [V.ref p5])) p7 (.tup [V.str "model", .int 2, .ref e3, .ref e4, .ref p6])) (.ref p7) (dM (⟨2, [], [], [("p", 0, ba, bb)]⟩ : Mdl (t.toNat + 1))) :=
      .tup (SqT.of upd_same) (.cons (.str _) (.cons (.int _) (.cons (.tup (sqt_keep (((q4.trans q5).trans q6).trans q7) (SqT.of upd_same)) .nil) (.cons (.tup (sqt_keep ((q5.trans q6).trans q7) (SqT.of upd_same)) .nil)
        (.cons (.tup (sqt_keep q7 (SqT.of upd_same)) (.cons (.tup (sqt_keep (q6.trans q7) (SqT.of upd_same)) (.cons (.str _) (.cons (.str _) (.cons (.int _) (.cons (dp_keep qA _ _ (dB_noL _ _) hu1) (.cons (dp_keep qA _ _ (dB_noL _ _) hu2) .nil)))))) .nil)) .nil)))))
    have okd : okM (⟨2, [], [], [("p", 0, ba, bb)]⟩ : Mdl (t.toNat + 1)) := ⟨okI2, Nat.zero_le _, Nat.zero_le _, by show 1 ≤ 6; decide, fun _ h => absurd h List.not_mem_nil, fun _ h => absurd h List.not_mem_nil, fun p hp => by
      rw [List.mem_singleton.mp hp]
      exact ⟨okNp, okI0, ok3, ok4⟩, by
      show (cB _ ba + cB _ bb) + 0 ≤ 150
      omega⟩
    have hx1 := dp_keep qA _ _ (dM_noL m1) hv1b
    have hx2 := dp_keep qA _ _ (dM_noL m2) hv2b
    refine ⟨_, rfl, 7, v1, m1, rfl, by decide, hx1, ok1, fun Ha sa => ⟨true, rfl, ?_⟩⟩
    refine ⟨_, rfl, 7, v2, m2, rfl, by decide, dp_keep (KeepT.of_same sa) _ _ (dM_noL m2) hx2, ok2, fun Hb sb => ⟨true, rfl, ?_⟩⟩
    refine ⟨_, rfl, t.toNat + 1, _, _, rfl, by omega, dp_keep (KeepT.of_same (sa.trans sb)) _ _ (dM_noL _) hd, okd, fun Hc sc => ⟨true, rfl, ?_⟩⟩
    exact ⟨_, rfl, 7, v1, m1, rfl, by decide, dp_keep (KeepT.of_same ((sa.trans sb).trans sc)) _ _ (dM_noL m1) hx1, ok1, fun _ _ => q _⟩
end
end Mt
namespace Mt
open PySem PySem.Spec PyProof.Rows L2
def dd_write_model : He.DefD := ⟨("write_model", none), "write_model", "write_model", defArgs s_write_model, defBody s_write_model, defScope s_write_model, [], []⟩
def dd_spaced : He.DefD := ⟨("spaced", none), "spaced", "spaced", defArgs s_spaced, defBody s_spaced, defScope s_spaced, [], []⟩
def dd_item_tokens : He.DefD := ⟨("item_tokens", none), "item_tokens", "item_tokens", defArgs s_item_tokens, defBody s_item_tokens, defScope s_item_tokens, [], []⟩
def dd_listed : He.DefD := ⟨("listed", none), "listed", "listed", defArgs s_listed, defBody s_listed, defScope s_listed, [], []⟩
def dd_process_tokens : He.DefD := ⟨("process_tokens", none), "process_tokens", "process_tokens", defArgs s_process_tokens, defBody s_process_tokens, defScope s_process_tokens, [], []⟩
def dd_body_tokens : He.DefD := ⟨("body_tokens", none), "body_tokens", "body_tokens", defArgs s_body_tokens, defBody s_body_tokens, defScope s_body_tokens, [], []⟩
def dd_statement_tokens : He.DefD := ⟨("statement_tokens", none), "statement_tokens", "statement_tokens", defArgs s_statement_tokens, defBody s_statement_tokens, defScope s_statement_tokens, [], []⟩
def dd_draw_tokens : He.DefD := ⟨("draw_tokens", none), "draw_tokens", "draw_tokens", defArgs s_draw_tokens, defBody s_draw_tokens, defScope s_draw_tokens, [], []⟩
def dd_use_tokens : He.DefD := ⟨("use_tokens", none), "use_tokens", "use_tokens", defArgs s_use_tokens, defBody s_use_tokens, defScope s_use_tokens, [], []⟩
def dd_if_tokens : He.DefD := ⟨("if_tokens", none), "if_tokens", "if_tokens", defArgs s_if_tokens, defBody s_if_tokens, defScope s_if_tokens, [], []⟩
def dd__law_begin : He.DefD := ⟨("_law_begin", none), "_law_begin", "_law_begin", defArgs s__law_begin, defBody s__law_begin, defScope s__law_begin, [], []⟩
def dd__law_draw : He.DefD := ⟨("_law_draw", none), "_law_draw", "_law_draw", defArgs s__law_draw, defBody s__law_draw, defScope s__law_draw, [], []⟩
def dd__law_pick : He.DefD := ⟨("_law_pick", none), "_law_pick", "_law_pick", defArgs s__law_pick, defBody s__law_pick, defScope s__law_pick, [], []⟩
def dd__law_rare : He.DefD := ⟨("_law_rare", none), "_law_rare", "_law_rare", defArgs s__law_rare, defBody s__law_rare, defScope s__law_rare, [], []⟩
def dd__law_small : He.DefD := ⟨("_law_small", none), "_law_small", "_law_small", defArgs s__law_small, defBody s__law_small, defScope s__law_small, [], []⟩
def dd__law_reserved : He.DefD := ⟨("_law_reserved", none), "_law_reserved", "_law_reserved", defArgs s__law_reserved, defBody s__law_reserved, defScope s__law_reserved, [], []⟩
def dd__law_word : He.DefD := ⟨("_law_word", none), "_law_word", "_law_word", defArgs s__law_word, defBody s__law_word, defScope s__law_word, [], []⟩
def dd__law_t_plain : He.DefD := ⟨("_law_t_plain", none), "_law_t_plain", "_law_t_plain", defArgs s__law_t_plain, defBody s__law_t_plain, defScope s__law_t_plain, [], []⟩
def dd__law_t_arms : He.DefD := ⟨("_law_t_arms", none), "_law_t_arms", "_law_t_arms", defArgs s__law_t_arms, defBody s__law_t_arms, defScope s__law_t_arms, [], []⟩
def dd__law_t_nest : He.DefD := ⟨("_law_t_nest", none), "_law_t_nest", "_law_t_nest", defArgs s__law_t_nest, defBody s__law_t_nest, defScope s__law_t_nest, [], []⟩
def dd__law_t_body : He.DefD := ⟨("_law_t_body", none), "_law_t_body", "_law_t_body", defArgs s__law_t_body, defBody s__law_t_body, defScope s__law_t_body, [], []⟩
def dd__law_t_item : He.DefD := ⟨("_law_t_item", none), "_law_t_item", "_law_t_item", defArgs s__law_t_item, defBody s__law_t_item, defScope s__law_t_item, [], []⟩
def dd__law_t_model : He.DefD := ⟨("_law_t_model", none), "_law_t_model", "_law_t_model", defArgs s__law_t_model, defBody s__law_t_model, defScope s__law_t_model, [], []⟩
def dd__law_tower : He.DefD := ⟨("_law_tower", none), "_law_tower", "_law_tower", defArgs s__law_tower, defBody s__law_tower, defScope s__law_tower, [], []⟩
def dd__law_w_body : He.DefD := ⟨("_law_w_body", none), "_law_w_body", "_law_w_body", defArgs s__law_w_body, defBody s__law_w_body, defScope s__law_w_body, [], []⟩
def dd__law_w_statement : He.DefD := ⟨("_law_w_statement", none), "_law_w_statement", "_law_w_statement", defArgs s__law_w_statement, defBody s__law_w_statement, defScope s__law_w_statement, [], []⟩
def dd__law_w_item : He.DefD := ⟨("_law_w_item", none), "_law_w_item", "_law_w_item", defArgs s__law_w_item, defBody s__law_w_item, defScope s__law_w_item, [], []⟩
def dd__law_w_model : He.DefD := ⟨("_law_w_model", none), "_law_w_model", "_law_w_model", defArgs s__law_w_model, defBody s__law_w_model, defScope s__law_w_model, [], []⟩
def dd__law_bounded : He.DefD := ⟨("_law_bounded", none), "_law_bounded", "_law_bounded", defArgs s__law_bounded, defBody s__law_bounded, defScope s__law_bounded, [], []⟩
def dd__law_good : He.DefD := ⟨("_law_good", none), "_law_good", "_law_good", defArgs s__law_good, defBody s__law_good, defScope s__law_good, [], []⟩
def dd_law : He.DefD := ⟨("law", none), "law", "law", defArgs s_law, defBody s_law, defScope s_law, [], []⟩
def dds : List He.DefD := [dd_write_model, dd_spaced, dd_item_tokens, dd_listed, dd_process_tokens, dd_body_tokens, dd_statement_tokens, dd_draw_tokens, dd_use_tokens, dd_if_tokens, dd__law_begin, dd__law_draw, dd__law_pick, dd__law_rare, dd__law_small, dd__law_reserved, dd__law_word, dd__law_t_plain, dd__law_t_arms, dd__law_t_nest, dd__law_t_body, dd__law_t_item, dd__law_t_model, dd__law_tower, dd__law_w_body, dd__law_w_statement, dd__law_w_item, dd__law_w_model, dd__law_bounded, dd__law_good, dd_law]
def fas : List He.Fa := [.glo "write_model", .glo "spaced", .glo "item_tokens", .glo "listed", .glo "process_tokens", .glo "body_tokens", .glo "statement_tokens", .glo "draw_tokens", .glo "use_tokens", .glo "if_tokens", .glo "_law_begin", .glo "_law_draw", .glo "_law_pick", .glo "_law_rare", .glo "_law_small", .glo "_law_reserved", .glo "_law_word", .glo "_law_t_plain", .glo "_law_t_arms", .glo "_law_t_nest", .glo "_law_t_body", .glo "_law_t_item", .glo "_law_t_model", .glo "_law_tower", .glo "_law_w_body", .glo "_law_w_statement", .glo "_law_w_item", .glo "_law_w_model", .glo "_law_bounded", .glo "_law_good", .glo "law", .free "int", .free "len", .free "abs", .free "isinstance", .free "range", .free "tuple", .free "str", .free "min"]
def exM (K : PySem.W.Frag) : Bool := true
abbrev R : PySem.W.OpenRow := PySem.W.OpenLaw.row PySem.Challenge.rw_meantrace_k06_models_written
abbrev hk : PySem.W.Hook := hookM 4 fas dds exM
def ob (s : PySem.W.SharedT) : AlM := obsM 4 fas dds exM (HandSHeadRun.getT s)
theorem ob_eq (s : PySem.W.SharedT) : ob s = hk.obs s.abs := obsM_eq (HandSHeadRun.getT_eq s)
def names : List PySem.Str := ["write_model", "spaced", "item_tokens", "listed", "process_tokens", "body_tokens", "statement_tokens", "draw_tokens", "use_tokens", "if_tokens", "_law_begin", "_law_draw", "_law_pick", "_law_rare", "_law_small", "_law_reserved", "_law_word", "_law_t_plain", "_law_t_arms", "_law_t_nest", "_law_t_body", "_law_t_item", "_law_t_model", "_law_tower", "_law_w_body", "_law_w_statement", "_law_w_item", "_law_w_model", "_law_bounded", "_law_good"]
theorem run (w : World) : HandSHeadRun.RunEq R (PySem.W.view R.prog [32]) hk ob 2000 names w := by
  intro os; kernel_rfl
theorem facts {P : Program} {w : World} {K : PySem.W.Frag} {h : Heap} {mg : Str → Option Value} {f : Addr} (X : K.In h) (G : h.Ns mainGlobals mg) (hfa : mg ("law" : Str) = some (.ref f)) (c : SaysM fas dds exM K) :
    ∃ fd : FuncData, (∀ (s : Shared) (v : Value), BindsTo s fd ⟨[v], []⟩ [("script", v)]) ∧ ∀ base : Heap, K.In base → base.Ns mainGlobals mg → FnOk P w K mg base CX0 62 f fd ["script"] (spLaw K) := by
  obtain ⟨fd, F⟩ := c.1.def_ 30 (d := dd_law) rfl
  have e := hfa.symm.trans (He.glo_ok X G (c.1.fact 30 (f := .glo "law") rfl))
  cases e
  have T : Txt K mg := ⟨He.free_ok X G (c.1.fact 31 (f := .free "int") rfl), He.free_ok X G (c.1.fact 32 (f := .free "len") rfl), He.free_ok X G (c.1.fact 33 (f := .free "abs") rfl), He.free_ok X G (c.1.fact 34 (f := .free "isinstance") rfl), He.free_ok X G (c.1.fact 35 (f := .free "range") rfl), He.free_ok X G (c.1.fact 36 (f := .free "tuple") rfl), He.free_ok X G (c.1.fact 37 (f := .free "str") rfl), He.free_ok X G (c.1.fact 38 (f := .free "min") rfl)⟩
  have b := FunD.bindsA (ps := ["script"]) F fun _ _ _ _ _ _ us hl => match us, hl with | [_], _ => rfl
  refine ⟨fd, fun s v => b s [v] rfl, fun base _ _ => ?_⟩
  have D__law_begin : Kept P w K mg base 1 "_law_begin" ["script"] (spBegin K) := kept_of (st := s__law_begin) X G (c.1.def_ 10 (d := dd__law_begin) rfl) (c.1.fact 10 (f := .glo "_law_begin") rfl) (fun _ _ _ _ _ _ us hl => match us, hl with | [_], _ => rfl) (fun f fd F => ok__law_begin T F)
  have D__law_draw : Kept P w K mg base 1 "_law_draw" ["d", "many"] spDraw := kept_of (st := s__law_draw) X G (c.1.def_ 11 (d := dd__law_draw) rfl) (c.1.fact 11 (f := .glo "_law_draw") rfl) (fun _ _ _ _ _ _ us hl => match us, hl with | [_, _], _ => rfl) (fun f fd F => ok__law_draw T F)
  have D__law_reserved : Kept P w K mg base 1 "_law_reserved" [] spRes := kept_of (st := s__law_reserved) X G (c.1.def_ 15 (d := dd__law_reserved) rfl) (c.1.fact 15 (f := .glo "_law_reserved") rfl) (fun _ _ _ _ _ _ us hl => match us, hl with | [], _ => rfl) (fun f fd F => ok__law_reserved T F)
  have D__law_pick : Kept P w K mg base 2 "_law_pick" ["d", "row"] (spPick K) := kept_of (st := s__law_pick) X G (c.1.def_ 12 (d := dd__law_pick) rfl) (c.1.fact 12 (f := .glo "_law_pick") rfl) (fun _ _ _ _ _ _ us hl => match us, hl with | [_, _], _ => rfl) (fun f fd F => ok__law_pick T D__law_draw F)
  have D__law_rare : Kept P w K mg base 2 "_law_rare" ["d", "many"] spRare := kept_of (st := s__law_rare) X G (c.1.def_ 13 (d := dd__law_rare) rfl) (c.1.fact 13 (f := .glo "_law_rare") rfl) (fun _ _ _ _ _ _ us hl => match us, hl with | [_, _], _ => rfl) (fun f fd F => ok__law_rare T D__law_draw F)
  have D__law_small : Kept P w K mg base 3 "_law_small" ["d", "most"] spSmall := kept_of (st := s__law_small) X G (c.1.def_ 14 (d := dd__law_small) rfl) (c.1.fact 14 (f := .glo "_law_small") rfl) (fun _ _ _ _ _ _ us hl => match us, hl with | [_, _], _ => rfl) (fun f fd F => ok__law_small T D__law_draw D__law_rare F)
  have D__law_word : Kept P w K mg base 4 "_law_word" ["d"] spWord := kept_of (st := s__law_word) X G (c.1.def_ 16 (d := dd__law_word) rfl) (c.1.fact 16 (f := .glo "_law_word") rfl) (fun _ _ _ _ _ _ us hl => match us, hl with | [_], _ => rfl) (fun f fd F => ok__law_word T D__law_draw D__law_pick D__law_small D__law_reserved F)
  have D_spaced := (show Kept P w K mg base (1) "spaced" ["token"] spSpaced from kept_of (st := s_spaced) X G (c.1.def_ 1 (d := dd_spaced) rfl) (c.1.fact 1 (f := .glo "spaced") rfl) (fun _ _ _ _ _ _ us hl => match us, hl with | [_], _ => rfl) (fun f fd F => ok_spaced T F))
  have D_listed := (show Kept P w K mg base (1) "listed" ["rows"] (spListed K) from kept_of (st := s_listed) X G (c.1.def_ 3 (d := dd_listed) rfl) (c.1.fact 3 (f := .glo "listed") rfl) (fun _ _ _ _ _ _ us hl => match us, hl with | [_], _ => rfl) (fun f fd F => ok_listed T F))
  have D_item_tokens := (show Kept P w K mg base (2) "item_tokens" ["item"] (spItemT K) from kept_of (st := s_item_tokens) X G (c.1.def_ 2 (d := dd_item_tokens) rfl) (c.1.fact 2 (f := .glo "item_tokens") rfl) (fun _ _ _ _ _ _ us hl => match us, hl with | [_], _ => rfl) (fun f fd F => ok_item T D_listed F))
  have kB : ∀ n, Kept P w K mg base (3 * n + 1) "body_tokens" ["body"] (spBodyT K n) := fun n => by
    induction n with
    | zero => exact (show Kept P w K mg base (1) "body_tokens" ["body"] (spBodyT K 0) from kept_of (st := s_body_tokens) X G (c.1.def_ 5 (d := dd_body_tokens) rfl) (c.1.fact 5 (f := .glo "body_tokens") rfl) (fun _ _ _ _ _ _ us hl => match us, hl with | [_], _ => rfl) (fun f fd F => ok_body0 F))
    | succ n D_body_tokens =>
      have D_draw_tokens := (show Kept P w K mg base (3 * n + 2) "draw_tokens" ["statement"] (spKindT K n isDraw) from kept_of (st := s_draw_tokens) X G (c.1.def_ 7 (d := dd_draw_tokens) rfl) (c.1.fact 7 (f := .glo "draw_tokens") rfl) (fun _ _ _ _ _ _ us hl => match us, hl with | [_], _ => rfl) (fun f fd F => ok_draw_t T D_body_tokens F))
      have D_use_tokens := (show Kept P w K mg base (3 * n + 2) "use_tokens" ["statement"] (spKindT K n isUse) from kept_of (st := s_use_tokens) X G (c.1.def_ 8 (d := dd_use_tokens) rfl) (c.1.fact 8 (f := .glo "use_tokens") rfl) (fun _ _ _ _ _ _ us hl => match us, hl with | [_], _ => rfl) (fun f fd F => ok_use_t T D_body_tokens F))
      have D_if_tokens := (show Kept P w K mg base (3 * n + 2) "if_tokens" ["statement"] (spKindT K n isIf) from kept_of (st := s_if_tokens) X G (c.1.def_ 9 (d := dd_if_tokens) rfl) (c.1.fact 9 (f := .glo "if_tokens") rfl) (fun _ _ _ _ _ _ us hl => match us, hl with | [_], _ => rfl) (fun f fd F => ok_if_t T D_body_tokens F))
      have D_statement_tokens := (show Kept P w K mg base (3 * n + 3) "statement_tokens" ["statement"] (spStmT K n) from kept_of (st := s_statement_tokens) X G (c.1.def_ 6 (d := dd_statement_tokens) rfl) (c.1.fact 6 (f := .glo "statement_tokens") rfl) (fun _ _ _ _ _ _ us hl => match us, hl with | [_], _ => rfl) (fun f fd F => ok_stm T D_listed D_body_tokens D_draw_tokens D_use_tokens D_if_tokens F))
      exact (show Kept P w K mg base (3 * n + 4) "body_tokens" ["body"] (spBodyT K (n + 1)) from kept_of (st := s_body_tokens) X G (c.1.def_ 5 (d := dd_body_tokens) rfl) (c.1.fact 5 (f := .glo "body_tokens") rfl) (fun _ _ _ _ _ _ us hl => match us, hl with | [_], _ => rfl) (fun f fd F => ok_body T D_statement_tokens F))
  have kW : ∀ n, Kept P w K mg base (3 * n + 3) "write_model" ["model"] (spWrite K n) := fun n => by
    have D_process_tokens := (show Kept P w K mg base (3 * n + 2) "process_tokens" ["process"] (spProcT K n) from kept_of (st := s_process_tokens) X G (c.1.def_ 4 (d := dd_process_tokens) rfl) (c.1.fact 4 (f := .glo "process_tokens") rfl) (fun _ _ _ _ _ _ us hl => match us, hl with | [_], _ => rfl) (fun f fd F => ok_proc T (kB n) F))
    exact (show Kept P w K mg base (3 * n + 3) "write_model" ["model"] (spWrite K n) from kept_of (st := s_write_model) X G (c.1.def_ 0 (d := dd_write_model) rfl) (c.1.fact 0 (f := .glo "write_model") rfl) (fun _ _ _ _ _ _ us hl => match us, hl with | [_], _ => rfl) (fun f fd F => ok_write T D_spaced D_item_tokens D_process_tokens F))
  have D__law_w_item := (show Kept P w K mg base (1) "_law_w_item" ["item"] (spWI K) from kept_of (st := s__law_w_item) X G (c.1.def_ 26 (d := dd__law_w_item) rfl) (c.1.fact 26 (f := .glo "_law_w_item") rfl) (fun _ _ _ _ _ _ us hl => match us, hl with | [_], _ => rfl) (fun f fd F => ok_witem T F))
  have wB : ∀ n, Kept P w K mg base (2 * n + 1) "_law_w_body" ["body", "odd"] (spWB K n) := fun n => by
    induction n with
    | zero => exact (show Kept P w K mg base (1) "_law_w_body" ["body", "odd"] (spWB K 0) from kept_of (st := s__law_w_body) X G (c.1.def_ 24 (d := dd__law_w_body) rfl) (c.1.fact 24 (f := .glo "_law_w_body") rfl) (fun _ _ _ _ _ _ us hl => match us, hl with | [_, _], _ => rfl) (fun f fd F => ok_wbody0 F))
    | succ n D_body =>
      have D_stm := (show Kept P w K mg base (2 * n + 2) "_law_w_statement" ["statement", "odd"] (spWS K n) from kept_of (st := s__law_w_statement) X G (c.1.def_ 25 (d := dd__law_w_statement) rfl) (c.1.fact 25 (f := .glo "_law_w_statement") rfl) (fun _ _ _ _ _ _ us hl => match us, hl with | [_, _], _ => rfl) (fun f fd F => ok_wstm T D_body F))
      exact (show Kept P w K mg base (2 * n + 3) "_law_w_body" ["body", "odd"] (spWB K (n + 1)) from kept_of (st := s__law_w_body) X G (c.1.def_ 24 (d := dd__law_w_body) rfl) (c.1.fact 24 (f := .glo "_law_w_body") rfl) (fun _ _ _ _ _ _ us hl => match us, hl with | [_, _], _ => rfl) (fun f fd F => ok_wbody T D_stm F))
  have wM : ∀ n, Kept P w K mg base (2 * n + 2) "_law_w_model" ["model", "odd"] (spWM K n) := fun n => (show Kept P w K mg base (2 * n + 2) "_law_w_model" ["model", "odd"] (spWM K n) from kept_of (st := s__law_w_model) X G (c.1.def_ 27 (d := dd__law_w_model) rfl) (c.1.fact 27 (f := .glo "_law_w_model") rfl) (fun _ _ _ _ _ _ us hl => match us, hl with | [_, _], _ => rfl) (fun f fd F => ok_wmodel T D__law_w_item (wB n) F))
  have tP : ∀ n, Kept P w K mg base 5 "_law_t_plain" ["d", "word"] (spPlain K n) := fun n => (show Kept P w K mg base (5) "_law_t_plain" ["d", "word"] (spPlain K n) from kept_of (st := s__law_t_plain) X G (c.1.def_ 17 (d := dd__law_t_plain) rfl) (c.1.fact 17 (f := .glo "_law_t_plain") rfl) (fun _ _ _ _ _ _ us hl => match us, hl with | [_, _], _ => rfl) (fun f fd F => ok_tplain T D__law_draw D__law_small D__law_word F))
  have kT : ∀ k n, k < n → Kept P w K mg base (2 * k + 6) "_law_t_body" ["d", "left", "depth"] (spTB K k n) := fun k => by
    induction k using Nat.strongRecOn with
    | ind k ih =>
      intro n hn
      obtain ⟨m, rfl⟩ : ∃ m, n = m + 1 := ⟨n - 1, by omega⟩
      have D_nest : Kept P w K mg base (2 * k + 5) "_law_t_nest" ["d", "word", "left", "depth"] (spNest K k m) := by
        by_cases h : k < 2
        · exact (show Kept P w K mg base (2 * k + 5) "_law_t_nest" ["d", "word", "left", "depth"] (spNest K k m) from kept_of (st := s__law_t_nest) X G (c.1.def_ 19 (d := dd__law_t_nest) rfl) (c.1.fact 19 (f := .glo "_law_t_nest") rfl) (fun _ _ _ _ _ _ us hl => match us, hl with | [_, _, _, _], _ => rfl) (fun f fd F => ok_tnest0 h F))
        · obtain ⟨j, rfl⟩ : ∃ j, k = j + 2 := ⟨k - 2, by omega⟩
          obtain ⟨i, rfl⟩ : ∃ i, m = i + 1 := ⟨m - 1, by omega⟩
          have D_arms := (show Kept P w K mg base (2 * j + 7) "_law_t_arms" ["d", "left", "depth"] (spArms K j (i + 1)) from kept_of (st := s__law_t_arms) X G (c.1.def_ 18 (d := dd__law_t_arms) rfl) (c.1.fact 18 (f := .glo "_law_t_arms") rfl) (fun _ _ _ _ _ _ us hl => match us, hl with | [_, _, _], _ => rfl) (fun f fd F => ok_tarms T D__law_draw D__law_small (ih j (by omega) (i + 1) (by omega)) F))
          exact (show Kept P w K mg base (2 * (j + 2) + 5) "_law_t_nest" ["d", "word", "left", "depth"] (spNest K (j + 2) (i + 1)) from kept_of (st := s__law_t_nest) X G (c.1.def_ 19 (d := dd__law_t_nest) rfl) (c.1.fact 19 (f := .glo "_law_t_nest") rfl) (fun _ _ _ _ _ _ us hl => match us, hl with | [_, _, _, _], _ => rfl) (fun f fd F => ok_tnest T D__law_draw D__law_pick D__law_word D_arms (ih (j + 1) (by omega) (i + 1) (by omega)) F))
      exact (show Kept P w K mg base (2 * k + 6) "_law_t_body" ["d", "left", "depth"] (spTB K k (m + 1)) from kept_of (st := s__law_t_body) X G (c.1.def_ 20 (d := dd__law_t_body) rfl) (c.1.fact 20 (f := .glo "_law_t_body") rfl) (fun _ _ _ _ _ _ us hl => match us, hl with | [_, _, _], _ => rfl) (fun f fd F => ok_tbody T D__law_draw D__law_pick (tP m) D_nest F))
  have D_titem := (show Kept P w K mg base (5) "_law_t_item" ["d"] (spItemD K) from kept_of (st := s__law_t_item) X G (c.1.def_ 21 (d := dd__law_t_item) rfl) (c.1.fact 21 (f := .glo "_law_t_item") rfl) (fun _ _ _ _ _ _ us hl => match us, hl with | [_], _ => rfl) (fun f fd F => ok_titem T D__law_draw D__law_pick D__law_small D__law_word F))
  have D_tmodel := (show Kept P w K mg base (19) "_law_t_model" ["d", "most", "depth"] (spTM K) from kept_of (st := s__law_t_model) X G (c.1.def_ 22 (d := dd__law_t_model) rfl) (c.1.fact 22 (f := .glo "_law_t_model") rfl) (fun _ _ _ _ _ _ us hl => match us, hl with | [_, _, _], _ => rfl) (fun f fd F => ok_tmodel T D__law_draw D__law_word D_titem (kT 6 7 (by omega)) F))
  have D_bounded := (show Kept P w K mg base (20) "_law_bounded" ["d"] (spBounded K) from kept_of (st := s__law_bounded) X G (c.1.def_ 28 (d := dd__law_bounded) rfl) (c.1.fact 28 (f := .glo "_law_bounded") rfl) (fun _ _ _ _ _ _ us hl => match us, hl with | [_], _ => rfl) (fun f fd F => ok_bounded T D_tmodel (wM 7) F))
  have D_tower := (show Kept P w K mg base (5) "_law_tower" ["d", "many"] (spTower K) from kept_of (st := s__law_tower) X G (c.1.def_ 23 (d := dd__law_tower) rfl) (c.1.fact 23 (f := .glo "_law_tower") rfl) (fun _ _ _ _ _ _ us hl => match us, hl with | [_, _], _ => rfl) (fun f fd F => ok_tower T D__law_draw D__law_pick D__law_word F))
  have D_good := (show Kept P w K mg base (61) "_law_good" ["model"] (spGood K) from kept_of (st := s__law_good) X G (c.1.def_ 29 (d := dd__law_good) rfl) (c.1.fact 29 (f := .glo "_law_good") rfl) (fun _ _ _ _ _ _ us hl => match us, hl with | [_], _ => rfl) (fun f fd F => ok_good T kW wM F))
  exact ok_law T D__law_begin D__law_draw D__law_pick D_tower D_bounded D_good F
end Mt
open PySem PySem.W PySem.Calls PyProof.Rows
set_option maxHeartbeats 0 in
theorem PySem.Challenge.cw_meantrace_k06_models_written_holds : PySem.Challenge.rw_meantrace_k06_models_written.Holds := by
  w_on; o_law
  refine HandSHeadRun.head_any (r := OpenLaw.row PySem.Challenge.rw_meantrace_k06_models_written) (q := view (OpenLaw.row PySem.Challenge.rw_meantrace_k06_models_written).prog [32]) (H := Mt.hk) (ob := Mt.ob) (M := 2000) (loose := Mt.names) (d := HandSHeadRun.topDef (OpenLaw.row PySem.Challenge.rw_meantrace_k06_models_written).prog 32) (kwd := []) Mt.ob_eq
    (by kernel_rfl) (fun s => by kernel_rfl) Mt.run (by kernel_rfl) (by kernel_rfl) (by kernel_rfl) (by rfl) (by first | assumption | decide +kernel) (by decide +kernel) ⟨rfl, rfl, rfl, rfl, rfl, by decide +kernel⟩ ?hw ?hc
  case hw => w_witness2
  case hc =>
    refine L2.walk_ofE (l := PySem.Challenge.rw_meantrace_k06_models_written) (n := 63) (k := 62) (x := "script") (CX := L2.CX0) rfl (by decide) (by kernel_rfl) ⟨rfl, by decide, by decide⟩ ?F (fun _ _ _ _ z => z)
    intro w mg fa h Y G hmg0
    obtain ⟨K, KX, c⟩ := Y
    have hmg : mg ("law" : PySem.Str) = some (.ref fa) := by
      have e : (HandSHeadRun.topDef (OpenLaw.row PySem.Challenge.rw_meantrace_k06_models_written).prog 32).name = ("law" : PySem.Str) := by kernel_rfl
      rw [← e]
      exact hmg0
    obtain ⟨fd, hb, hF⟩ := Mt.facts (P := (PySem.Challenge.rw_meantrace_k06_models_written).prog) (w := w) KX G hmg c
    exact ⟨K, fd, Mt.spLaw K, KX, hb, fun H a ns hl hO hS => ⟨a, ns, rfl, hS, hl, fun _ => rfl⟩, hF⟩
