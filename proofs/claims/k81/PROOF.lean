import PyProof.Rows.All
import Wide.All
import OpenK.AllK
import Wide.FinOn
import KE.KStateDown
import HandS.ForMost
import HandS.Wide
import HandS.IsInst
import HandS.Walk
import HandS.Style
import HandS.Evl
import HandS.StrMore
import HandS.Exc
import HandS.WordsExc
import HandS.Defaults
import HandS.Head0
import HandS.Head1
import HandS.Head2
import HandS.HeadEnd
import HandS.HeadHook1
import HandS.HeadHook2
import HandS.Gcd
import HandS.Head3
import HandS.Star
import HandS.RaiseMore
import HandS.AnyAll
import HandS.Conv
import HandS.More
import HandS.Small
import HandS.HeadHook3
import HandS.HeadHook4
import HandS.HeadWalk
import HandS.EndTab
import PyProof.GenCompT
import PyProof.TupleOfGen
import PyProof.WalksPairs
import KE.KTupSum
import KE.DataMinMax
import HandS.SortKw
import HandS.TupAny
import KE.KDictKeyed
import KE.SortData
import KE.KDictSum
import PySem.Challenge.RW_meantrace_k81_rows_chanced
set_option Elab.async false
set_option linter.all false
set_option maxRecDepth 100000
/-! Our own words over the hand layer: defs of the top by name, the draws' state, heaps that go on. -/
namespace Mt
open PySem PySem.Spec PyProof.Rows L2
section
variable {P : Program} {w : World} {K : PySem.W.Frag} {mg : Str → Option Value} {base : Heap}
abbrev FnP (K : PySem.W.Frag) (x : Str) (st : Stmt) (f : Addr) (fd : FuncData) : Prop := FunD K x x (defArgs st) (defBody st) (defScope st) [] [] f fd
/-- a def that keeps its promise -/
def Kept (P : Program) (w : World) (K : PySem.W.Frag) (mg : Str → Option Value) (base : Heap) (k : Nat) (x : Str) (ps : List Str) (sp : Sp) : Prop :=
  ∃ f fd, FnOk P w K mg base CX0 k f fd ps sp ∧ mg x = some (.ref f) ∧ PySem.W.keepIn K (.ref f) = true ∧ Binds K fd ps []
/-- what the head tells: facts by names, defs, one more word of one's own -/
abbrev AlM : Type := He.AlD × Bool
def obsM (n : Nat) (fa : List He.Fa) (fn : List He.DefD) (ex : PySem.W.Frag → Bool) (g : Addr → Option Obj) : AlM := (He.obsDG n fa fn g, ex (He.frG g (He.asD g n)))
def SaysM (fa : List He.Fa) (fn : List He.DefD) (ex : PySem.W.Frag → Bool) (K : PySem.W.Frag) : Prop := He.SaysD fa fn K ∧ ex K = true
def hookM (n : Nat) (fa : List He.Fa) (fn : List He.DefD) (ex : PySem.W.Frag → Bool) : PySem.W.Hook where
  α := AlM
  obs := fun s => obsM n fa fn ex s.heap.get?
  val := fun _ => (He.valD fn, true)
  says := fun _ h => ∃ K : PySem.W.Frag, K.In h ∧ SaysM fa fn ex K
  of := fun _ _ e => ⟨_, He.frG_in, congrArg (fun z : AlM => z.1) e, congrArg (fun z : AlM => z.2) e⟩
  keeps := fun _ _ _ ⟨K, hK, c⟩ k => ⟨K, PySem.W.Frag.In.keeps hK k, c⟩
theorem obsM_eq {n : Nat} {fa : List He.Fa} {fn : List He.DefD} {ex : PySem.W.Frag → Bool} {g : Addr → Option Obj} {s : Shared} (h : ∀ a, g a = s.heap.get? a) : obsM n fa fn ex g = (hookM n fa fn ex).obs s := by
  have e : g = s.heap.get? := funext h
  rw [e] <;> rfl
theorem kept_of {h : Heap} (X : K.In h) (G : h.Ns mainGlobals mg) {x : Str} {ps : List Str} {st : Stmt} {k : Nat} {sp : Sp}
    (hd : ∃ fd, FnP K x st (He.ga K x) fd) (hg : (He.Fa.glo x).ok K = true)
    (hb : ∀ (kV doc pm : Value) (an : Option Addr) (cdv ct : Value) (us : List Value), us.length = ps.length → bindArgs (PySem.W.fnOf x x (defArgs st) (defBody st) (defScope st) .none kV doc pm an cdv ct) ⟨us, []⟩ = pure (ps.zip us))
    (ok : ∀ f fd, FnP K x st f fd → FnOk P w K mg base CX0 k f fd ps sp) : Kept P w K mg base k x ps sp := by
  obtain ⟨fd, F⟩ := hd
  exact ⟨_, fd, ok _ fd F, He.glo_ok X G hg, F.kp, F.bindsN hb⟩
end
section
variable {X : Cx}
theorem pe_d {k : Nat} {x : Str} {ps : List Str} {sp : Sp} {e : Expr} {es : List Expr} {t : TA} {p pos : Pos} (D : Kept X.prog X.w X.K X.mg X.base k x ps sp) (hr : Room k X.A) (hg : Gl X x) (ha : PA X (e :: es) t)
    (hdb : (x == ("__debug__" : Str)) = false := by decide) (he : starEach (e :: es) X.env = (false, eval e X.env) :: starEach es X.env := by rfl) (hpl : (backTo pos (starEach es X.env)).any (·.1) = false := by rfl) :
    PE X (.Call (.Name x p) (e :: es) [] pos) (tCall sp [] E0 t) := by
  obtain ⟨f, fd, F, g, kp, b⟩ := D
  exact pe_call F hr hg g kp b .nil pass0 ha hdb he hpl
theorem pe_d0 {k : Nat} {x : Str} {ps : List Str} {sp : Sp} {p pos : Pos} (D : Kept X.prog X.w X.K X.mg X.base k x ps sp) (hr : Room k X.A) (hg : Gl X x) (hdb : (x == ("__debug__" : Str)) = false := by decide) :
    PE X (.Call (.Name x p) [] [] pos) (tCall sp [] E0 tNil) := by
  obtain ⟨f, fd, F, g, kp, b⟩ := D
  exact pe_call0 F hr hg g kp b .nil pass0 hdb
/-- a text of the module; an object of the module -/
theorem pe_gs {x z : Str} {pos : Pos} (h : ∃ t, X.mg x = some (.str z t)) (hg : Gl X x) (hd : (x == ("__debug__" : Str)) = false := by decide) : PE X (.Name x pos) (tC (.str z)) := by
  obtain ⟨t, h⟩ := h
  exact pe_glob hg h ⟨_, rfl⟩ hd
/-- xs[i] op= e reads xs[i] -/
theorem get_list : PGet X (rIxL X.K) := by
  intro pins s σ H o i ov iv Q I ro ri h
  obtain ⟨p, xs, i, z, rfl, rfl, hq, he, q⟩ := h
  cases ro
  obtain ⟨t, rfl⟩ := ri
  obtain ⟨its, r, pl, hz⟩ := I.list hq
  obtain ⟨j, h1, h2, h3, h4, h5⟩ := atI_get he
  obtain ⟨w, ew, rw'⟩ := r.get h2
  have hl := r.length
  have hn := line63
  have fin : EP X pins σ Q w s := ⟨z, H, I, rw', q⟩
  by_cases h0 : 0 ≤ i
  · have hj : i.toNat = j := by
      rw [seqIndex_of h0 h5] at h1
      exact Option.some.inj h1
    exact wpAny_mono (wpAny_getItem_list (Q := fun r s' => r = w ∧ EP X pins σ Q r s') pl.isList h0 (by omega) (by rw [hj]; simpa using ew) ⟨rfl, fin⟩) (fun _ _ q => q.2) (fun _ _ q => q)
  · have hj : (i + (its.toArray.size : Int)).toNat = j := by
      rw [seqIndex_neg (by omega) h4] at h1
      rw [List.size_toArray, ← hl]
      exact Option.some.inj h1
    exact wpAny_mono (wpAny_getItem_list_neg (Q := fun r s' => r = w ∧ EP X pins σ Q r s') pl.isList (by omega) (by rw [List.size_toArray] <;> omega) (by omega) (by rw [hj]; simpa using ew) ⟨rfl, fin⟩) (fun _ _ q => q.2) (fun _ _ q => q)
end

/-! ### the draws: [cells, place, rest, seed] at D -/
structure DrawAt (S D : Addr) (H : Hp) : Prop where
  ne : S ≠ D
  cells : ∃ cs : List Int, H S = some (.lst (cs.map V.int))
  at_ : ∃ i r c : Int, 0 ≤ i ∧ H D = some (.lst [.ref S, .int i, .int r, .int c])
/-- all else that is tracked stays -/
def Keep (D : Addr) (H H' : Hp) : Prop := ∀ b o, H b = some o → b ≠ D → H' b = some o
def Go (S D : Addr) (H H' : Hp) : Prop := DrawAt S D H' ∧ Keep D H H'
theorem Keep.refl {D : Addr} {H : Hp} : Keep D H H := fun _ _ h _ => h
theorem Keep.trans {D : Addr} {H H1 H2 : Hp} (a : Keep D H H1) (b : Keep D H1 H2) : Keep D H H2 := fun x o h n => b x o (a x o h n) n
theorem Go.trans {S D : Addr} {H H1 H2 : Hp} (a : Go S D H H1) (b : Go S D H1 H2) : Go S D H H2 := ⟨b.1, a.2.trans b.2⟩
theorem Keep.set {D : Addr} {H H' : Hp} {o : HO} (k : Keep D H H') : Keep D H (upd H' D o) := fun b u h n => by
  rw [upd_ne n]
  exact k b u h n
theorem DrawAt.set {S D : Addr} {H : Hp} (d : DrawAt S D H) {i r c : Int} (h : 0 ≤ i) : DrawAt S D (upd H D (.lst [.ref S, .int i, .int r, .int c])) :=
  ⟨d.ne, d.cells.imp fun cs h => by rw [upd_ne d.ne]; exact h, ⟨i, r, c, h, upd_same⟩⟩
theorem DrawAt.new {S D p : Addr} {H : Hp} {o : HO} (d : DrawAt S D H) (h : H p = none) : DrawAt S D (upd H p o) := by
  obtain ⟨cs, h1⟩ := d.cells
  obtain ⟨i, r, c, h0, h2⟩ := d.at_
  exact ⟨d.ne, ⟨cs, by rw [upd_ne (ne_of_none h1 h)]; exact h1⟩, ⟨i, r, c, h0, by rw [upd_ne (ne_of_none h2 h)]; exact h2⟩⟩
theorem Keep.new {D p : Addr} {H : Hp} {o : HO} (h : H p = none) : Keep D H (upd H p o) := fun b u e _ => by
  rw [upd_ne (ne_of_none e h)]
  exact e
theorem Go.new {S D p : Addr} {H : Hp} {o : HO} (d : DrawAt S D H) (h : H p = none) : Go S D H (upd H p o) := ⟨d.new h, Keep.new h⟩
theorem Go.same {S D : Addr} {H H' : Hp} (d : DrawAt S D H) (h : Same H H') : Go S D H H' := by
  obtain ⟨cs, h1⟩ := d.cells
  obtain ⟨i, r, c, h0, h2⟩ := d.at_
  exact ⟨⟨d.ne, ⟨cs, h _ _ h1⟩, ⟨i, r, c, h0, h _ _ h2⟩⟩, fun b o e _ => h b o e⟩
theorem Go.refl {S D : Addr} {H : Hp} (d : DrawAt S D H) : Go S D H H := ⟨d, Keep.refl⟩
/-- a fresh place stays fresh when looked at from behind -/
theorem DrawAt.free {S D p : Addr} {H : Hp} (d : DrawAt S D H) (h : H p = none) : p ≠ D ∧ p ≠ S := by
  obtain ⟨cs, h1⟩ := d.cells
  obtain ⟨i, r, c, h0, h2⟩ := d.at_
  exact ⟨(ne_of_none h2 h).symm, (ne_of_none h1 h).symm⟩
theorem Go.free {S D p : Addr} {H H' : Hp} (g : Go S D H H') (d : DrawAt S D H) (h : H' p = none) : H p = none := by
  cases q : H p with
  | none => rfl
  | some o =>
    by_cases e : p = D
    · exact absurd e (g.1.free h).1
    · rw [g.2 p o q e] at h
      cases h
def spDraw : Sp := fun vs H Q _ => ∃ (S D : Addr) (many : Int), vs = [.ref D, .int many] ∧ CDivW 0 many ∧ DrawAt S D H ∧ ∀ H' v, 0 ≤ v → v < many → Go S D H H' → Q (.int v) H'
end Mt
/-! ### dicts whose keys are (tuple of texts, int), at the library's level, told in our heap -/
namespace ND
open PySem PySem.Spec PyProof.Rows L2
abbrev KN : Type := List Str × Int
def nk (k : KN) : NestedKey := .tup [.tup (k.1.map .text), .num k.2]
theorem texts_inj : ∀ {a b : List Str}, a.map NestedKey.text = b.map NestedKey.text → a = b
  | [], [], _ => rfl
  | x :: a, y :: b, h => by
    obtain ⟨h1, h2⟩ := List.cons.inj (show NestedKey.text x :: a.map .text = .text y :: b.map .text from h)
    rw [NestedKey.text.inj h1, texts_inj h2]
  | [], _ :: _, h => by cases h
  | _ :: _, [], h => by cases h
theorem nk_inj {a b : KN} (h : nk a = nk b) : a = b := by
  unfold nk at h
  obtain ⟨h1, h2⟩ := List.cons.inj (NestedKey.tup.inj h)
  exact Prod.ext (texts_inj (NestedKey.tup.inj h1)) (NestedKey.num.inj (List.cons.inj h2).1)
/-- an entry: the key, where its tuple stands, the value -/
abbrev En : Type := KN × Addr × V
abbrev EnV : Type := NestedKey × Addr × Value
def RelE (p : En) (q : EnV) : Prop := q.1 = nk p.1 ∧ p.2.1 = q.2.1 ∧ RelV p.2.2 q.2.2
def NdP (P : Program) (w : World) (a : Addr) (xs : List En) (h : Heap) : Prop := xs.length ≤ sizeLine ∧ (a == sysModules) = false ∧ ∃ ys : List EnV, Paired RelE xs ys ∧
  ∃ o es ep, h.get? a = some o ∧ o.ExactDict ∧ o.data = .dict es ep ∧ es.toList = ys.map (entryOfKey (nestedKind P w)) ∧ (ys.map (·.1)).Nodup
def ND (P : Program) (w : World) (a : Addr) (xs : List En) : HO := .ext (NdP P w a xs)
theorem nd_ok {P : Program} {w : World} {H : Hp} {h : Heap} {a : Addr} {xs : List En} (x : NdP P w a xs h) : ObjOk P w H h a (ND P w a xs) := by
  refine ⟨x, ?_, fun h1 h2 y k => ?_⟩
  · obtain ⟨_, _, _, _, o, _, _, e, _⟩ := x
    exact ⟨o, e⟩
  · obtain ⟨y1, y2, ys, y3, o, es, ep, e, r⟩ := y
    exact ⟨y1, y2, ys, y3, o, es, ep, k o e, r⟩
/-- the key's tuples stand -/
def NkT (K : PySem.W.Frag) (H : Hp) (k : KN) (a : Addr) : Prop := ∃ b, SqT K H a [.ref b, .int k.2] ∧ SqT K H b (k.1.map V.str)
def KeysOk (K : PySem.W.Frag) (H : Hp) (xs : List En) : Prop := ∀ x ∈ xs, NkT K H x.1 x.2.1
theorem all_texts {h : Heap} : ∀ {ss : List Str} {us : List Value}, Vals (ss.map V.str) us → NestedAll h (ss.map .text) us
  | [], _, .nil => .nil
  | s :: r, _, .cons e t => by
    obtain ⟨tk, rfl⟩ := e
    exact .cons (.text s tk) (all_texts t)
theorem dep_texts : ∀ ss : List Str, NestedKey.depthAll (ss.map .text) = 0
  | [] => by simp [NestedKey.depthAll]
  | s :: r => by
    show NestedKey.depthAll (.text s :: r.map .text) = 0
    rw [NestedKey.depthAll, dep_texts r]
    simp [NestedKey.depth]
section
variable {X : Cx} {pins : List (Addr × Obj)} {σ : L2.St} {H : Hp} {s : Shared} {a b : Addr} {xs : List En} {k : KN}
theorem key_is (I : Inv X pins σ H s) (h : NkT X.K H k a) : (nestedKind X.prog X.w).is s.heap (nk k) a := by
  obtain ⟨b, h1, h2⟩ := h
  obtain ⟨its, rv, ⟨o, e1, e2, n, e3⟩, _⟩ := I.tuple h1
  obtain ⟨its2, rv2, ⟨o2, f1, f2, n2, f3⟩, _⟩ := I.tuple h2
  obtain ⟨u1, u2, rfl, r1, r2⟩ := Vals.two rv
  obtain rfl : u1 = Value.ref b := r1
  obtain ⟨t, rfl⟩ := r2
  refine ⟨.tup e1 e2 e3 (.cons (.tup f1 f2 f3 ?_) (.cons (.int _ _) .nil)), ?_⟩
  · exact all_texts rv2
  · show NestedKey.depth (.tup [.tup (k.1.map .text), .num k.2]) ≤ 8
    simp [NestedKey.depth, NestedKey.depthAll, dep_texts]
theorem rel_mem {xs : List En} {ys : List EnV} (r : Paired RelE xs ys) : ∀ y ∈ ys, ∃ x ∈ xs, RelE x y := by
  induction r with
  | nil => intro y hy; cases hy
  | cons e t ih =>
    intro y hy
    rcases List.mem_cons.mp hy with h | h
    · subst h
      exact ⟨_, List.mem_cons_self, e⟩
    · obtain ⟨x, h1, h2⟩ := ih y h
      exact ⟨x, List.mem_cons_of_mem _ h1, h2⟩
theorem nd_rd (I : Inv X pins σ H s) (h : Rd H a (ND X.prog X.w a xs)) (hk : KeysOk X.K H xs) : (a == sysModules) = false ∧ xs.length ≤ sizeLine ∧ ∃ ys : List EnV, Paired RelE xs ys ∧ s.heap.DictOfH (nestedKind X.prog X.w) a ys := by
  obtain ⟨⟨h1, h2, ys, h3, o, es, ep, h4, h5, h6, h7, h8⟩, _⟩ := h.ok I.hok
  refine ⟨h2, h1, ys, h3, o, es, ep, h4, h5, h6, h7, fun y hy => ?_, h8⟩
  obtain ⟨x, hx, e1, e2, _⟩ := rel_mem h3 y hy
  rw [e1, ← e2]
  exact key_is I (hk x hx)
end
/-- what stands at a key; the entries behind a store -/
def atN (xs : List En) (k : KN) : Option (Addr × V) := (xs.find? fun x => decide (x.1 = k)).map (·.2)
def putN (xs : List En) (k : KN) (a : Addr) (v : V) : List En := if (atN xs k).isSome then xs.map (fun x => if x.1 = k then (x.1, x.2.1, v) else x) else xs ++ [(k, a, v)]
theorem rel_at {xs : List En} {ys : List EnV} (r : Paired RelE xs ys) (k : KN) : (atN xs k = none ∧ atKey ys (nk k) = none) ∨ ∃ p q, atN xs k = some p ∧ atKey ys (nk k) = some q ∧ p.1 = q.1 ∧ RelV p.2 q.2 := by
  induction r with
  | nil => exact .inl ⟨rfl, rfl⟩
  | @cons x y xs ys e t ih =>
    obtain ⟨e1, e2, e3⟩ := e
    by_cases h : x.1 = k
    · refine .inr ⟨x.2, y.2, ?_, ?_, e2, e3⟩
      · unfold atN
        rw [List.find?_cons, decide_eq_true h]
        rfl
      · unfold atKey
        rw [List.find?_cons, decide_eq_true (by rw [e1, h])]
        rfl
    · have hn : ¬ y.1 = nk k := fun e => h (nk_inj (by rw [← e1, e]))
      have a1 : atN (x :: xs) k = atN xs k := by
        unfold atN
        rw [List.find?_cons, decide_eq_false h]
      have a2 : atKey (y :: ys) (nk k) = atKey ys (nk k) := by
        unfold atKey
        rw [List.find?_cons, decide_eq_false hn]
      rw [a1, a2]
      exact ih
theorem rel_app {xs : List En} {ys : List EnV} (r : Paired RelE xs ys) {x : En} {y : EnV} (e : RelE x y) : Paired RelE (xs ++ [x]) (ys ++ [y]) := by
  induction r with
  | nil => exact .cons e .nil
  | cons e' t ih => exact .cons e' ih
theorem rel_map {xs : List En} {ys : List EnV} (r : Paired RelE xs ys) {k : KN} {v : V} {u : Value} (rv : RelV v u) : Paired RelE (xs.map (fun x => if x.1 = k then (x.1, x.2.1, v) else x)) (ys.map (putAt (nk k) u)) := by
  induction r with
  | nil => exact .nil
  | @cons x y xs ys e t ih =>
    obtain ⟨e1, e2, e3⟩ := e
    rw [List.map_cons, List.map_cons]
    refine .cons ?_ ih
    by_cases h : x.1 = k
    · rw [if_pos h, show putAt (nk k) u y = (y.1, y.2.1, u) from if_pos (by rw [e1, h])]
      exact ⟨e1, e2, rv⟩
    · rw [if_neg h, show putAt (nk k) u y = y from if_neg fun e => h (nk_inj (by rw [← e1, e]))]
      exact ⟨e1, e2, e3⟩
theorem rel_put {xs : List En} {ys : List EnV} (r : Paired RelE xs ys) {k : KN} {a : Addr} {v : V} {u : Value} (rv : RelV v u) : Paired RelE (putN xs k a v) (storedH ys (nk k) a u) := by
  rcases rel_at r k with ⟨h1, h2⟩ | ⟨p, q, h1, h2, _, _⟩
  · rw [storedH_new h2]
    unfold putN
    rw [h1]
    exact rel_app r ⟨rfl, rfl, rv⟩
  · rw [storedH_old h2]
    unfold putN
    rw [h1]
    exact rel_map r rv
theorem len_put (xs : List En) (k : KN) (a : Addr) (v : V) : (putN xs k a v).length ≤ xs.length + 1 := by
  unfold putN
  split
  · rw [List.length_map]
    exact Nat.le_succ _
  · rw [List.length_append]
    exact Nat.le_refl _
theorem keys_put {K : PySem.W.Frag} {H H' : Hp} {xs : List En} {k : KN} {a : Addr} {v : V} (h : KeysOk K H xs) (hk : NkT K H k a) : KeysOk K H (putN xs k a v) := by
  unfold putN
  split
  · intro x hx
    obtain ⟨y, hy, rfl⟩ := List.mem_map.mp hx
    have := h y hy
    split
    · exact this
    · exact this
  · intro x hx
    rcases List.mem_append.mp hx with h1 | h1
    · exact h x h1
    · rw [List.mem_singleton.mp h1]
      exact hk
section
variable {X : Cx} {o i value : Expr} {pos pos' : Pos} {td ty tv : TE}
def tNNew (P : Program) (w : World) : TE := fun _ H Q => ∀ p, H p = none → Q (.ref p) (upd H p (ND P w p []))
theorem pe_nnew : PE X (.Dict [] [] pos) (tNNew X.prog X.w) := ⟨fun pins s σ H Q I h =>
  wpAny_Dict_empty ⟨.ref s.heap.objs.size, _, I.laid (a := s.heap.objs.size) (o := ND X.prog X.w s.heap.objs.size []) (t' := s.toks) (fun _ _ q => Heap.get?_push_of_some _ q) (Nat.le_refl _)
    (nd_ok ⟨Nat.zero_le _, beq_eq_false_iff_ne.mpr (Ne.symm (Nat.ne_of_lt I.big)), [], .nil, _, #[], 0, Heap.get?_push_size _ rfl, ⟨rfl, rfl, rfl⟩, rfl, rfl, List.nodup_nil⟩), rfl, h _ (I.hok.fresh (Nat.le_refl _))⟩⟩
/-- d[y] = v -/
def sNPut (P : Program) (w : World) (K : PySem.W.Frag) (td ty tv : TE) : TS := fun D σ H => tv σ H fun v H1 => td σ H1 fun x H2 => ty σ H2 fun y H3 => ∃ (a b : Addr) (xs : List En) (k : KN), x = .ref a ∧ y = .ref b ∧ H3 a = some (ND P w a xs) ∧ KeysOk K H3 xs ∧ NkT K H3 k b ∧ xs.length < sizeLine ∧
  D.nx σ (upd H3 a (ND P w a (putN xs k b v)))
theorem ps_nput (hu : X.A.units + 64 < cLine) (ho : PE X o td) (hi : PE X i ty) (hv : PE X value tv) (hs : swapsWith value (some (.Subscript o i pos')) pos.line X.env = pure false) :
    PS X (.Assign [.Subscript o i pos'] value pos) (sNPut X.prog X.w X.K td ty tv) := by
  refine ⟨fun pins s σ H D I h => ?_⟩
  refine wpAny_Assign_Subscript (thn (hv.run pins s σ H _ I h) fun r s1 ⟨v, H1, I1, rv, q1⟩ => thn (ho.run pins s1 σ H1 _ I1 q1) fun u s2 ⟨x, H2, I2, rx, q2⟩ => thn (hi.run pins s2 σ H2 _ I2 q2) fun iv s3 ⟨y, H3, I3, ry, a, b, xs, k, ex, ey, hd, hk, hb, hl, q3⟩ => ?_) hs
  subst ex ey
  obtain rfl : u = Value.ref a := rx
  obtain rfl : iv = Value.ref b := ry
  obtain ⟨h1, h2, ys, h3, hm⟩ := nd_rd I3 (.inl hd) hk
  have hz : ys.length ≤ sizeLine := by
    have := Paired.length h3
    omega
  refine wpAny_setItem_heap (hsz := hz) (show X.A.units + 1 + 8 < cLine by omega) (key_is I3 hb) hm fun h' dd' hsb => ⟨σ, _, ?_, q3⟩
  obtain ⟨q, es, ep, g1, g2, g3, g4, _, g5⟩ := dd'
  refine d_write I3 (by rw [hd]; exact True.intro) hsb ⟨q, g1⟩ (nd_ok ⟨?_, h1, _, rel_put h3 rv, q, es, ep, g1, g2, g3, g4, g5⟩)
  have := len_put xs k b v
  omega
/-- d[y] -/
def tNGet (P : Program) (w : World) (K : PySem.W.Frag) (td ty : TE) : TE := fun σ H Q => td σ H fun x H1 => ty σ H1 fun y H2 => ∃ (a b : Addr) (xs : List En) (k : KN) (p : Addr × V), x = .ref a ∧ y = .ref b ∧ Rd H2 a (ND P w a xs) ∧ KeysOk K H2 xs ∧ NkT K H2 k b ∧ atN xs k = some p ∧ Q p.2 H2
theorem pe_nget (hu : X.A.units + 64 < cLine) (ho : PE X o td) (hi : PE X i ty) (hs : NoSl i) : PE X (.Subscript o i pos) (tNGet X.prog X.w X.K td ty) := by
  refine ⟨fun pins s σ H Q I h => ?_⟩
  refine subD_of PySem.F.slot_dict_getitem.lookup hs (thn (ho.run pins s σ H _ I h) fun u s1 ⟨x, H1, I1, rx, q1⟩ => thn (hi.run pins s1 σ H1 _ I1 q1) fun iv s2 ⟨y, H2, I2, ry, a, b, xs, k, p, ex, ey, hd, hk, hb, hat, q2⟩ => ?_)
  subst ex ey
  obtain rfl : u = Value.ref a := rx
  obtain rfl : iv = Value.ref b := ry
  obtain ⟨h1, h2, ys, h3, hm⟩ := nd_rd I2 hd hk
  rcases rel_at h3 k with ⟨z, _⟩ | ⟨p', q', e1, e2, e3, e4⟩
  · rw [hat] at z
    cases z
  · rw [hat] at e1
    cases e1
    exact ⟨hm.typeIs, wpAny_getItem_heap (show X.A.units + 1 + 8 < cLine by omega) (key_is I2 hb) hm e2 ⟨p.2, H2, I2.tok _, e4, q2⟩⟩
end
end ND
namespace ND
open PySem PySem.Spec PyProof.Rows L2
section
variable {X : Cx} {pins : List (Addr × Obj)} {σ : L2.St} {H : Hp} {s : Shared} {d : Addr} {o : Obj} {xs : List En}
theorem frzN (I : Inv X pins σ H s) (h : H d = some (.frz o (ND X.prog X.w d xs))) :
    (d == sysModules) = false ∧ s.heap.get? d = some o ∧ o.ExactDict ∧ xs.length ≤ sizeLine ∧ ∃ (es : Array DictEntry) (ep : Nat), o.data = .dict es ep ∧ es.size = xs.length ∧
      ∀ (i : Nat) (e : En), xs[i]? = some e → ∃ en : DictEntry, es[i]? = some en ∧ en.key = .ref e.2.1 := by
  obtain ⟨hd, ⟨hz, hs, ys, pr, o', es, ep, ho, hx, hdt, he, _⟩, _⟩ := I.hok d _ h
  rw [hd] at ho
  cases ho
  refine ⟨hs, hd, hx, hz, es, ep, hdt, ?_, fun i e hi => ?_⟩
  · have l1 : es.size = ys.length := by
      have := congrArg List.length he
      rw [List.length_map, Array.length_toList] at this
      exact this
    have l2 : xs.length = ys.length := Paired.length pr
    omega
  · obtain ⟨y, hy, e1, e2, _⟩ := paired_get pr hi
    have q := entry_at he i
    rw [hy] at q
    exact ⟨_, q, congrArg Value.ref e2.symm⟩
end
def Itn (P : Program) (w : World) (d : Addr) (o : Obj) (xs : List En) : It :=
  ⟨fun i H => H d = some (.frz o (ND P w d xs)) ∧ i < xs.length, fun i H x H' => H' = H ∧ ∃ e : En, xs[i]? = some e ∧ x = .ref e.2.1, fun i H => H d = some (.frz o (ND P w d xs)) ∧ xs.length ≤ i⟩
section
variable {P : Program} {w : World} {K : PySem.W.Frag} {tg : Expr} {d : Addr} {o : Obj} {es : Array DictEntry} {ep : Nat} {xs : List En}
theorem turn_n (it : Addr) (hod : o.data = .dict es ep) : Turn P w K tg (Itn P w d o xs) [it] it (fun i h => h.IsKeyIter it d i xs.length ep) where
  mem := by simp
  obj := fun i h st b hb => by
    have e : b = it := by simpa using hb
    subst e
    obtain ⟨oi, e, c, dd⟩ := st
    exact ⟨oi, e, fun v z => by rw [dd] at z; cases z⟩
  keep := fun i h h' st k => st.at fun oi e => k it (by simp) oi e
  item := by
    intro X hP hw hK hc i pins s σ H E I hf st hg
    subst hP hw hK
    obtain ⟨hd, hi⟩ := hg
    obtain ⟨f0, f1, f2, f3, f4, f5⟩ := hf it (by simp)
    obtain ⟨hs, hgd, hx, hz, es', ep', hdt, hsz, ent⟩ := frzN I hd
    obtain ⟨rfl, rfl⟩ := dict_ep hod hdt
    obtain ⟨e, he⟩ : ∃ p, xs[i]? = some p := ⟨xs[i], List.getElem?_eq_getElem hi⟩
    obtain ⟨en, hen, hkey⟩ := ent i e he
    refine next_key_item st hgd hdt hsz hen fun h' st' sb => ?_
    have I1 : Inv X pins σ H { s with heap := h' } := I.turned (t' := s.toks) (fun b ob hb e => (sb.2 b hb).trans e) f0 f1 f3 f4 f5
    obtain ⟨oi, eo, c, dd⟩ := id st'
    exact ⟨en.key, rfl, go_of (s := { s with heap := h' }) eo c dd (by decide) ⟨.ref e.2.1, H, I1, hkey, ⟨rfl, e, he, rfl⟩, st', fun b hb => (hf b hb).1⟩⟩
  done := by
    intro X hP hw hK hc i pins s σ H E I hf st hg
    subst hP hw hK
    obtain ⟨hd, hi⟩ := hg
    obtain ⟨f0, f1, f2, f3, f4, f5⟩ := hf it (by simp)
    obtain ⟨hs, hgd, hx, hz, es', ep', hdt, hsz, ent⟩ := frzN I hd
    obtain ⟨rfl, rfl⟩ := dict_ep hod hdt
    exact next_key_end (I.ok.hd hc) st hgd hdt hsz hi fun h' eb => ⟨rfl, I.turned (t' := s.toks) (fun b ob hb e => eb b ob hb e) f0 f1 f3 f4 f5⟩
  self := fun A i s Q E st h => by
    refine wpAny_pyIter_slot st.typeIs F.slot_dict_keyiterator_iter (wpAny_call_entry F.slot_dict_keyiterator_iter st.typeIs F.entry_dict_keyiterator_iter ?_ (F.args_dict_keyiterator_iter_1 _))
    show wpAny _ _ (ret (.ref it)) _ _ s
    exact wpAny_pure ⟨_, rfl, "dict_keyiterator", _, st.typeIs, F.slot_dict_keyiterator_next.lookup, h⟩
end
/-- for key in d: the dict locked -/
def iKeysN (P : Program) (w : World) (td : TE) : TI := fun σ H R => td σ H fun x H1 => ∃ d o xs, x = .ref d ∧ H1 d = some (.frz o (ND P w d xs)) ∧ R (Itn P w d o xs) H1
theorem pi_keysN {X : Cx} {tg e : Expr} {td : TE} (he : PE X e td) : PI X tg e (iKeysN X.prog X.w td) := by
  refine ⟨fun pins s σ H R I h => ?_⟩
  refine thn (he.run pins s σ H _ I h) fun u s1 ⟨x, H1, I1, rx, d, o, xs, ex, hd, q⟩ => ?_
  subst ex
  obtain rfl : u = Value.ref d := rx
  obtain ⟨hs, hgd, hx, hz, es, ep, hdt, hsz, ent⟩ := frzN I1 hd
  refine iter_keys hs hgd hx hdt (pi_one (tk := s1.toks) I1 _ (turn_n _ hdt) ⟨_, Heap.get?_push_size _ rfl, rfl, ?_⟩ q)
  rw [hsz] <;> rfl
theorem walk_keysN {P : Program} {w : World} {d : Addr} {o : Obj} {xs : List En} : Walk (Itn P w d o xs) xs.length (fun H => H d = some (.frz o (ND P w d xs))) (fun i H x H' => H' = H ∧ ∃ e : En, xs[i]? = some e ∧ x = .ref e.2.1) :=
  ⟨fun _ _ hi q => ⟨q, hi⟩, fun _ q => ⟨q, Nat.le_refl _⟩, fun _ _ _ _ _ _ y => y⟩
end ND
namespace ND
open PySem PySem.Spec PyProof.Rows L2
/-- over the keys -/
theorem lc_keysN {P : Program} {w : World} {d : Addr} {o : Obj} {xs : List En} {g : TG} {tt : TT} {te : TE} {vs : List Nat} {σ : L2.St} {H1 : Hp} {D : Addr} {Qd : Hp → Prop} (Pv : Nat → Hp → Prop) (h0 : Pv 0 (upd H1 D (.lst []))) (hl : ∀ i H, i ≤ xs.length → Pv i H → H d = some (.frz o (ND P w d xs)))
    (hs : ∀ (i : Nat) (e : En) H, xs[i]? = some e → Pv i H → g (.ref e.2.1) (wipe σ vs) H fun σ2 H2 => wipe σ2 vs = wipe σ vs ∧ tt σ2 H2 fun b H3 =>
      if b = true then te σ2 H3 fun y H4 => ∃ acc, H4 D = some (.lst acc) ∧ acc.length < sizeLine ∧ Pv (i + 1) (upd H4 D (.lst (acc ++ [y]))) else Pv (i + 1) H3) (hd : ∀ H, Pv xs.length H → Qd H) :
    ∃ W : Nat → Nat → Hp → Prop, (∃ m, W 0 m (upd H1 D (.lst []))) ∧ ∀ i m H, W i m H →
      ((Itn P w d o xs).stop i H ∧ Qd H) ∨ ((Itn P w d o xs).go i H ∧ ∃ Nx : Hp → Prop, (∀ H', Nx H' → ∃ m', m' < m ∧ W (i + 1) m' H') ∧ ∀ x H', (Itn P w d o xs).yld i H x H' → g x (wipe σ vs) H' fun σ2 H2 => wipe σ2 vs = wipe σ vs ∧ tt σ2 H2 fun b H3 =>
        if b = true then te σ2 H3 fun y H4 => ∃ acc, H4 D = some (.lst acc) ∧ acc.length < sizeLine ∧ Nx (upd H4 D (.lst (acc ++ [y]))) else Nx H3) := by
  refine ⟨fun i m H => m = xs.length - i ∧ i ≤ xs.length ∧ Pv i H, ⟨xs.length, by simp, Nat.zero_le _, h0⟩, ?_⟩
  rintro i m H ⟨rfl, hi, p⟩
  have q := hl i H hi p
  by_cases hlt : i < xs.length
  · refine .inr ⟨⟨q, hlt⟩, Pv (i + 1), fun H' p' => ⟨xs.length - (i + 1), by omega, rfl, hlt, p'⟩, fun x H' y => ?_⟩
    obtain ⟨e, z, hz, rfl⟩ := y
    subst e
    exact hs i z _ hz p
  · have e : i = xs.length := by omega
    subst e
    exact .inl ⟨⟨q, Nat.le_refl _⟩, hd H p⟩
def encN (e : En) : PyData := .tuple [.tuple (e.1.1.map .str), .int e.1.2]
theorem alike_strs : ∀ xs ys : List Str, PySem.W.alikeAll (xs.map .str) (ys.map .str) = true
  | [], _ => by simp [PySem.W.alikeAll]
  | _ :: _, [] => by simp [PySem.W.alikeAll]
  | x :: xs, y :: ys => by
    show PySem.W.alikeAll (.str x :: xs.map .str) (.str y :: ys.map .str) = true
    rw [PySem.W.alikeAll, alike_strs xs ys]
    simp [PySem.W.alike]
theorem depth_strs : ∀ xs : List Str, PyData.depthAll (xs.map .str) = 0
  | [] => by simp [PyData.depthAll]
  | x :: xs => by
    show PyData.depthAll (.str x :: xs.map .str) = 0
    rw [PyData.depthAll, depth_strs xs]
    simp [PyData.depth]
theorem alike_n (a b : En) : PySem.W.alike (encN a) (encN b) = true := by
  unfold encN
  simp [PySem.W.alike, PySem.W.alikeAll, alike_strs]
theorem depth_n (a : En) : (encN a).depth ≤ 2 := by
  unfold encN
  simp [PyData.depth, PyData.depthAll, depth_strs]
theorem reads_strs {h : Heap} : ∀ {ss : List Str} {us : List Value}, Vals (ss.map V.str) us → ReadsAll h us (ss.map .str) []
  | [], _, .nil => .nil
  | s :: r, _, .cons e t => by
    obtain ⟨tk, rfl⟩ := e
    exact .cons (.str s tk) (reads_strs t)
section
variable {X : Cx} {pins : List (Addr × Obj)} {σ : L2.St} {H : Hp} {s : Shared} {xs : List En}
theorem key_reads {e : En} (I : Inv X pins σ H s) (h : NkT X.K H e.1 e.2.1) : Reads s.heap (.ref e.2.1) (encN e) [] := by
  obtain ⟨b, h1, h2⟩ := h
  obtain ⟨its, rv, ⟨o, e1, e2, n, e3⟩, _⟩ := I.tuple h1
  obtain ⟨its2, rv2, ⟨o2, f1, f2, n2, f3⟩, _⟩ := I.tuple h2
  obtain ⟨u1, u2, rfl, r1, r2⟩ := Vals.two rv
  obtain rfl : u1 = Value.ref b := r1
  obtain ⟨t, rfl⟩ := r2
  exact .tuple e1 e2 e3 (.cons (as := []) (bs := []) (.tuple f1 f2 f3 (reads_strs rv2)) (.cons (as := []) (bs := []) (.int _ _) .nil))
theorem each_at {R : Value → En → Prop} : ∀ {us : List Value} {xs : List En}, us.length = xs.length → (∀ (i : Nat) (u : Value), us[i]? = some u → ∃ e, xs[i]? = some e ∧ R u e) → PySem.W.EachIs R us xs
  | [], [], _, _ => .nil
  | u :: us, x :: xs, hl, h => by
    obtain ⟨e, e1, e2⟩ := h 0 u rfl
    obtain rfl : x = e := Option.some.inj e1
    exact .cons e2 (each_at (by simpa using hl) fun i v hv => by
      obtain ⟨e, a, b⟩ := h (i + 1) v (by simpa using hv)
      exact ⟨e, by simpa using a, b⟩)
  | [], _ :: _, hl, _ => by simp at hl
  | _ :: _, [], hl, _ => by simp at hl
theorem each_refs {us : List Value} {xs : List En} (e : PySem.W.EachIs (fun v (b : En) => v = Value.ref b.2.1) us xs) : Vals (xs.map fun b => V.ref b.2.1) us := by
  induction e with
  | nil => exact .nil
  | cons h t ih => exact .cons h ih
/-- sorted(d) -/
theorem cr_sortedN (hcalm : X.calm = true) (hu : X.A.units + 64 < cLine) : CallR X (.builtin "sorted") (fun vs H Q => ∃ (a : Addr) (xs : List En), vs = [V.ref a] ∧ Rd H a (ND X.prog X.w a xs) ∧ KeysOk X.K H xs ∧
    ∀ (ys : List En) p, ys.Perm xs → H p = none → Q (.ref p) (upd H p (.lst (ys.map fun e => V.ref e.2.1)))) := by
  intro pins s σ H vs us Q I r q
  obtain ⟨a, xs, rfl, hd, hk, q⟩ := q
  rw [Vals.ref1 r]
  obtain ⟨lo, hz, ys, rel, hm⟩ := nd_rd I hd hk
  obtain ⟨es, ep, hraw, hsz, hent⟩ := hm.raw
  have hl : xs.length = ys.length := Paired.length rel
  refine Calls.call_function_entry PyProof.Rows.kind_sorted PyProof.Rows.plain_sorted PyProof.Rows.entry_sorted (PyProof.Rows.args_sorted1 _) ?_
  unfold Builtin.«sorted»
  refine wpAny_bind (m := checkCount "sorted" 1 1 _) (wpAny_pure ?_)
  refine wpAny_bind (PySem.W.kdu_collect (A := X.A.in1) (KdlSrc.rawDict lo) (I.ok.hd hcalm) hraw (by omega) fun h' tk acc hk' hacc => ?_)
  have I1 : Inv X pins σ H { s with heap := h', toks := tk } := I.kept hk'
  have hal : acc.toList.length = xs.length := by rw [Array.length_toList, hacc.1, hsz, hl]
  have hE : PySem.W.EachIs (fun v (b : En) => v = Value.ref b.2.1) acc.toList xs := each_at hal fun i u hiu => by
    obtain ⟨hi, e1⟩ := hacc.2 i u (by rw [← Array.getElem?_toList]; exact hiu)
    obtain ⟨y, g1, g2, _⟩ := hent i hi
    obtain ⟨x, hx⟩ : ∃ x, xs[i]? = some x := ⟨xs[i]'(by omega), List.getElem?_eq_getElem _⟩
    obtain ⟨y', g3, _, g4, _⟩ := paired_get rel hx
    rw [g1] at g3
    obtain rfl : y = y' := Option.some.inj g3
    exact ⟨x, hx, by rw [e1, g2, g4]⟩
  refine wpAny_bind (wpAny_newList ?_ (by rw [hal]; exact hz))
  have hoL : (h'.push (seqObj "list" acc.toList.toArray 0)).get? h'.objs.size = some (seqObj "list" acc.toList.toArray 0) := Heap.get?_push_size _ rfl
  show wpAny _ _ _ _ _ { s with heap := h'.push (seqObj "list" acc.toList.toArray 0), toks := tk }
  have hkp : ∀ b o, h'.get? b = some o → (h'.push (seqObj "list" acc.toList.toArray 0)).get? b = some o := fun b o e => Heap.get?_push_of_some _ e
  have I2 : Inv X pins σ H { s with heap := h'.push (seqObj "list" acc.toList.toArray 0), toks := tk } := I1.kept (t' := tk) hkp
  refine wpAny_bind (wpAny_holding (PySem.W.list_sort_data (s := { s with heap := h'.push (seqObj "list" acc.toList.toArray 0), toks := tk }) (bs := xs) (enc := encN) (R := fun v b => v = Value.ref b.2.1) hoL hE ?_ (PySem.W.AllAlike.of alike_n) (PySem.W.Sortable.tuples fun b => ⟨_, _, rfl⟩) hz (fun b _ => ?_) fun out ho1 ho2 => ?_))
  · have : ∀ {us : List Value} {zs : List En}, (∀ z ∈ zs, z ∈ xs) → PySem.W.EachIs (fun v (b : En) => v = Value.ref b.2.1) us zs → PySem.W.EachIs (fun v (b : En) => ∃ as, Reads (h'.push (seqObj "list" acc.toList.toArray 0)) v (encN b) as ∧ h'.objs.size ∉ as) us zs := fun {us zs} hz e => by
      induction e with
      | nil => exact .nil
      | cons h t ih =>
        refine .cons ?_ (ih fun z hz' => hz z (List.mem_cons_of_mem _ hz'))
        subst h
        exact ⟨[], key_reads I2 (hk _ (hz _ List.mem_cons_self)), List.not_mem_nil⟩
    exact this (fun z hz => hz) hE
  · show X.A.units + 1 + 1 + (encN b).depth < cLine
    have := depth_n b
    omega
  · obtain ⟨e', he'⟩ := PyProof.Rows.sortedHeap_at (vs := acc.toList) (out := out.toArray) hoL
    have hp : (xs.mergeSort (PySem.W.dataLe false encN)).Perm xs := List.mergeSort_perm _ _
    refine wpAny_pure ⟨_, rfl, .ref h'.objs.size, upd H h'.objs.size (.lst ((xs.mergeSort (PySem.W.dataLe false encN)).map fun e => V.ref e.2.1)), I1.laid (t' := tk) (fun b u e => ?_) (Nat.le_refl _)
      (show ObjOk X.prog X.w _ _ _ (.lst _) from ⟨?_, out, e', each_refs ho2, he'⟩), rfl, q _ _ hp (I1.hok.fresh (Nat.le_refl _))⟩
    · have hb : b < h'.objs.size := Heap.lt_size e
      rw [PyProof.Rows.sortedHeap_old (Nat.ne_of_lt hb) (by rw [size_push']; exact Nat.lt_succ_of_lt hb)]
      exact Heap.get?_push_of_some _ e
    · rw [List.length_map, hp.length_eq]
      exact hz
end
end ND
namespace ND
open PySem PySem.Spec PyProof.Rows L2
theorem pe_ngetK {X : Cx} {P : Program} {w : World} {K : PySem.W.Frag} {o i : Expr} {pos : Pos} {td ty : TE} (hP : X.prog = P) (hw : X.w = w) (hK : X.K = K) (hu : X.A.units + 64 < cLine) (ho : PE X o td) (hi : PE X i ty) (hs : NoSl i) : PE X (.Subscript o i pos) (tNGet P w K td ty) := by
  subst hP hw hK
  exact pe_nget hu ho hi hs
section
variable {X : Cx} {P : Program} {w : World} {K : PySem.W.Frag}
theorem pe_nnewK {pos : Pos} (hP : X.prog = P) (hw : X.w = w) : PE X (.Dict [] [] pos) (tNNew P w) := by
  subst hP hw
  exact pe_nnew
theorem ps_nputK {o i value : Expr} {pos pos' : Pos} {td ty tv : TE} (hP : X.prog = P) (hw : X.w = w) (hK : X.K = K) (hu : X.A.units + 64 < cLine) (ho : PE X o td) (hi : PE X i ty) (hv : PE X value tv) (hs : swapsWith value (some (.Subscript o i pos')) pos.line X.env = pure false) :
    PS X (.Assign [.Subscript o i pos'] value pos) (sNPut P w K td ty tv) := by
  subst hP hw hK
  exact ps_nput hu ho hi hv hs
theorem pi_keysNK {tg e : Expr} {td : TE} (hP : X.prog = P) (hw : X.w = w) (he : PE X e td) : PI X tg e (iKeysN P w td) := by
  subst hP hw
  exact pi_keysN he
theorem cr_sortedNK (hP : X.prog = P) (hw : X.w = w) (hK : X.K = K) (hcalm : X.calm = true) (hu : X.A.units + 64 < cLine) : CallR X (.builtin "sorted") (fun vs H Q => ∃ (a : Addr) (xs : List En), vs = [V.ref a] ∧ Rd H a (ND P w a xs) ∧ KeysOk K H xs ∧
    ∀ (ys : List En) p, ys.Perm xs → H p = none → Q (.ref p) (upd H p (.lst (ys.map fun e => V.ref e.2.1)))) := by
  subst hP hw hK
  exact cr_sortedN hcalm hu
end
end ND
/-! ### t[::-1] of a tuple; list(d.values()) -/
namespace RV
open PySem PySem.Spec PyProof.Rows L2
theorem rev_pick {α : Type} (l : List α) : (List.range l.length).filterMap (fun m => l[l.length - 1 - m]?) = l.reverse := by
  apply List.ext_getElem?
  intro i
  have key : ∀ (n : Nat), n ≤ l.length → ∀ i, ((List.range n).filterMap (fun m => l[l.length - 1 - m]?))[i]? = if i < n then l[l.length - 1 - i]? else none := by
    intro n
    induction n with
    | zero => intro _ i; simp
    | succ n ih =>
      intro hn i
      have hs : l[l.length - 1 - n]? = some (l[l.length - 1 - n]'(by omega)) := List.getElem?_eq_getElem _
      have hlen : ((List.range n).filterMap (fun m => l[l.length - 1 - m]?)).length = n := by
        have h0 : ∀ j, j < n → ((List.range n).filterMap (fun m => l[l.length - 1 - m]?))[j]? ≠ none := fun j hj => by
          rw [ih (by omega) j, if_pos hj]
          rw [List.getElem?_eq_getElem (by omega)]
          exact fun e => by cases e
        have h2 : ((List.range n).filterMap (fun m => l[l.length - 1 - m]?))[n]? = none := by
          rw [ih (by omega) n, if_neg (Nat.lt_irrefl _)]
        have h3 := List.getElem?_eq_none_iff.mp h2
        rcases Nat.lt_or_ge ((List.range n).filterMap (fun m => l[l.length - 1 - m]?)).length n with h4 | h4
        · exact absurd (List.getElem?_eq_none_iff.mpr (Nat.le_refl _)) (h0 _ h4)
        · omega
      rw [List.range_succ, List.filterMap_append]
      by_cases h : i < n
      · rw [List.getElem?_append_left (by omega), ih (by omega), if_pos h, if_pos (by omega)]
      · rw [List.getElem?_append_right (by omega), hlen]
        simp only [List.filterMap_cons, List.filterMap_nil, hs]
        by_cases h2 : i = n
        · subst h2
          rw [Nat.sub_self, if_pos (Nat.lt_succ_self _), hs]
          rfl
        · rw [if_neg (by omega), show i - n = (i - n - 1) + 1 by omega]
          rfl
  rw [key _ (Nat.le_refl _)]
  by_cases h : i < l.length
  · rw [if_pos h, List.getElem?_reverse h]
  · rw [if_neg h, List.getElem?_eq_none (by rw [List.length_reverse]; omega)]
section
variable {prog : Program} {w : World} {A : Around} {E : Value → Shared → Prop} {s : Shared}
theorem getItem_tuple_rev {t sl : Addr} {items : Array Value} {vs : Value} {Q : Value → Shared → Prop} (ht : IsTup s.heap t items) (hs : s.heap.IsSliceOf sl .none .none vs) (ps : IsPart vs (some (-1)))
    (h : Q (.ref s.heap.objs.size) { s with heap := s.heap.push { cls := .type "tuple", data := .seq items.toList.reverse.toArray } })
    (hsz : items.size ≤ sizeLine) : wpAny (model prog w) A (getItem (.ref t) (.ref sl)) Q E s := by
  have htake : sizeOk (.seq items.toList.reverse.toArray) := by
    show items.toList.reverse.toArray.size ≤ sizeLine
    rw [List.size_toArray, List.length_reverse, Array.length_toList]
    exact hsz
  obtain ⟨os, hos, hcs, hds⟩ := id hs
  have hTs : s.TypeIs (.ref sl) "slice" := ⟨os, hos, hcs⟩
  unfold getItem
  try with_reducible refine wpAny_holding ?_
  first | refine wpAny_bind (wpAny_pure ?_) | skip
  refine wpAny_bind (wpAny_sequenceKey ht.typeIs (by decide) ?_)
  refine wpAny_bind (wpAny_callSpecial?_slot (name := Str.ofString "__getitem__") ht.typeIs PyProof.Rows.slot_tuple_getitem
    (wpAny_call_entry PyProof.Rows.slot_tuple_getitem ht.typeIs entry_tuple_getitem ?_ (args_tuple_getitem _ _)))
  show wpAny _ _ (Builtin.Tuple.tupleItemsOf (.ref t) >>= _) _ _ s
  refine wpAny_bind (tupleItemsOf_ ht ?_)
  refine wpAny_bind (wpAny_typeOf hTs ?_)
  rw [if_pos (by decide)]
  have ap : ∀ {A' : Around} {E' : Value → Shared → Prop} {Q' : Int × Int × Nat → Shared → Prop}, Q' ((items.size : Int) - 1, -1, items.size) s → wpAny (model prog w) A' (Builtin.Slice.sliceApplied (.ref sl) (pure (items.size : Int))) Q' E' s := fun {A' E' Q'} hQ => by
    unfold Builtin.Slice.sliceApplied Builtin.Slice.sliceFields
    refine wpAny_bind (wpAny_bind (wpAny_field hos hds (x := .none) rfl (wpAny_bind (wpAny_field hos hds (x := .none) rfl (wpAny_bind (wpAny_field hos hds (x := vs) rfl (wpAny_pure ?_)))))))
    refine wpAny_bind (HT.slicePart_ ps ?_)
    show wpAny _ _ (if ((-1 : Int) == 0) = true then _ else _) _ _ s
    rw [if_neg (by decide)]
    refine wpAny_bind (slicePart_none (wpAny_bind (slicePart_none (wpAny_bind (wpAny_pure ?_)))))
    show wpAny _ _ (match Builtin.Slice.sliceAdjust none none (-1) (items.size : Int) with | (lo, hi) => pure (lo, (-1 : Int), Builtin.Slice.slicePlaces lo hi (-1))) _ _ s
    have e1 : Builtin.Slice.sliceAdjust none none (-1) (items.size : Int) = ((items.size : Int) - 1, -1) := rfl
    rw [e1]
    show wpAny _ _ (pure ((items.size : Int) - 1, (-1 : Int), Builtin.Slice.slicePlaces ((items.size : Int) - 1) (-1) (-1))) _ _ s
    have e2 : Builtin.Slice.slicePlaces ((items.size : Int) - 1) (-1) (-1) = items.size := by
      unfold Builtin.Slice.slicePlaces
      rw [if_neg (by decide)]
      show (if (items.size : Int) - 1 > -1 then ((items.size : Int) - 1 - -1 - 1) / 1 + 1 else 0).toNat = items.size
      rw [Int.ediv_one]
      split <;> omega
    rw [e2]
    exact wpAny_pure hQ
  refine wpAny_bind (ap ?_)
  have hno : ¬ ((((items.size : Int) - 1) == 0 && (-1 : Int) == 1 && items.size == items.size) = true) := by simp
  show wpAny _ _ (if (((items.size : Int) - 1) == 0 && (-1 : Int) == 1 && items.size == items.size) = true then _ else _) _ _ s
  have pk : ((List.range items.size).filterMap fun (m : Nat) => items[(((items.size : Int) - 1) + (m : Int) * -1).toNat]?).toArray = items.toList.reverse.toArray := by
    rw [← rev_pick items.toList, Array.length_toList]
    congr 2
    funext m
    rw [Array.getElem?_toList]
    congr 1
    omega
  rw [if_neg hno, pk]
  first
    | exact wpAny_bind (m := Builtin.Tuple.tupleExact _) (wpAny_newObj_type (wpAny_pure ⟨_, rfl, wpAny_pure h⟩) htake)
    | exact wpAny_bind (m := Builtin.Tuple.tupleExact _) (wpAny_newObj_type (wpAny_bind (wpAny_pure (wpAny_pure ⟨_, rfl, wpAny_pure h⟩))) htake)
    | exact wpAny_bind (wpAny_bind (m := Builtin.Tuple.tupleExact _) (wpAny_newObj_type (wpAny_pure (wpAny_pure ⟨_, rfl, wpAny_pure h⟩)) htake))
    | exact wpAny_bind (wpAny_bind (m := Builtin.Tuple.tupleExact _) (wpAny_newObj_type (wpAny_pure ⟨_, rfl, wpAny_pure h⟩) htake))
end
section
variable {X : Cx}
def tRevT (K : PySem.W.Frag) (te : TE) : TE := fun σ H Q => te σ H fun x H1 => ∃ a xs, x = .ref a ∧ SqT K H1 a xs ∧ ∀ p, H1 p = none → Q (.ref p) (upd H1 p (.tup xs.reverse))
theorem pe_revT {e : Expr} {te : TE} {k : Nat} {p1 p2 p3 pos : Pos} (he : PE X e te) : PE X (.Subscript e (.Slice none none (some (.UnaryOp .USub (.Constant (.int 1) k p1) p2)) p3) pos) (tRevT X.K te) := by
  refine ⟨fun pins s σ H Q I h => ?_⟩
  refine Subscript_ (thn (he.run pins s σ H _ I h) fun v s1 ⟨x, H1, I1, r1, q1⟩ => ?_)
  obtain ⟨a, xs, ex, hx, q⟩ := q1
  subst ex
  cases r1
  have hst : PO X (some (.UnaryOp .USub (.Constant (.int 1) k p1) p2)) (tPart (tUn (rU fun i => .int (-i)) (tC (.int 1)))) := po_some (pe_un un_neg pe_int)
  refine wpAny_Slice (thn (po_none.run pins s1 σ H1 (fun o H2 => o = none ∧ H2 = H1) I1 ⟨rfl, rfl⟩) fun vl s2 ⟨l, H2, I2, pl, el, e2⟩ => ?_)
  subst el e2
  refine thn (po_none.run pins s2 σ H2 (fun o H3 => o = none ∧ H3 = H2) I2 ⟨rfl, rfl⟩) fun vu s3 ⟨u, H3, I3, pu, eu, e3⟩ => ?_
  subst eu e3
  refine thn (hst.run pins s3 σ H3 (fun o H4 => o = some (-1) ∧ H4 = H3) I3 ⟨1, rfl, -1, rfl, rfl, rfl⟩) fun vs s4 ⟨o, H4, I4, ps, eo, e4⟩ => ?_
  subst eo e4
  have evl : vl = .none := by cases pl; rfl
  have evu : vu = .none := by cases pu; rfl
  subst evl evu
  have I5 : Inv X pins σ H4 { s4 with heap := s4.heap.push { cls := .type "slice", data := .fields #[.none, .none, vs] } } := I4.kept (t' := s4.toks) fun b ob q => Heap.get?_push_of_some _ q
  obtain ⟨its, r, ht, hz⟩ := I5.tuple hx
  have hlen := r.length
  show wpAny (model X.prog X.w) X.A (subscriptTail e (.Slice none none (some (.UnaryOp .USub (.Constant (.int 1) k p1) p2)) p3) (.ref a) (.ref s4.heap.objs.size)) (EP X pins σ Q) X.xe { s4 with heap := s4.heap.push { cls := .type "slice", data := .fields #[.none, .none, vs] } }
  refine tail_any (ops := [.ref a, .ref s4.heap.objs.size]) ht.typeIs (PyProof.Rows.slot_tuple_getitem.lookup) ?_ (by with_unfolding_all rfl)
  refine getItem_tuple_rev ht (Heap.IsSliceOf.new _ .none .none vs) ps ?_ (by rw [List.size_toArray]; omega)
  refine ⟨.ref _, _, I5.laid (t' := s4.toks) (o := .tup xs.reverse) (fun b ob q => Heap.get?_push_of_some _ q) (Nat.le_refl _) ?_, rfl, q _ (I5.hok.fresh (Nat.le_refl _))⟩
  exact ⟨by rw [List.length_reverse]; exact hz, _, r.reverse, IsTup.new (s4.heap.push { cls := .type "slice", data := .fields #[.none, .none, vs] }) _⟩
def tListVals (td : TE) : TE := fun σ H Q => td σ H fun x H1 => ∃ d kvs, x = .ref d ∧ Rd H1 d (.dK kvs) ∧ ∀ p, H1 p = none → Q (.ref p) (upd H1 p (.lst (kvs.map (·.2))))
theorem kv_vals {kvs : List (L2.Key × V)} {vs : List (L2.Key × Value)} (r : KV kvs vs) {us : List Value} (hl : us.length = vs.length) (h : ∀ (i : Nat) (u : Value), us[i]? = some u → ∃ k, vs[i]? = some (k, u)) : Vals (kvs.map (·.2)) us := by
  unfold KV at r
  induction r generalizing us with
  | nil =>
    cases us with
    | nil => exact .nil
    | cons u t => cases hl
  | @cons p q ps qs e t ih =>
    cases us with
    | nil => cases hl
    | cons u us =>
      obtain ⟨k, hk⟩ := h 0 u rfl
      obtain rfl : q = (k, u) := Option.some.inj hk
      exact .cons e.2 (ih (by simpa using hl) fun i v hv => by
        obtain ⟨k, hk⟩ := h (i + 1) v (by simpa using hv)
        exact ⟨k, by simpa using hk⟩)
theorem pe_listVals {p pos apos cpos : Pos} {e : Expr} {td : TE} (hc : X.calm = true) (hg : Gl X "list") (hm : X.mg "list" = none) (he : PE X e td) (hbase : attributeBase e "values" X.env (eval e X.env) = eval e X.env := by rfl) (hline : (apos.endLine == cpos.line) = true := by rfl)
    (na : starEach [.Call (.Attribute e "values" apos) [] [] cpos] X.env = (false, eval (.Call (.Attribute e "values" apos) [] [] cpos) X.env) :: starEach [] X.env := by rfl) :
    PE X (.Call (.Name "list" p) [.Call (.Attribute e "values" apos) [] [] cpos] [] pos) (tListVals td) := by
  refine ⟨fun pins s σ H Q I h => ?_⟩
  refine Call_ (ld_blt I hg hm boot_list (PyProof.Rows.callWith_type1 (args_cons ?_ na) na))
  refine wpAny_Call_method (T := "dict") (id := "dict.values") hbase rfl hline F.plainAttrs_dict F.slot_dict_values F.type_dict_values (thn (he.run pins s σ H _ I h) fun u s1 ⟨x, H1, I1, rx, d, kvs, ex, hd, q⟩ => ?_)
  subst ex
  obtain rfl : u = Value.ref d := rx
  obtain ⟨z, lo, vs, rel, dd⟩ := dk_rd I1.hok hd
  obtain ⟨ep, hat⟩ := dd.dictAt
  have hl : kvs.length = vs.length := Paired.length rel
  refine ⟨dd.typeIs, dd.mapOf.noDict, ?_⟩
  have I2 : Inv X pins σ H1 { s1 with heap := s1.heap.push { cls := .type "dict_values", data := .fields #[.ref d] } } := I1.kept (t' := s1.toks) fun b ob q => Heap.get?_push_of_some _ q
  show wpAny _ _ (callWith cpos (.builtin "dict.values") [.ref d] [] []) _ X.xe s1
  refine method_meetsIn F.slot_dict_values F.entry_dict_values rfl (PySem.evalArgs_none ⟨rfl, dd.typeIs, F.args_dict_values_1 _, _, meets_dict_values (mixKind X.prog X.w) d lo, ⟨vs, dd⟩, ?_⟩)
  refine args_nil ?_
  refine PySem.W.kdl_call (s := { s1 with heap := s1.heap.push { cls := .type "dict_values", data := .fields #[.ref d] } }) (PySem.W.kdl_values (knd := mixKind X.prog X.w) (kvs := vs) (ep := ep)) (I2.ok.hd hc) ⟨⟨_, Heap.get?_push_size _ rfl, rfl, rfl⟩, hat.push _⟩ (by rw [← hl]; exact z) fun h' tk acc c' hk hD hacc => ?_
  have hv : Vals (kvs.map (·.2)) acc.toList := kv_vals rel (by rw [Array.length_toList]; exact hacc.1) fun j v e => hacc.2 j v (by rw [← Array.getElem?_toList]; exact e)
  refine ⟨.ref _, upd H1 (s1.heap.push { cls := .type "dict_values", data := .fields #[.ref d] }).objs.size (.lst (kvs.map (·.2))), I2.laid (t' := tk) hk (Nat.le_refl _)
    (show ObjOk X.prog X.w _ _ _ (.lst (kvs.map (·.2))) from ⟨by rw [List.length_map]; exact z, acc.toList, c', hv, by rw [Array.toArray_toList]; exact hD⟩), rfl, q _ (I2.hok.fresh (Nat.le_refl _))⟩
end
end RV
namespace Mt
open PySem PySem.Spec PyProof.Rows L2
def topS (i : Nat) : Stmt := PySem.Challenge.pw_meantrace_k81_rows_chanced.main.body.getD i (.Pass ⟨0, 0, 0, 0⟩)
abbrev s_make_fraction : Stmt := topS 2
abbrev N_make_fraction : List Str := ["n", "d", "common"]
theorem sc_make_fraction : FnScope N_make_fraction ["n", "d"] (defScope s_make_fraction) := ⟨rfl, rfl, rfl, by decide +kernel, rfl, by decide +kernel, by decide +kernel⟩
abbrev s_sum_of : Stmt := topS 3
abbrev N_sum_of : List Str := ["a", "b"]
theorem sc_sum_of : FnScope N_sum_of ["a", "b"] (defScope s_sum_of) := ⟨rfl, rfl, rfl, by decide +kernel, rfl, by decide +kernel, by decide +kernel⟩
abbrev s_product_of : Stmt := topS 4
abbrev N_product_of : List Str := ["a", "b"]
theorem sc_product_of : FnScope N_product_of ["a", "b"] (defScope s_product_of) := ⟨rfl, rfl, rfl, by decide +kernel, rfl, by decide +kernel, by decide +kernel⟩
abbrev s_total_of : Stmt := topS 5
abbrev N_total_of : List Str := ["fractions", "total", "fraction"]
theorem sc_total_of : FnScope N_total_of ["fractions"] (defScope s_total_of) := ⟨rfl, rfl, rfl, by decide +kernel, rfl, by decide +kernel, by decide +kernel⟩
abbrev s_chance_of : Stmt := topS 7
abbrev N_chance_of : List Str := ["web", "row", "chances", "shown", "ahead", "state", "chance", "told", "target", "share"]
theorem sc_chance_of : FnScope N_chance_of ["web", "row"] (defScope s_chance_of) := ⟨rfl, rfl, rfl, by decide +kernel, rfl, by decide +kernel, by decide +kernel⟩
abbrev s__law_begin : Stmt := topS 9
abbrev N__law_begin : List Str := ["script", "cell"]
theorem sc__law_begin : FnScope N__law_begin ["script"] (defScope s__law_begin) := ⟨rfl, rfl, rfl, by decide +kernel, rfl, by decide +kernel, by decide +kernel⟩
abbrev s__law_draw : Stmt := topS 10
abbrev N__law_draw : List Str := ["d", "many", "found", "size", "cell"]
theorem sc__law_draw : FnScope N__law_draw ["d", "many"] (defScope s__law_draw) := ⟨rfl, rfl, rfl, by decide +kernel, rfl, by decide +kernel, by decide +kernel⟩
abbrev s__law_pick : Stmt := topS 11
abbrev N__law_pick : List Str := ["d", "row"]
theorem sc__law_pick : FnScope N__law_pick ["d", "row"] (defScope s__law_pick) := ⟨rfl, rfl, rfl, by decide +kernel, rfl, by decide +kernel, by decide +kernel⟩
abbrev s__law_pop : Stmt := topS 12
abbrev N__law_pop : List Str := ["d", "row"]
theorem sc__law_pop : FnScope N__law_pop ["d", "row"] (defScope s__law_pop) := ⟨rfl, rfl, rfl, by decide +kernel, rfl, by decide +kernel, by decide +kernel⟩
abbrev s__law_rare : Stmt := topS 13
abbrev N__law_rare : List Str := ["d", "many"]
theorem sc__law_rare : FnScope N__law_rare ["d", "many"] (defScope s__law_rare) := ⟨rfl, rfl, rfl, by decide +kernel, rfl, by decide +kernel, by decide +kernel⟩
abbrev s__law_pool : Stmt := topS 14
abbrev N__law_pool : List Str := ["text"]
theorem sc__law_pool : FnScope N__law_pool [] (defScope s__law_pool) := ⟨rfl, rfl, rfl, by decide +kernel, rfl, by decide +kernel, by decide +kernel⟩
abbrev s__law_is_int : Stmt := topS 15
abbrev N__law_is_int : List Str := ["thing"]
theorem sc__law_is_int : FnScope N__law_is_int ["thing"] (defScope s__law_is_int) := ⟨rfl, rfl, rfl, by decide +kernel, rfl, by decide +kernel, by decide +kernel⟩
abbrev s__law_is_ints : Stmt := topS 16
abbrev N__law_is_ints : List Str := ["row", "part"]
theorem sc__law_is_ints : FnScope N__law_is_ints ["row"] (defScope s__law_is_ints) := ⟨rfl, rfl, rfl, by decide +kernel, rfl, by decide +kernel, by decide +kernel⟩
abbrev s__law_frac : Stmt := topS 17
abbrev N__law_frac : List Str := ["n", "d", "a", "b", "rest"]
theorem sc__law_frac : FnScope N__law_frac ["n", "d"] (defScope s__law_frac) := ⟨rfl, rfl, rfl, by decide +kernel, rfl, by decide +kernel, by decide +kernel⟩
abbrev s__law_plus : Stmt := topS 18
abbrev N__law_plus : List Str := ["a", "b"]
theorem sc__law_plus : FnScope N__law_plus ["a", "b"] (defScope s__law_plus) := ⟨rfl, rfl, rfl, by decide +kernel, rfl, by decide +kernel, by decide +kernel⟩
abbrev s__law_times : Stmt := topS 19
abbrev N__law_times : List Str := ["a", "b"]
theorem sc__law_times : FnScope N__law_times ["a", "b"] (defScope s__law_times) := ⟨rfl, rfl, rfl, by decide +kernel, rfl, by decide +kernel, by decide +kernel⟩
abbrev s__law_sum : Stmt := topS 20
abbrev N__law_sum : List Str := ["row", "found", "part"]
theorem sc__law_sum : FnScope N__law_sum ["row"] (defScope s__law_sum) := ⟨rfl, rfl, rfl, by decide +kernel, rfl, by decide +kernel, by decide +kernel⟩
abbrev s__law_is_frac : Stmt := topS 21
abbrev N__law_is_frac : List Str := ["thing"]
theorem sc__law_is_frac : FnScope N__law_is_frac ["thing"] (defScope s__law_is_frac) := ⟨rfl, rfl, rfl, by decide +kernel, rfl, by decide +kernel, by decide +kernel⟩
abbrev s__law_drawn_shown : Stmt := topS 22
abbrev N__law_drawn_shown : List Str := ["d", "marks", "k"]
theorem sc__law_drawn_shown : FnScope N__law_drawn_shown ["d", "marks"] (defScope s__law_drawn_shown) := ⟨rfl, rfl, rfl, by decide +kernel, rfl, by decide +kernel, by decide +kernel⟩
abbrev s__law_drawn_web : Stmt := topS 23
abbrev N__law_drawn_web : List Str := ["d", "states", "marks", "rows", "s", "found", "k", "size", "key"]
theorem sc__law_drawn_web : FnScope N__law_drawn_web ["d", "states", "marks"] (defScope s__law_drawn_web) := ⟨rfl, rfl, rfl, by decide +kernel, rfl, by decide +kernel, by decide +kernel⟩
abbrev s__law_backwards : Stmt := topS 24
abbrev N__law_backwards : List Str := ["web", "row", "ends", "arcs", "shown", "fresh", "arc"]
theorem sc__law_backwards : FnScope N__law_backwards ["web", "row"] (defScope s__law_backwards) := ⟨rfl, rfl, rfl, by decide +kernel, rfl, by decide +kernel, by decide +kernel⟩
abbrev s__law_walked : Stmt := topS 25
abbrev N__law_walked : List Str := ["d", "web", "many", "row", "state", "k", "arc"]
theorem sc__law_walked : FnScope N__law_walked ["d", "web", "many"] (defScope s__law_walked) := ⟨rfl, rfl, rfl, by decide +kernel, rfl, by decide +kernel, by decide +kernel⟩
abbrev s__law_bent_row : Stmt := topS 26
abbrev N__law_bent_row : List Str := ["d", "web", "row", "at", "shown", "way"]
theorem sc__law_bent_row : FnScope N__law_bent_row ["d", "web", "row"] (defScope s__law_bent_row) := ⟨rfl, rfl, rfl, by decide +kernel, rfl, by decide +kernel, by decide +kernel⟩
abbrev s__law_rows : Stmt := topS 27
abbrev N__law_rows : List Str := ["d", "webs", "rows", "k", "many", "row", "letters", "one", "other"]
theorem sc__law_rows : FnScope N__law_rows ["d", "webs"] (defScope s__law_rows) := ⟨rfl, rfl, rfl, by decide +kernel, rfl, by decide +kernel, by decide +kernel⟩
abbrev s_law : Stmt := topS 28
abbrev N_law : List Str := ["script", "d", "names", "marks", "k", "webs", "many", "asked", "row", "web", "due", "told"]
theorem sc_law : FnScope N_law ["script"] (defScope s_law) := ⟨rfl, rfl, rfl, by decide +kernel, rfl, by decide +kernel, by decide +kernel⟩
structure Txt (K : PySem.W.Frag) (mg : Str → Option Value) : Prop where
  b_int : mg "int" = none
  b_abs : mg "abs" = none
  b_len : mg "len" = none
  b_isinstance : mg "isinstance" = none
  b_bool : mg "bool" = none
  b_tuple : mg "tuple" = none
  b_list : mg "list" = none
  b_range : mg "range" = none
  b_sum : mg "sum" = none
  b_all : mg "all" = none
  b_sorted : mg "sorted" = none
  f_gcd : mg "gcd" = some (.builtin "math.gcd")
theorem upd_upd {H : Hp} {p : Addr} {a b : HO} : upd (upd H p a) p b = upd H p b := by
  funext x
  unfold upd
  split <;> rfl
theorem take_map_succ {α β : Type} {f : α → β} {l : List α} {i : Nat} {c : α} (h : l[i]? = some c) : (l.take i).map f ++ [f c] = (l.take (i + 1)).map f := by
  rw [List.take_add_one, h, List.map_append]
  rfl
theorem divW_of {n : Int} (h : 0 < n) (h2 : n < 2 ^ 64) : CDivW 0 n := wide_div h (b := 64) (by omega) (by decide) (by decide)
theorem getV {ns : List Int} {i : Nat} {x : V} (h : (ns.map V.int)[i]? = some x) : ∃ z, x = .int z ∧ ns[i]? = some z := by
  rw [List.getElem?_map] at h
  cases e : ns[i]? with
  | none =>
    rw [e] at h
    cases h
  | some z =>
    rw [e] at h
    exact ⟨z, (Option.some.inj h).symm, rfl⟩
def spBegin (K : PySem.W.Frag) : Sp := fun vs H Q _ => ∃ (a : Addr) (ns : List Int), vs = [.ref a] ∧ SqL K H a (ns.map V.int) ∧ ns.length ≤ 63 ∧ ∀ S D H', Same H H' → H D = none → DrawAt S D H' → Q (.ref D) H'
/-- a text or a list, what it holds -/
def Row (K : PySem.W.Frag) (H : Hp) (v : V) (xs : List V) : Prop := (∃ z : Str, v = .str z ∧ xs = z.cps.toList.map fun c => .str ⟨#[c]⟩) ∨ (∃ p, v = .ref p ∧ SqL K H p xs) ∨ ∃ p, v = .ref p ∧ SqT K H p xs
def spPick (K : PySem.W.Frag) : Sp := fun vs H Q _ => ∃ (S D : Addr) (r : V) (xs : List V), vs = [.ref D, r] ∧ DrawAt S D H ∧ (∀ H', Go S D H H' → Row K H' r xs) ∧ 0 < xs.length ∧ xs.length ≤ 100000 ∧ ∀ H' x, x ∈ xs → Go S D H H' → Q x H'

theorem same_new {H : Hp} {p : Addr} {o : HO} (h : H p = none) : Same H (upd H p o) := fun b x e => by
  rw [upd_ne (ne_of_none e h)]
  exact e
/-- a change at a place that H does not know -/
theorem same_mut {H H' : Hp} {p : Addr} {o : HO} (s : Same H H') (h : H p = none) : Same H (upd H' p o) := fun b u e => by
  rw [upd_ne (ne_of_none e h)]
  exact s b u e
theorem iteNT {A B : Prop} (h : B) : if (!true) = true then A else B := iteF h
theorem line5 {n : Nat} (h : n ≤ 100000) : n ≤ sizeLine := Nat.le_trans h (by decide)
theorem line6 {n : Nat} (h : n < 100000) : n < sizeLine := Nat.lt_of_lt_of_le h (by decide)
/-! ### data as it stands in the heap -/
def KeepT (H H' : Hp) : Prop := ∀ p xs, Rd H p (.tup xs) → Rd H' p (.tup xs)
theorem KeepT.of_same {H H' : Hp} (s : Same H H') : KeepT H H' := fun p xs h => by
  rcases h with h | ⟨o, h⟩
  · exact .inl (s _ _ h)
  · exact .inr ⟨o, s _ _ h⟩
theorem KeepT.trans {H H1 H2 : Hp} (a : KeepT H H1) (b : KeepT H1 H2) : KeepT H H2 := fun p xs h => b p xs (a p xs h)
mutual
def noL : PyData → Bool
  | .list _ => false
  | .dict _ => false
  | .tuple ds => noLs ds
  | _ => true
def noLs : List PyData → Bool
  | [] => true
  | d :: ds => noL d && noLs ds
end
theorem sqt_keep {K : PySem.W.Frag} {H H' : Hp} {a : Addr} {xs : List V} (k : KeepT H H') (h : SqT K H a xs) : SqT K H' a xs := by
  rcases h with h | h
  · exact .inl (k _ _ h)
  · exact .inr h
mutual
theorem dp_keep {K : PySem.W.Frag} {H H' : Hp} (k : KeepT H H') : ∀ (d : PyData) (v : V), noL d = true → Dp K H v d → Dp K H' v d
  | .none, _, _, h => by
    cases h
    exact .non
  | .bool b, _, _, h => by
    cases h
    exact .bl b
  | .int i, _, _, h => by
    cases h
    exact .int i
  | .str x, _, _, h => by
    cases h
    exact .str x
  | .list ds, _, n, _ => by
    have n2 : false = true := n
    cases n2
  | .dict ds, _, n, _ => by
    have n2 : false = true := n
    cases n2
  | .tuple ds, _, n, h => by
    cases h with
    | tup h1 h2 => exact .tup (sqt_keep k h1) (dpA_keep k ds _ n h2)
theorem dpA_keep {K : PySem.W.Frag} {H H' : Hp} (k : KeepT H H') : ∀ (ds : List PyData) (xs : List V), noLs ds = true → DpAll K H xs ds → DpAll K H' xs ds
  | [], _, _, h => by
    cases h
    exact .nil
  | d :: ds, _, n, h => by
    cases h with
    | cons h1 h2 =>
      have n2 : (noL d && noLs ds) = true := n
      rw [Bool.and_eq_true] at n2
      exact .cons (dp_keep k d _ n2.1 h1) (dpA_keep k ds _ n2.2 h2)
end
theorem dp_tup {K : PySem.W.Frag} {H : Hp} {v : V} {ds : List PyData} (h : Dp K H v (.tuple ds)) : ∃ a xs, v = .ref a ∧ SqT K H a xs ∧ DpAll K H xs ds := by
  cases h with
  | tup h1 h2 => exact ⟨_, _, rfl, h1, h2⟩
theorem dp_str {K : PySem.W.Frag} {H : Hp} {v : V} {z : Str} (h : Dp K H v (.str z)) : v = .str z := by
  cases h
  rfl
theorem dp_int {K : PySem.W.Frag} {H : Hp} {v : V} {z : Int} (h : Dp K H v (.int z)) : v = .int z := by
  cases h
  rfl
theorem dp_non {K : PySem.W.Frag} {H : Hp} {v : V} (h : Dp K H v .none) : v = .non := by
  cases h
  rfl
theorem dpA_nil {K : PySem.W.Frag} {H : Hp} {xs : List V} (h : DpAll K H xs []) : xs = [] := by
  cases h
  rfl
theorem dpA_cons {K : PySem.W.Frag} {H : Hp} {xs : List V} {d : PyData} {ds : List PyData} (h : DpAll K H xs (d :: ds)) : ∃ x r, xs = x :: r ∧ Dp K H x d ∧ DpAll K H r ds := by
  cases h with
  | cons h1 h2 => exact ⟨_, _, rfl, h1, h2⟩
theorem dpA_len {K : PySem.W.Frag} {H : Hp} : ∀ {ds : List PyData} {xs : List V}, DpAll K H xs ds → xs.length = ds.length
  | [], _, h => by rw [dpA_nil h]; rfl
  | d :: ds, _, h => by
    obtain ⟨x, r, rfl, _, h2⟩ := dpA_cons h
    rw [List.length_cons, List.length_cons, dpA_len h2]
theorem dpA_at {K : PySem.W.Frag} {H : Hp} : ∀ {ds : List PyData} {xs : List V} {i : Nat} {x : V}, DpAll K H xs ds → xs[i]? = some x → ∃ d, ds[i]? = some d ∧ Dp K H x d
  | [], _, i, x, h, e => by
    rw [dpA_nil h] at e
    simp at e
  | d :: ds, _, 0, x, h, e => by
    obtain ⟨y, r, rfl, h1, h2⟩ := dpA_cons h
    have e2 : y = x := Option.some.inj e
    subst e2
    exact ⟨d, rfl, h1⟩
  | d :: ds, _, i + 1, x, h, e => by
    obtain ⟨y, r, rfl, h1, h2⟩ := dpA_cons h
    obtain ⟨d', h3, h4⟩ := dpA_at (i := i) (x := x) h2 (by simpa using e)
    exact ⟨d', by simpa using h3, h4⟩
theorem noLs_map {α : Type} (f : α → PyData) : ∀ l : List α, (∀ x ∈ l, noL (f x) = true) → noLs (l.map f) = true
  | [], _ => rfl
  | x :: r, h => by
    show (noL (f x) && noLs (r.map f)) = true
    rw [h x List.mem_cons_self, noLs_map f r fun y hy => h y (List.mem_cons_of_mem _ hy)]
    rfl
theorem keepT_new {H : Hp} {L : Addr} {o : HO} (h : H L = none) : KeepT H (upd H L o) := KeepT.of_same (same_new h)
theorem ixT {X : Cx} {K : PySem.W.Frag} (h : X.K = K) : IxR X (rIxT K) := h ▸ ix_tup
theorem isiT {X : Cx} {K : PySem.W.Frag} (h : X.K = K) : CallR X (.builtin "isinstance") (rIsi K) := h ▸ call_isi
theorem map_at {α : Type} {f : α → PyData} {l : List α} {i : Nat} {d : PyData} (h : (l.map f)[i]? = some d) : ∃ x, l[i]? = some x ∧ f x = d := by
  rw [List.getElem?_map] at h
  cases e : l[i]? with
  | none =>
    rw [e] at h
    cases h
  | some x =>
    rw [e] at h
    exact ⟨x, rfl, Option.some.inj h⟩
theorem dpA_snoc {K : PySem.W.Frag} {H : Hp} : ∀ {ds : List PyData} {xs : List V} {x : V} {d : PyData}, DpAll K H xs ds → Dp K H x d → DpAll K H (xs ++ [x]) (ds ++ [d])
  | [], _, _, _, h, hx => by
    rw [dpA_nil h]
    exact .cons hx .nil
  | d0 :: ds, _, _, _, h, hx => by
    obtain ⟨y, r, rfl, h1, h2⟩ := dpA_cons h
    exact .cons h1 (dpA_snoc h2 hx)
theorem sqt_ty {K : PySem.W.Frag} {H : Hp} {a : Addr} {xs : List V} (h : SqT K H a xs) : TyX K H (.ref a) (.type "tuple") := by
  rcases h with (h | ⟨o, h⟩) | ⟨o, its, n, hk, hc, _⟩
  · exact .base (.tup h)
  · exact .fTuple h
  · exact .kTuple hk hc
/-! ### fractions -/
abbrev F2 : Type := Int × Int
def gg (n d : Int) : Nat := Nat.gcd n.natAbs d.natAbs
def fr (n d : Int) : F2 := ((if d < 0 then -n else n) / (gg n d : Int), (if d < 0 then -d else d) / (gg n d : Int))
def add2 (a b : F2) : Int × Int := (a.1 * b.2 + b.1 * a.2, a.2 * b.2)
def sub2 (a b : F2) : Int × Int := (a.1 * b.2 - b.1 * a.2, a.2 * b.2)
def mul2 (a b : F2) : Int × Int := (a.1 * b.1, a.2 * b.2)
def div2 (a b : F2) : Int × Int := (a.1 * b.2, a.2 * b.1)
def frp (x : Int × Int) : F2 := fr x.1 x.2
theorem gg_pos {n d : Int} (h : d ≠ 0) : 0 < gg n d := Nat.gcd_pos_of_pos_right _ (Int.natAbs_pos.mpr h)
theorem gg_le {n d : Int} (h : d ≠ 0) : gg n d ≤ d.natAbs := Nat.gcd_le_right _ (Int.natAbs_pos.mpr h)
/-- in lowest terms, the second at least 1 -/
structure Low (x : F2) : Prop where
  pos : 1 ≤ x.2
  co : Nat.gcd x.1.natAbs x.2.natAbs = 1
theorem fr_low {n d : Int} (h : d ≠ 0) : Low (fr n d) := by
  have g0 := gg_pos (n := n) h
  have gd1 : (gg n d : Int) ∣ d := Int.ofNat_dvd_left.mpr (Nat.gcd_dvd_right _ _)
  have gn1 : (gg n d : Int) ∣ n := Int.ofNat_dvd_left.mpr (Nat.gcd_dvd_left _ _)
  have key : ∀ a b : Int, a.natAbs = n.natAbs → b.natAbs = d.natAbs → 0 < b → Low (a / (gg n d : Int), b / (gg n d : Int)) := fun a b ha hb hp => by
    have g1 : (gg n d : Int) ∣ b := Int.ofNat_dvd_left.mpr (by rw [hb]; exact Nat.gcd_dvd_right _ _)
    have g2 : (gg n d : Int) ∣ a := Int.ofNat_dvd_left.mpr (by rw [ha]; exact Nat.gcd_dvd_left _ _)
    refine ⟨?_, ?_⟩
    · have := Int.ediv_pos_of_pos_of_dvd hp (by omega) g1
      show 1 ≤ b / (gg n d : Int)
      omega
    · show Nat.gcd (a / (gg n d : Int)).natAbs (b / (gg n d : Int)).natAbs = 1
      rw [Int.natAbs_ediv_of_dvd g2, Int.natAbs_ediv_of_dvd g1, ha, hb, Int.natAbs_natCast]
      exact Nat.gcd_div_gcd_div_gcd_of_pos_right (Int.natAbs_pos.mpr h)
  unfold fr
  by_cases hd : d < 0
  · rw [if_pos hd, if_pos hd]
    exact key _ _ (Int.natAbs_neg n) (Int.natAbs_neg d) (by omega)
  · rw [if_neg hd, if_neg hd]
    exact key _ _ rfl rfl (by omega)
theorem low_fr {x : F2} (h : Low x) : fr x.1 x.2 = x := by
  have h1 := h.pos
  unfold fr
  rw [if_neg (by omega), if_neg (by omega)]
  have : gg x.1 x.2 = 1 := h.co
  rw [this]
  show (x.1 / 1, x.2 / 1) = x
  rw [Int.ediv_one, Int.ediv_one]
/-- the size: below 2 ^ k both -/
def Sz (k : Nat) (x : Int × Int) : Prop := x.1.natAbs < 2 ^ k ∧ x.2.natAbs < 2 ^ k
theorem div_small (a : Int) (g : Nat) : (a / (g : Int)).natAbs ≤ a.natAbs := Int.natAbs_ediv_le_natAbs a g
theorem fr_sz {k : Nat} {x : Int × Int} (h : Sz k x) : Sz k (frp x) := by
  have key : ∀ (c : Prop) [Decidable c] (a : Int) (g : Nat), ((if c then -a else a) / (g : Int)).natAbs ≤ a.natAbs := fun c _ a g => by
    split
    · exact Nat.le_trans (div_small _ _) (Nat.le_of_eq (Int.natAbs_neg a))
    · exact div_small _ _
  exact ⟨Nat.lt_of_le_of_lt (key _ _ _) h.1, Nat.lt_of_le_of_lt (key _ _ _) h.2⟩
theorem sz_mul {a b : Int} {j k : Nat} (ha : a.natAbs < 2 ^ j) (hb : b.natAbs < 2 ^ k) : (a * b).natAbs < 2 ^ (j + k) := wide_lt ha hb
theorem sz_add {a b : Int} {k : Nat} (ha : a.natAbs < 2 ^ k) (hb : b.natAbs < 2 ^ k) : (a + b).natAbs < 2 ^ (k + 1) := by
  have := Int.natAbs_add_le a b
  rw [Nat.pow_succ]
  omega
theorem sz_sub {a b : Int} {k : Nat} (ha : a.natAbs < 2 ^ k) (hb : b.natAbs < 2 ^ k) : (a - b).natAbs < 2 ^ (k + 1) := by
  have := sz_add ha (b := -b) (by rw [Int.natAbs_neg]; exact hb)
  rw [Int.sub_eq_add_neg]
  exact this
theorem sz_up {x : Int × Int} {j k : Nat} (h : Sz j x) (hl : j ≤ k) : Sz k x :=
  ⟨Nat.lt_of_lt_of_le h.1 (Nat.pow_le_pow_right (by decide) hl), Nat.lt_of_lt_of_le h.2 (Nat.pow_le_pow_right (by decide) hl)⟩
theorem n_up {a : Int} {j k : Nat} (h : a.natAbs < 2 ^ j) (hl : j ≤ k) : a.natAbs < 2 ^ k := Nat.lt_of_lt_of_le h (Nat.pow_le_pow_right (by decide) hl)
theorem add2_sz {a b : F2} {j k : Nat} (ha : Sz j a) (hb : Sz k b) : Sz (j + k + 1) (add2 a b) :=
  ⟨sz_add (sz_mul ha.1 hb.2) (by rw [Nat.add_comm j k]; exact sz_mul hb.1 ha.2), n_up (sz_mul ha.2 hb.2) (Nat.le_succ _)⟩
theorem sub2_sz {a b : F2} {j k : Nat} (ha : Sz j a) (hb : Sz k b) : Sz (j + k + 1) (sub2 a b) :=
  ⟨sz_sub (sz_mul ha.1 hb.2) (by rw [Nat.add_comm j k]; exact sz_mul hb.1 ha.2), n_up (sz_mul ha.2 hb.2) (Nat.le_succ _)⟩
theorem mul2_sz {a b : F2} {j k : Nat} (ha : Sz j a) (hb : Sz k b) : Sz (j + k + 1) (mul2 a b) := ⟨n_up (sz_mul ha.1 hb.1) (Nat.le_succ _), n_up (sz_mul ha.2 hb.2) (Nat.le_succ _)⟩
theorem div2_sz {a b : F2} {j k : Nat} (ha : Sz j a) (hb : Sz k b) : Sz (j + k + 1) (div2 a b) := ⟨n_up (sz_mul ha.1 hb.2) (Nat.le_succ _), n_up (sz_mul ha.2 hb.1) (Nat.le_succ _)⟩
/-- the sum of a row, from the left -/
def tot : List F2 → F2 → F2
  | [], t => t
  | x :: r, t => tot r (frp (add2 t x))
theorem gg_if (n d : Int) : (if d < 0 then -n else n).natAbs.gcd (if d < 0 then -d else d).natAbs = gg n d := by
  unfold gg
  split <;> simp
theorem low0 : Low (0, 1) := ⟨by decide, by decide⟩
theorem sz0 : Sz 1 (0, 1) := ⟨by decide, by decide⟩
theorem low_frp {x : Int × Int} (h : x.2 ≠ 0) : Low (frp x) := fr_low h
theorem add2_ne {a b : F2} (ha : Low a) (hb : Low b) : (add2 a b).2 ≠ 0 := by
  have h1 := ha.pos
  have h2 := hb.pos
  exact Int.ne_of_gt (Int.mul_pos (by omega) (by omega))
theorem tot_ok : ∀ (fs : List F2) (t : F2) {k : Nat}, Low t → Sz k t → (∀ x ∈ fs, Sz 100 x ∧ Low x) → Sz (k + 101 * fs.length) (tot fs t) ∧ Low (tot fs t)
  | [], t, k, h1, h2, _ => ⟨h2, h1⟩
  | x :: r, t, k, h1, h2, h3 => by
    obtain ⟨a, b⟩ := h3 x (List.mem_cons_self)
    have := tot_ok r (frp (add2 t x)) (k := k + 100 + 1) (low_frp (add2_ne h1 b)) (fr_sz (add2_sz h2 a)) (fun y hy => h3 y (List.mem_cons_of_mem _ hy))
    refine ⟨sz_up this.1 ?_, this.2⟩
    rw [List.length_cons]
    omega
theorem tot_snoc (x : F2) : ∀ (l : List F2) (t : F2), tot (l ++ [x]) t = frp (add2 (tot l t) x)
  | [], _ => rfl
  | y :: r, t => tot_snoc x r (frp (add2 t y))
theorem same_l {K : PySem.W.Frag} {H H' : Hp} {a : Addr} {xs : List V} (e : Same H H') (h : SqL K H a xs) : SqL K H' a xs := e.seq h
theorem same_t {K : PySem.W.Frag} {H H' : Hp} {a : Addr} {xs : List V} (e : Same H H') (h : SqT K H a xs) : SqT K H' a xs := by
  rcases h with (h | ⟨o, h⟩) | h
  · exact .inl (.inl (e _ _ h))
  · exact .inl (.inr ⟨o, e _ _ h⟩)
  · exact .inr h
theorem Paired.at {α β : Type} {R : α → β → Prop} : ∀ {xs : List α} {ys : List β} {i : Nat} {x : α}, Paired R xs ys → xs[i]? = some x → ∃ y, ys[i]? = some y ∧ R x y
  | _, _, _, _, .nil, e => by simp at e
  | _, _, 0, _, .cons r _, e => by
    have e : _ = _ := Option.some.inj e
    subst e
    exact ⟨_, rfl, r⟩
  | _, _, i + 1, x, .cons _ t, e => by
    obtain ⟨y, h1, h2⟩ := Paired.at (i := i) (x := x) t (by simpa using e)
    exact ⟨y, by simpa using h1, h2⟩
def dF (x : Int × Int) : PyData := .tuple [.int x.1, .int x.2]
def dFs (l : List (Int × Int)) : PyData := .list (l.map dF)
theorem dF_sh (x : Int × Int) : SeqAt.shaped (dF x) = true := rfl
theorem dFs_lay : ∀ l : List (Int × Int), PyData.canLayAll0 (l.map dF) = true
  | [] => rfl
  | x :: r => by
    show (PyData.canLay0 (dF x) && PyData.canLayAll0 (r.map dF)) = true
    rw [dFs_lay r]
    rfl
theorem dFs_dep : ∀ l : List (Int × Int), PyData.depthAll (l.map dF) ≤ 1
  | [] => Nat.zero_le _
  | x :: r => by
    show max (PyData.depth (dF x)) (PyData.depthAll (r.map dF)) ≤ 1
    have := dFs_dep r
    have e : PyData.depth (dF x) = 1 := rfl
    omega
theorem dFs_sh (l : List (Int × Int)) : SeqAt.shaped (dFs l) = true := by
  unfold SeqAt.shaped
  rw [Bool.and_eq_true]
  refine ⟨dFs_lay l, decide_eq_true ?_⟩
  show PyData.depthAll (l.map dF) + 1 ≤ 64
  have := dFs_dep l
  omega
theorem dFs_eqv (l : List (Int × Int)) : PyData.eqv (dFs l) (dFs l) = true := SeqAt.eqv_refl _ (dFs_lay l)
theorem dF_eqv (x : Int × Int) : PyData.eqv (dF x) (dF x) = true := SeqAt.eqv_refl _ rfl
theorem frv {n d : Int} (h : d ≠ 0) : (fr n d).1 * d = n * (fr n d).2 := by
  have g0 : (gg n d : Int) ≠ 0 := by
    have := Nat.gcd_pos_of_pos_right n.natAbs (Int.natAbs_pos.mpr h)
    show ((Nat.gcd n.natAbs d.natAbs : Nat) : Int) ≠ 0
    omega
  obtain ⟨a, ha⟩ : (gg n d : Int) ∣ n := Int.ofNat_dvd_left.mpr (Nat.gcd_dvd_left _ _)
  obtain ⟨b, hb⟩ : (gg n d : Int) ∣ d := Int.ofNat_dvd_left.mpr (Nat.gcd_dvd_right _ _)
  show ((if d < 0 then -n else n) / (gg n d : Int)) * d = n * ((if d < 0 then -d else d) / (gg n d : Int))
  generalize (gg n d : Int) = g at *
  split
  · rw [show -n = g * -a by rw [ha]; grind, show -d = g * -b by rw [hb]; grind, Int.mul_ediv_cancel_left _ g0, Int.mul_ediv_cancel_left _ g0]
    subst ha hb
    grind
  · rw [show n / g = a by rw [ha, Int.mul_ediv_cancel_left _ g0], show d / g = b by rw [hb, Int.mul_ediv_cancel_left _ g0]]
    subst ha hb
    grind
theorem low_uniq {x y : F2} (hx : Low x) (hy : Low y) (e : x.1 * y.2 = y.1 * x.2) : x = y := by
  obtain ⟨a, b⟩ := x
  obtain ⟨c, d⟩ := y
  have b1 : 1 ≤ b := hx.pos
  have d1 : 1 ≤ d := hy.pos
  have e1 : a.natAbs * d.natAbs = c.natAbs * b.natAbs := by
    rw [← Int.natAbs_mul, ← Int.natAbs_mul]
    exact congrArg Int.natAbs e
  have h1 : b.natAbs ∣ d.natAbs := Nat.Coprime.dvd_of_dvd_mul_left (Nat.Coprime.symm hx.co) ⟨c.natAbs, by rw [e1, Nat.mul_comm]⟩
  have h2 : d.natAbs ∣ b.natAbs := Nat.Coprime.dvd_of_dvd_mul_left (Nat.Coprime.symm hy.co) ⟨a.natAbs, by rw [← e1, Nat.mul_comm]⟩
  have h3 := Nat.dvd_antisymm h1 h2
  have h4 : b = d := by omega
  subst h4
  have h5 : a = c := Int.eq_of_mul_eq_mul_right (by omega) (show a * b = c * b from e)
  rw [h5]
/-! ### promises -/
def tupV (x : Int × Int) : List V := [.int x.1, .int x.2]
def tupF (x : Int × Int) : HO := .tup (tupV x)
def spFrac : Sp := fun vs H Q _ => ∃ n d : Int, vs = [.int n, .int d] ∧ d ≠ 0 ∧ Sz 4000 (n, d) ∧ ∀ p, H p = none → Q (.ref p) (upd H p (tupF (fr n d)))
def spBin (K : PySem.W.Frag) (op : F2 → F2 → Int × Int) : Sp := fun vs H Q _ => ∃ (p q : Addr) (a b : F2), vs = [.ref p, .ref q] ∧ SqT K H p (tupV a) ∧ SqT K H q (tupV b) ∧ Sz 1900 a ∧ Sz 1900 b ∧ (op a b).2 ≠ 0 ∧ ∀ r, H r = none → Q (.ref r) (upd H r (tupF (frp (op a b))))
def spIsInt : Sp := fun vs H Q _ => ∃ i : Int, vs = [.int i] ∧ Q (.bl true) H
def spIsInts (K : PySem.W.Frag) : Sp := fun vs H Q _ => ∃ (p : Addr) (ns : List Int), vs = [.ref p] ∧ H p = some (.tup (ns.map V.int)) ∧ ns.length ≤ 100 ∧ ∀ H', Same H H' → Q (.bl true) H'
def spIsFrac (K : PySem.W.Frag) : Sp := fun vs H Q _ => ∃ (p : Addr) (x : F2), vs = [.ref p] ∧ H p = some (tupF x) ∧ Low x ∧ Sz 4000 x ∧ ∀ H', Same H H' → Q (.bl true) H'
def spLaw (K : PySem.W.Frag) : Sp := fun vs H Q _ => ∃ (a : Addr) (ns : List Int), vs = [.ref a] ∧ SqL K H a (ns.map V.int) ∧ ns.length ≤ 63 ∧ ∀ H', Q (.bl true) H'
theorem dp_F {K : PySem.W.Frag} {H : Hp} {p : Addr} {x : Int × Int} (h : SqT K H p (tupV x)) : Dp K H (.ref p) (dF x) := .tup h (.cons (.int _) (.cons (.int _) .nil))
theorem all_true {α : Type} (l : List α) : (l.map fun _ => true).all id = true := by
  rw [List.all_map]
  exact List.all_eq_true.mpr fun _ _ => rfl
def NT (o : HO) : Prop := (∀ xs, o ≠ .tup xs) ∧ ∀ ob u, o ≠ .frz ob u
theorem nt_lst (l : List V) : NT (.lst l) := ⟨fun _ e => (nomatch e), fun _ _ e => (nomatch e)⟩
theorem nt_dk (l : List (Key × V)) : NT (.dK l) := ⟨fun _ e => (nomatch e), fun _ _ e => (nomatch e)⟩
theorem DrawAt.upd {S D L : Addr} {H : Hp} {o : HO} (d : DrawAt S D H) (n1 : L ≠ D) (n2 : L ≠ S) : DrawAt S D (upd H L o) := by
  obtain ⟨cs, h1⟩ := d.cells
  obtain ⟨i, r, c, h0, h2⟩ := d.at_
  exact ⟨d.ne, ⟨cs, by rw [upd_ne n2.symm]; exact h1⟩, ⟨i, r, c, h0, by rw [upd_ne n1.symm]; exact h2⟩⟩
/-- the draws, and one thing F that may change -/
structure StF (S D F : Addr) (H : Hp) : Prop where
  dr : DrawAt S D H
  nS : F ≠ S
  fl : ∃ o, H F = some o ∧ NT o
def GoL (S D F : Addr) (H H' : Hp) : Prop := StF S D F H' ∧ ∀ b o, H b = some o → b ≠ D → b ≠ F → H' b = some o
section
variable {S D F L p : Addr} {H H1 H2 H' : Hp} {o : HO} {K : PySem.W.Frag}
theorem StF.of_draw (d : DrawAt S D H) : StF S D D H := ⟨d, d.ne.symm, let ⟨_, _, _, _, h⟩ := d.at_; ⟨_, h, nt_lst _⟩⟩
theorem StF.free (st : StF S D F H) (h : H p = none) : p ≠ D ∧ p ≠ S ∧ p ≠ F := by
  obtain ⟨o, hF, _⟩ := st.fl
  exact ⟨(st.dr.free h).1, (st.dr.free h).2, (ne_of_none hF h).symm⟩
theorem GoL.refl (st : StF S D F H) : GoL S D F H H := ⟨st, fun _ _ h _ _ => h⟩
theorem GoL.trans (a : GoL S D F H H1) (b : GoL S D F H1 H2) : GoL S D F H H2 := ⟨b.1, fun x o h n m => b.2 x o (a.2 x o h n m) n m⟩
theorem GoL.of_go (st : StF S D F H) (g : Go S D H H') : GoL S D F H H' := by
  refine ⟨⟨g.1, st.nS, ?_⟩, fun b o h n _ => g.2 b o h n⟩
  obtain ⟨o, hF, nt⟩ := st.fl
  by_cases e : F = D
  · rw [e]
    obtain ⟨_, _, _, _, h⟩ := g.1.at_
    exact ⟨_, h, nt_lst _⟩
  · exact ⟨o, g.2 F _ hF e, nt⟩
theorem GoL.to_go (g : GoL S D D H H') : Go S D H H' := ⟨g.1.dr, fun b o h n => g.2 b o h n n⟩
theorem GoL.mut (st : StF S D F H) (g : GoL S D F H H') (h : H L = none) : GoL S D F H (upd H' L o) := by
  obtain ⟨n1, n2, n3⟩ := st.free h
  obtain ⟨u, hF, nt⟩ := g.1.fl
  exact ⟨⟨g.1.dr.upd n1 n2, st.nS, ⟨u, by rw [upd_ne n3.symm]; exact hF, nt⟩⟩, fun b v hb m1 m2 => by
    rw [upd_ne (ne_of_none hb h)]
    exact g.2 b v hb m1 m2⟩
theorem GoL.new (st : StF S D F H) (h : H p = none) : GoL S D F H (upd H p o) := GoL.mut st (GoL.refl st) h
theorem GoL.setF (nD : F ≠ D) (nt : NT o) (g : GoL S D F H H') : GoL S D F H (upd H' F o) :=
  ⟨⟨g.1.dr.upd nD g.1.nS, g.1.nS, ⟨o, upd_same, nt⟩⟩, fun b v hb m1 m2 => by
    rw [upd_ne m2]
    exact g.2 b v hb m1 m2⟩
theorem GoL.back (st : StF S D F H) (g : GoL S D F H H') (h : H' p = none) : H p = none := by
  cases q : H p with
  | none => rfl
  | some u =>
    obtain ⟨n1, n2, n3⟩ := g.1.free h
    rw [g.2 p u q n1 n3] at h
    cases h
theorem nt_not {xs : List V} (nt : NT o) (h : H p = some o) (r : Rd H L (.tup xs)) : L ≠ p := fun e => by
  subst e
  rcases r with r | ⟨ob, r⟩
  · rw [h] at r
    exact nt.1 _ (Option.some.inj r)
  · rw [h] at r
    exact nt.2 _ _ (Option.some.inj r)
theorem GoL.keepT (st : StF S D F H) (g : GoL S D F H H') : KeepT H H' := fun p xs r => by
  obtain ⟨_, _, _, _, hD⟩ := st.dr.at_
  obtain ⟨o, hF, nt⟩ := st.fl
  have n1 := nt_not (nt_lst _) hD r
  have n2 := nt_not nt hF r
  rcases r with r | ⟨o, r⟩
  · exact .inl (g.2 _ _ r n1 n2)
  · exact .inr ⟨o, g.2 _ _ r n1 n2⟩
theorem Go.keepT (d : DrawAt S D H) (g : Go S D H H') : KeepT H H' := GoL.keepT (StF.of_draw d) (GoL.of_go (StF.of_draw d) g)
theorem keepT_nt {o2 : HO} (nt : NT o2) (h : H L = some o2) : KeepT H (upd H L o) := fun p xs r => by
  have n := nt_not nt h r
  rcases r with r | ⟨o, r⟩
  · exact .inl (by rw [upd_ne n]; exact r)
  · exact .inr ⟨o, by rw [upd_ne n]; exact r⟩
theorem noLs_of {α : Type} {f : α → PyData} (h : ∀ a, noL (f a) = true) (l : List α) : noLs (l.map f) = true := noLs_map f l fun a _ => h a
end
/-- a list that is being filled -/
structure BL (K : PySem.W.Frag) (S D F L : Addr) (H0 H : Hp) {α : Type} (f : α → PyData) (as : List α) : Prop where
  g : GoL S D F H0 H
  l : ∃ zs, H L = some (.lst zs) ∧ DpAll K H zs (as.map f)
section
variable {S D F L : Addr} {H0 H H1 : Hp} {K : PySem.W.Frag} {α : Type} {f : α → PyData} {as : List α}
theorem BL.nil (st : StF S D F H0) (h : H0 L = none) : BL K S D F L H0 (upd H0 L (.lst [])) f [] := ⟨GoL.new st h, [], upd_same, .nil⟩
theorem BL.go (st : StF S D F H0) (hL : H0 L = none) (hn : ∀ a, noL (f a) = true) (b : BL K S D F L H0 H f as) (g : GoL S D F H H1) : BL K S D F L H0 H1 f as := by
  obtain ⟨zs, h1, h2⟩ := b.l
  obtain ⟨n1, n2, n3⟩ := st.free hL
  exact ⟨b.g.trans g, zs, g.2 _ _ h1 n1 n3, dpA_keep (GoL.keepT b.g.1 g) _ _ (noLs_of hn as) h2⟩
theorem BL.add (st : StF S D F H0) (hL : H0 L = none) (hn : ∀ a, noL (f a) = true) {a : α} {x : V} {zs : List V} (g : GoL S D F H0 H) (h1 : H L = some (.lst zs)) (h2 : DpAll K H zs (as.map f)) (hx : Dp K H x (f a)) :
    BL K S D F L H0 (upd H L (.lst (zs ++ [x]))) f (as ++ [a]) := by
  have k := keepT_nt (o := .lst (zs ++ [x])) (nt_lst _) h1
  refine ⟨GoL.mut st g hL, zs ++ [x], upd_same, ?_⟩
  rw [List.map_append]
  exact dpA_snoc (dpA_keep k _ _ (noLs_of hn as) h2) (dp_keep k _ _ (hn a) hx)
theorem BL.len (b : BL K S D F L H0 H f as) : ∃ zs, H L = some (.lst zs) ∧ DpAll K H zs (as.map f) ∧ zs.length = as.length := by
  obtain ⟨zs, h1, h2⟩ := b.l
  exact ⟨zs, h1, h2, by have := dpA_len h2; rw [List.length_map] at this; exact this⟩
theorem GoL.drop {H' : Hp} (g : GoL S D F H H') (h : H F = none) : Go S D H H' := ⟨g.1.dr, fun b o hb n => g.2 b o hb n (ne_of_none hb h)⟩
end
theorem snoc_str (l : List Str) (z : Str) : l.map V.str ++ [V.str z] = (l ++ [z]).map V.str := by
  rw [List.map_append]
  rfl
theorem int_noL (p : Int) : noL (.int p) = true := rfl
theorem str_noL (p : Str) : noL (.str p) = true := rfl
/-! ### promises of the small draws -/
def spPop : Sp := fun vs H Q _ => ∃ (S D p : Addr) (xs : List V), vs = [.ref D, .ref p] ∧ DrawAt S D H ∧ p ≠ D ∧ H p = some (.lst xs) ∧ 0 < xs.length ∧ xs.length ≤ 1000 ∧ ∀ (H1 : Hp) (j : Nat) (x : V), Go S D H H1 → xs[j]? = some x → Q x (upd H1 p (.lst (xs.eraseIdx j)))
def spRare : Sp := fun vs H Q _ => ∃ (S D : Addr) (m : Int), vs = [.ref D, .int m] ∧ 0 < m ∧ m < 1000 ∧ DrawAt S D H ∧ ∀ H' b, Go S D H H' → Q (.bl b) H'
def spShuf (K : PySem.W.Frag) : Sp := fun vs H Q _ => ∃ (S D p : Addr) (xs : List V), vs = [.ref D, .ref p] ∧ DrawAt S D H ∧ SqL K H p xs ∧ xs.length ≤ 1000 ∧
  ∀ (H' : Hp) (q : Addr) (ys : List V), Go S D H H' → H q = none → H' q = some (.lst ys) → ys.length = xs.length → (∀ y ∈ ys, y ∈ xs) → Q (.ref q) H'
abbrev PA : Str := "a b2 sum left r k0 carry z9z full tail n m8 aa busy cnt p t4 even2 ab1 head u v2 w lowest high mid "
abbrev PB : Str := "s t e f g h i j k x y q7 deep turn gate l5 next1 o c0 d two zz1 near far9 last ring2 "
abbrev PC : Str := "aaaaaaa8 b c1 top2 net3 row col7 v"
def POOL : List Str := Txt.split (PA ++ PB ++ PC) " "
theorem pool_len : POOL.length = 60 := by decide +kernel
def spPool : Sp := fun vs H Q _ => vs = [] ∧ ∀ p, H p = none → Q (.ref p) (upd H p (.lst (POOL.map V.str)))
section
variable {P : Program} {w : World} {K : PySem.W.Frag} {mg : Str → Option Value} {base : Heap}
theorem ok__law_draw (T : Txt K mg) {f : Addr} {fd : FuncData} (F : FnP K "_law_draw" s__law_draw f fd) : FnOk P w K mg base CX0 1 f fd ["d", "many"] spDraw := by
  refine F.ok sc__law_draw (fun vs H Q E h => ?_) (fun cdv A outer s H vs Q E hr h => ?_)
  · obtain ⟨S, D, m, rfl, _⟩ := h
    rfl
  · obtain ⟨S, D, m, rfl, hm, d, q⟩ := h
    obtain ⟨cs, hS⟩ := id d.cells
    obtain ⟨i, r, c, h0, hD⟩ := id d.at_
    have hm0 : 0 < m := hm.1
    refine ⟨_, PSs.nox (pss_cons (ps_if (pt_cmpR op_gt (pe_ix ix_list (pv 0) pe_int (fun _ _ => rfl)) pe_int (nomark _)) (pss_cons (ps_set (i := 2) sc__law_draw.nd rfl (Or.inl rfl) (pe_ix ix_list (pv 0) pe_int (fun _ _ => rfl)))
      (pss_cons (ps_asg (pe_op op_fdivW (pv 2) (pv 1)) (pg_sub (pv 0) pe_int set_list))
      (pss_one (ps_ret (pe_op op_mod (pe_callTy call_int1 (by rfl) T.b_int (by decide +kernel) (pa_cons (pv 2) pa_nil)) (pv 1)))))) pss_nil)
      (pss_cons (ps_set (i := 3) sc__law_draw.nd rfl (Or.inl rfl) pe_int)
      (Evl.pss_cut (ps_if (pt_cmpR op_lt (pe_ix ix_list (pv 0) pe_int (fun _ _ => rfl)) (pe_callB call_len (by rfl) T.b_len (by decide +kernel) (pa_cons (pe_ix ix_list (pv 0) pe_int (fun _ _ => rfl)) pa_nil)) (nomark _)) (pss_cons (ps_set (i := 4) sc__law_draw.nd rfl (Or.inl rfl) (pe_ix ix_list (pe_ix ix_list (pv 0) pe_int (fun _ _ => rfl)) (pe_ix ix_list (pv 0) pe_int (fun _ _ => rfl)) (fun _ _ => rfl)))
      (pss_one (ps_set (i := 3) sc__law_draw.nd rfl (Or.inl rfl) (pe_op op_add (pe_op op_mul pe_int (pe_callB call_abs (by rfl) T.b_abs (by decide +kernel) (pa_cons (pv 4) pa_nil))) (pe_callTy call_int1 (by rfl) T.b_int (by decide +kernel) (pa_cons (pe_cmpR op_lt (pv 4) pe_int (nomark _)) pa_nil)))))) pss_nil)
      (pss_cons (ps_augS (pv 0) pe_int get_list pe_int ip_add set_list)
      (pss_cons (ps_if (pt_cmpR op_ge (pv 3) (pe_op op_mul pe_int (pe_op op_pow pe_int pe_int)) (nomark _)) (pss_cons (ps_set (i := 2) sc__law_draw.nd rfl (Or.inl rfl) (pe_op op_mod (pe_callTy call_int1 (by rfl) T.b_int (by decide +kernel) (pa_cons (pe_op op_fdivW (pv 3) pe_int) pa_nil)) (pe_op op_shl pe_int pe_int)))
      (pss_cons (ps_asg (pe_op op_fdivW (pv 2) (pv 1)) (pg_sub (pv 0) pe_int set_list))
      (pss_one (ps_ret (pe_op op_mod (pe_callTy call_int1 (by rfl) T.b_int (by decide +kernel) (pa_cons (pv 2) pa_nil)) (pv 1)))))) pss_nil)
      (pss_cons (ps_asg (pe_op op_mod (pe_callTy call_int1 (by rfl) T.b_int (by decide +kernel) (pa_cons (pe_op op_add (pe_op op_add (pe_op op_add (pe_op op_mul (pe_ix ix_list (pv 0) pe_int (fun _ _ => rfl)) pe_int) (pe_op op_mul (pe_op op_mod (pe_callTy call_int1 (by rfl) T.b_int (by decide +kernel) (pa_cons (pv 3) pa_nil)) pe_int) pe_int)) (pe_op op_mul (pe_ix ix_list (pv 0) pe_int (fun _ _ => rfl)) pe_int)) pe_int) pa_nil)) pe_int) (pg_sub (pv 0) pe_int set_list))
      (pss_one (ps_ret (pe_op op_mod (pe_callTy call_int1 (by rfl) T.b_int (by decide +kernel) (pa_cons (pe_op op_fdivW (pe_ix ix_list (pv 0) pe_int (fun _ _ => rfl)) pe_int) pa_nil)) (pv 1)))))))))), ?_⟩
    refine ⟨_, rfl, D, _, _, _, rfl, rfl, SqL.of hD, atI_nat (j := 2) rfl, _, _, rfl, rfl, _, rfl, ?_⟩
    refine ite2 (fun e => ?_) (fun e => ?_)
    · refine ⟨_, rfl, D, _, _, _, rfl, rfl, SqL.of hD, atI_nat (j := 2) rfl, ?_⟩
      refine ⟨_, rfl, _, rfl, _, _, rfl, rfl, hm, _, rfl, D, _, _, 2, rfl, rfl, hD, rfl, ?_⟩
      refine ⟨_, rfl, .inl ⟨_, rfl, _, rfl, _, _, rfl, rfl, hm0, ?_⟩⟩
      refine q _ _ (Int.emod_nonneg _ (by omega)) (Int.emod_lt_of_pos _ hm0) ⟨d.set h0, Keep.refl.set⟩
    · refine ⟨fun σ' H' => ∃ (z : Int) (x : Option V), σ' = [some (.ref D), some (.int m), none, some (.int z), x] ∧ H' = H, ?_, ?_⟩
      · refine ⟨_, rfl, D, _, _, _, rfl, rfl, SqL.of hD, atI_nat (j := 1) rfl, ?_⟩
        refine ⟨_, rfl, D, _, _, _, rfl, rfl, SqL.of hD, atI_nat (j := 0) rfl, _, _, rfl, .inl ⟨_, SqL.of hS, rfl⟩, _, _, rfl, rfl, _, rfl, ?_⟩
        refine ite2 (fun e1 => ?_) (fun e1 => ?_)
        · have e2 : i < ((cs.map V.int).length : Int) := of_decide_eq_true e1
          have e3 : i.toNat < (cs.map V.int).length := by omega
          have e4 : i.toNat < cs.length := by rw [List.length_map] at e3; exact e3
          have e5 : (cs.map V.int)[i.toNat]? = some (.int cs[i.toNat]) := by
            rw [List.getElem?_map, List.getElem?_eq_getElem e4]
            rfl
          have e6 : atI (cs.map V.int) i = some (.int cs[i.toNat]) := by
            have := atI_nat (xs := cs.map V.int) e5
            rw [show ((i.toNat : Nat) : Int) = i by omega] at this
            exact this
          refine ⟨_, rfl, D, _, _, _, rfl, rfl, SqL.of hD, atI_nat (j := 0) rfl, ?_⟩
          refine ⟨_, rfl, D, _, _, _, rfl, rfl, SqL.of hD, atI_nat (j := 1) rfl, ?_⟩
          refine ⟨S, _, _, _, rfl, rfl, SqL.of hS, e6, ?_⟩
          refine ⟨_, rfl, _, rfl, _, _, rfl, rfl, .inl ⟨by decide, by decide⟩, ?_⟩
          refine ⟨_, rfl, _, _, rfl, rfl, .inr ⟨_, rfl, _, _, rfl, rfl, ?_⟩⟩
          exact ⟨_, _, rfl, rfl⟩
        · exact ⟨_, _, rfl, rfl⟩
      · rintro σ' H' ⟨z, x, rfl, rfl⟩
        refine ⟨_, rfl, D, _, _, _, rfl, rfl, SqL.of hD, atI_nat (j := 1) rfl, ?_⟩
        refine ⟨_, _, rfl, rfl, D, _, _, 1, rfl, rfl, hD, rfl, ?_⟩
        have hD1 : (upd H' D (.lst [.ref S, .int (i + 1), .int r, .int c])) D = some (.lst [.ref S, .int (i + 1), .int r, .int c]) := upd_same
        have d1 : DrawAt S D (upd H' D (.lst [.ref S, .int (i + 1), .int r, .int c])) := d.set (by omega)
        refine ⟨_, rfl, _, _, rfl, rfl, ⟨by decide, by decide, by decide⟩, _, _, rfl, rfl, .inl ⟨by decide, by decide⟩, _, _, rfl, rfl, _, rfl, ?_⟩
        refine ite2 (fun e1 => ?_) (fun e1 => ?_)
        · refine ⟨_, rfl, _, _, rfl, rfl, ⟨by decide, by decide⟩, .inl ⟨_, rfl, _, _, rfl, rfl, ⟨by decide, by decide, by decide⟩, ?_⟩⟩
          refine ⟨_, _, rfl, rfl, ?_, ?_⟩
          · show (0 : Int) < 1 * 2 ^ (6000 : Int).toNat
            exact Int.mul_pos (by decide) (Int.pow_pos (by decide))
          · refine ⟨_, rfl, _, rfl, _, _, rfl, rfl, hm, _, rfl, D, _, _, 2, rfl, rfl, hD1, rfl, ?_⟩
            refine ⟨_, rfl, .inl ⟨_, rfl, _, rfl, _, _, rfl, rfl, hm0, ?_⟩⟩
            exact q _ _ (Int.emod_nonneg _ (by omega)) (Int.emod_lt_of_pos _ hm0) ⟨d1.set (by omega), Keep.refl.set.set⟩
        · refine ⟨_, rfl, D, _, _, _, rfl, rfl, SqL.of hD1, atI_nat (j := 3) rfl, _, _, rfl, rfl, .inr ⟨by decide, by decide⟩, ?_⟩
          refine ⟨_, rfl, .inl ⟨_, rfl, _, _, rfl, rfl, (by show (0 : Int) < 2147483629; decide), _, _, rfl, rfl, .inr ⟨by decide, by decide⟩, _, _, rfl, rfl, ?_⟩⟩
          refine ⟨_, rfl, D, _, _, _, rfl, rfl, SqL.of hD1, atI_nat (j := 1) rfl, _, _, rfl, rfl, .inr ⟨by decide, by decide⟩, _, _, rfl, rfl, _, _, rfl, rfl, .inl ⟨_, rfl, ?_⟩⟩
          refine ⟨_, _, rfl, rfl, (by show (0 : Int) < 2147483647; decide), _, rfl, D, _, _, 3, rfl, rfl, hD1, rfl, ?_⟩
          refine ⟨_, rfl, D, _, _, _, rfl, rfl, SqL.of upd_same, atI_nat (j := 3) rfl, _, _, rfl, rfl, ⟨by decide, by decide⟩, ?_⟩
          refine .inl ⟨_, rfl, _, rfl, _, _, rfl, rfl, hm0, ?_⟩
          exact q _ _ (Int.emod_nonneg _ (by omega)) (Int.emod_lt_of_pos _ hm0) ⟨d1.set (by omega), Keep.refl.set.set⟩
theorem ok__law_begin (T : Txt K mg) {f : Addr} {fd : FuncData} (F : FnP K "_law_begin" s__law_begin f fd) : FnOk P w K mg base CX0 1 f fd ["script"] (spBegin K) := by
  refine F.ok sc__law_begin (fun vs H Q E h => ?_) (fun cdv A outer s H vs Q E hr h => ?_)
  · obtain ⟨a, ns, rfl, _⟩ := h
    rfl
  · obtain ⟨a, ns, rfl, hS, hlen, q⟩ := h
    refine ⟨_, PSs.nox (pss_one (ps_ret (pe_lst (pa_cons (pe_lc (own := [("cell", 1)]) (g := (gName 1)) (tt := tYes) rfl sc__law_begin.nd (pi_list (pv 0)) (blkOk_by (N := N__law_begin) (sc := defScope s__law_begin) (by decide +kernel)) (fun _ _ _ _ _ => (pg_name (i := 1) sc__law_begin.nd rfl (Or.inl rfl))) (fun _ _ _ _ _ => pts_nil) (fun _ _ _ _ _ => (pe_callTy call_int1 (by rfl) T.b_int (by decide +kernel) (pa_cons (pv 1) pa_nil)))) (pa_cons pe_int (pa_cons pe_int (pa_cons pe_int pa_nil))))))), ?_⟩
    refine ⟨_, rfl, a, rfl, ⟨_, hS⟩, fun L hL => lc_list (xs := ns.map V.int) (fun i H' => H' = upd H L (.lst ((ns.take i).map V.int))) rfl (fun i H' _ e => ?_) ?_ ?_⟩
    · subst e
      exact (show Same H _ from fun b o h => by rw [upd_ne (ne_of_none h hL)]; exact h).seq hS
    · rintro i x H1 hi rfl
      obtain ⟨z, rfl, hz⟩ := getV hi
      refine ⟨rfl, _, rfl, .inl ⟨_, rfl, _, upd_same, ?_, ?_⟩⟩
      · rw [List.length_map, List.length_take]
        exact Nat.lt_of_le_of_lt (Nat.min_le_right _ _) (small1000 (by omega))
      · rw [upd_upd, take_map_succ (f := V.int) hz]
    · rintro H' rfl
      refine ⟨by show 4 ≤ sizeLine; decide, fun D hD => ?_⟩
      have nLD : D ≠ L := fun e => by
        rw [e, upd_same] at hD
        cases hD
      have hD0 : H D = none := by
        rw [upd_ne nLD] at hD
        exact hD
      refine q L D _ (fun b o h => ?_) hD0 ⟨fun e => nLD e.symm, ⟨ns, ?_⟩, ⟨0, 0, 7, by decide, upd_same⟩⟩
      · rw [upd_ne (ne_of_none h hD0), upd_ne (ne_of_none h hL)]
        exact h
      · rw [upd_ne (fun e => nLD e.symm), upd_same]
        rw [List.take_of_length_le (by rw [List.length_map]; exact Nat.le_refl _)]
theorem ok__law_pick (T : Txt K mg) (D__law_draw : Kept P w K mg base 1 "_law_draw" ["d", "many"] spDraw) {f : Addr} {fd : FuncData} (F : FnP K "_law_pick" s__law_pick f fd) : FnOk P w K mg base CX0 2 f fd ["d", "row"] (spPick K) := by
  refine F.ok sc__law_pick (fun vs H Q E h => ?_) (fun cdv A outer s H vs Q E hr h => ?_)
  · obtain ⟨S, D, r, xs, rfl, _⟩ := h
    rfl
  · obtain ⟨S, D, r, xs, rfl, d, hR, h0, h1, q⟩ := h
    refine ⟨_, PSs.nox (pss_one (ps_ret (pe_ix ix_seq (pv 1) (pe_d D__law_draw (hr.mono (by decide)) (by rfl) (pa_cons (pv 0) (pa_cons (pe_callB call_len (by rfl) T.b_len (by decide +kernel) (pa_cons (pv 1) pa_nil)) pa_nil))) (fun _ _ => rfl)))), ?_⟩
    refine ⟨r, rfl, _, rfl, _, rfl, r, xs.length, rfl, ?_, ?_⟩
    · rcases hR H (Go.refl d) with ⟨z, rfl, rfl⟩ | ⟨p, rfl, hp⟩ | ⟨p, rfl, hp⟩
      · refine ⟨?_, by simp [Str.length]⟩
        rw [List.length_map] at h1
        have : z.length = z.cps.toList.length := by simp [Str.length]
        rw [this]
        exact Nat.le_trans h1 (by decide)
      · exact .inl ⟨_, hp, rfl⟩
      · exact .inr ⟨_, hp, rfl⟩
    · refine ⟨S, D, _, rfl, divW_of (by omega) (by omega), d, fun H' v hv0 hv1 g => ?_⟩
      have hv : v.toNat < xs.length := by omega
      have e : ((v.toNat : Nat) : Int) = v := by omega
      have ex : xs[v.toNat]? = some xs[v.toNat] := List.getElem?_eq_getElem hv
      have ea : atI xs v = some xs[v.toNat] := by
        have := atI_nat (xs := xs) ex
        rw [e] at this
        exact this
      rcases hR H' g with ⟨z, rfl, rfl⟩ | ⟨p, rfl, hp⟩ | ⟨p, rfl, hp⟩
      · refine .inr (.inr ⟨z, v, z.cps.toList[v.toNat]'(by rw [List.length_map] at hv; exact hv), rfl, rfl, ?_, ?_, ?_⟩)
        · rw [List.length_map] at h1
          have : z.length = z.cps.toList.length := by simp [Str.length]
          rw [this]
          exact Nat.le_trans h1 (by decide)
        · have := atI_nat (xs := z.cps.toList) (List.getElem?_eq_getElem (show v.toNat < z.cps.toList.length by rw [List.length_map] at hv; exact hv))
          rw [e] at this
          exact this
        · refine q H' _ ?_ g
          exact List.mem_map_of_mem (List.getElem_mem _)
      · exact .inl ⟨p, xs, v, _, rfl, rfl, hp, ea, q H' _ (List.getElem_mem _) g⟩
      · exact .inr (.inl ⟨p, xs, v, _, rfl, rfl, hp, ea, q H' _ (List.getElem_mem _) g⟩)
theorem ok__law_pop (T : Txt K mg) (D__law_draw : Kept P w K mg base 1 "_law_draw" ["d", "many"] spDraw) {f : Addr} {fd : FuncData} (F : FnP K "_law_pop" s__law_pop f fd) : FnOk P w K mg base CX0 2 f fd ["d", "row"] spPop := by
  refine F.ok sc__law_pop (fun vs H Q E h => ?_) (fun cdv A outer s H vs Q E hr h => ?_)
  · obtain ⟨S, D, p, xs, rfl, _⟩ := h
    rfl
  · obtain ⟨S, D, p, xs, rfl, d, nD, hp, h0, h1, q⟩ := h
    refine ⟨_, PSs.nox (pss_one (ps_ret (pe_bm PySem.F.plainAttrs_list PySem.F.slot_list_pop PySem.F.type_list_pop mt_popAt (pv 1) (pa_cons (pe_d D__law_draw (hr.mono (by decide)) (by rfl) (pa_cons (pv 0) (pa_cons (pe_callB call_len (by rfl) T.b_len (by decide +kernel) (pa_cons (pv 1) pa_nil)) pa_nil))) pa_nil)))), ?_⟩
    refine ⟨_, rfl, .inl ⟨rfl, _, SqL.of hp⟩, _, rfl, _, rfl, _, _, rfl, .inl ⟨_, SqL.of hp, rfl⟩, S, D, _, rfl, divW_of (by omega) (by omega), d, fun H1 v v0 v1 g => ?_⟩
    have hv : v.toNat < xs.length := by omega
    have ex : xs[v.toNat]? = some xs[v.toNat] := List.getElem?_eq_getElem hv
    refine ⟨p, xs, v, v.toNat, _, rfl, rfl, g.2 _ _ hp nD, by omega, by omega, ?_, ex, q H1 _ _ g ex⟩
    exact seqIndex_of v0 (by omega)
theorem ok__law_rare (T : Txt K mg) (D__law_draw : Kept P w K mg base 1 "_law_draw" ["d", "many"] spDraw) {f : Addr} {fd : FuncData} (F : FnP K "_law_rare" s__law_rare f fd) : FnOk P w K mg base CX0 2 f fd ["d", "many"] spRare := by
  refine F.ok sc__law_rare (fun vs H Q E h => ?_) (fun cdv A outer s H vs Q E hr h => ?_)
  · obtain ⟨S, D, m, rfl, _⟩ := h
    rfl
  · obtain ⟨S, D, m, rfl, m0, m1, d, q⟩ := h
    refine ⟨_, PSs.nox (pss_one (ps_ret (pe_cmpR op_eq (pe_d D__law_draw (hr.mono (by decide)) (by rfl) (pa_cons (pv 0) (pa_cons (pv 1) pa_nil))) (pe_op op_fdivW (pv 1) pe_int) (nomark _)))), ?_⟩
    exact ⟨_, rfl, _, rfl, S, D, m, rfl, divW_of m0 (by omega), d, fun H1 v _ _ g => ⟨_, rfl, _, _, rfl, rfl, ⟨by decide, by decide⟩, rfl, q H1 _ g⟩⟩
theorem ok__law_pool (T : Txt K mg) {f : Addr} {fd : FuncData} (F : FnP K "_law_pool" s__law_pool f fd) : FnOk P w K mg base CX0 1 f fd [] spPool := by
  refine F.ok sc__law_pool (fun vs H Q E h => ?_) (fun cdv A outer s H vs Q E hr h => ?_)
  · obtain ⟨rfl, _⟩ := h
    rfl
  · obtain ⟨rfl, q⟩ := h
    refine ⟨_, PSs.nox (pss_cons (ps_set (i := 0) sc__law_pool.nd rfl (Or.inl rfl) pe_str)
      (pss_cons (ps_set (i := 0) sc__law_pool.nd rfl (Or.inl rfl) (pe_op op_add_str (pv 0) pe_str))
      (pss_one (ps_ret (pe_split (pe_op op_add_str (pv 0) pe_str) pe_str))))), ?_⟩
    exact ⟨_, rfl, _, _, rfl, rfl, by decide +kernel, _, rfl, _, _, rfl, rfl, by decide +kernel, ⟨_, rfl⟩, _, _, rfl, rfl, by decide +kernel, by decide +kernel, fun p hp => q p hp⟩
theorem ok_make_fraction (T : Txt K mg) {f : Addr} {fd : FuncData} (F : FnP K "make_fraction" s_make_fraction f fd) : FnOk P w K mg base CX0 1 f fd ["n", "d"] spFrac := by
  refine F.ok sc_make_fraction (fun vs H Q E h => ?_) (fun cdv A outer s H vs Q E hr h => ?_)
  · obtain ⟨n, d, rfl, _⟩ := h
    rfl
  · obtain ⟨n, d, rfl, hd, hz, q⟩ := h
    refine ⟨_, PSs.nox (Evl.pss_cut (ps_if (pt_cmpR op_lt (pv 1) pe_int (nomark _)) (pss_one (ps_par (i := 0) (j := 1) (by rfl) sc_make_fraction.nd rfl rfl (by decide) rfl rfl (pa_cons (pe_un un_neg (pv 0)) (pa_cons (pe_un un_neg (pv 1)) pa_nil)) (by rfl))) pss_nil)
      (pss_cons (ps_set (i := 2) sc_make_fraction.nd rfl (Or.inl rfl) (pe_callBfun cr_gcd (by rfl) T.f_gcd (pa_cons (pv 0) (pa_cons (pv 1) pa_nil))))
      (pss_one (ps_ret (pe_tup (pa_cons (pe_op op_fdivW (pv 0) (pv 2)) (pa_cons (pe_op op_fdivW (pv 1) (pv 2)) pa_nil))))))), ?_⟩
    have g0 := gg_pos (n := n) hd
    have gl := gg_le (n := n) hd
    have cw : CDivW 0 (gg n d : Int) := wide_div (b := 4000) (by omega) (Nat.lt_of_le_of_lt (by rw [Int.natAbs_natCast]; exact gl) hz.2) (by decide) (by decide)
    refine ⟨fun σ H' => σ = [some (.int (if d < 0 then -n else n)), some (.int (if d < 0 then -d else d)), none] ∧ H' = H, ?_, ?_⟩
    · refine ⟨_, rfl, _, _, rfl, rfl, _, rfl, ?_⟩
      refine ite2 (fun e => ?_) (fun e => ?_)
      · have e1 : d < 0 := of_decide_eq_true e
        rw [if_pos e1, if_pos e1]
        exact ⟨_, rfl, _, rfl, _, rfl, _, rfl, _, _, rfl, rfl, rfl⟩
      · have e1 : ¬ d < 0 := fun z => e (decide_eq_true z)
        rw [if_neg e1, if_neg e1]
        exact ⟨rfl, rfl⟩
    · rintro σ H' ⟨rfl, rfl⟩
      refine ⟨_, rfl, _, rfl, _, _, rfl, ?_⟩
      rw [gg_if]
      refine ⟨_, rfl, _, rfl, _, _, rfl, rfl, cw, _, rfl, _, rfl, _, _, rfl, rfl, cw, by show 2 ≤ sizeLine; decide, fun p hp => ?_⟩
      exact q p hp
theorem ok__law_frac (T : Txt K mg) {f : Addr} {fd : FuncData} (F : FnP K "_law_frac" s__law_frac f fd) : FnOk P w K mg base CX0 1 f fd ["n", "d"] spFrac := by
  refine F.ok sc__law_frac (fun vs H Q E h => ?_) (fun cdv A outer s H vs Q E hr h => ?_)
  · obtain ⟨n, d, rfl, _⟩ := h
    rfl
  · obtain ⟨n, d, rfl, hd, hz, q⟩ := h
    refine ⟨_, PSs.nox (Evl.pss_cut (ps_if (pt_cmpR op_lt (pv 1) pe_int (nomark _)) (pss_cons (ps_set (i := 0) sc__law_frac.nd rfl (Or.inl rfl) (pe_un un_neg (pv 0)))
      (pss_one (ps_set (i := 1) sc__law_frac.nd rfl (Or.inl rfl) (pe_un un_neg (pv 1))))) pss_nil)
      (pss_cons (ps_set (i := 2) sc__law_frac.nd rfl (Or.inl rfl) (pe_callB call_abs (by rfl) T.b_abs (by decide +kernel) (pa_cons (pv 0) pa_nil)))
      (pss_cons (ps_set (i := 3) sc__law_frac.nd rfl (Or.inl rfl) (pv 1))
      (pss_cons (ps_while PassesOwn.never (pt_cmpR op_gt (pv 3) pe_int (nomark _)) (pss_cons (ps_set (i := 4) sc__law_frac.nd rfl (Or.inl rfl) (pe_op op_mod (pe_callTy call_int1 (by rfl) T.b_int (by decide +kernel) (pa_cons (pv 2) pa_nil)) (pv 3)))
      (pss_cons (ps_set (i := 2) sc__law_frac.nd rfl (Or.inl rfl) (pv 3))
      (pss_one (ps_set (i := 3) sc__law_frac.nd rfl (Or.inl rfl) (pv 4))))))
      (pss_one (ps_ret (pe_tup (pa_cons (pe_op op_fdivW (pv 0) (pv 2)) (pa_cons (pe_op op_fdivW (pv 1) (pv 2)) pa_nil))))))))), ?_⟩
    have g0 := gg_pos (n := n) hd
    have gl := gg_le (n := n) hd
    have cw : CDivW 0 (gg n d : Int) := wide_div (b := 4000) (by omega) (Nat.lt_of_le_of_lt (by rw [Int.natAbs_natCast]; exact gl) hz.2) (by decide) (by decide)
    refine ⟨fun σ H' => σ = [some (.int (if d < 0 then -n else n)), some (.int (if d < 0 then -d else d)), none, none, none] ∧ H' = H, ?_, ?_⟩
    · refine ⟨_, rfl, _, _, rfl, rfl, _, rfl, ?_⟩
      refine ite2 (fun e => ?_) (fun e => ?_)
      · have e1 : d < 0 := of_decide_eq_true e
        rw [if_pos e1, if_pos e1]
        exact ⟨_, rfl, _, rfl, _, rfl, _, rfl, rfl, rfl⟩
      · have e1 : ¬ d < 0 := fun z => e (decide_eq_true z)
        rw [if_neg e1, if_neg e1]
        exact ⟨rfl, rfl⟩
    · rintro σ H' ⟨rfl, rfl⟩
      refine ⟨_, rfl, _, rfl, _, rfl, ?_⟩
      have ea : (if (if d < 0 then -n else n) < 0 then -(if d < 0 then -n else n) else (if d < 0 then -n else n)) = ((n.natAbs : Nat) : Int) := by
        split <;> split <;> omega
      have eb : (if d < 0 then -d else d) = ((d.natAbs : Nat) : Int) := by
        split <;> omega
      refine ⟨fun m σ' H1 => ∃ (x y : Nat) (r : Option V), σ' = [some (.int (if d < 0 then -n else n)), some (.int (if d < 0 then -d else d)), some (.int (x : Nat)), some (.int (y : Nat)), r] ∧ y = m ∧ Nat.gcd x y = gg n d ∧ H1 = H', ⟨_, n.natAbs, d.natAbs, none, ?_, rfl, rfl, rfl⟩, ?_⟩
      · rw [← ea, ← eb]
        rfl
      · rintro m σ' H1 ⟨x, y, r, rfl, rfl, hg, rfl⟩
        refine ⟨_, rfl, _, _, rfl, rfl, _, rfl, ?_⟩
        refine ite2 (fun e => ?_) (fun e => ?_)
        · have e1 : (0 : Int) < (y : Int) := of_decide_eq_true e
          have e2 : 0 < y := by omega
          refine ⟨fun σ2 H2 => ∃ r : Option V, σ2 = [some (.int (if d < 0 then -n else n)), some (.int (if d < 0 then -d else d)), some (.int (y : Nat)), some (.int ((x % y : Nat) : Int)), r] ∧ H2 = H1, ?_, ?_⟩
          · rintro σ2 H2 ⟨r, rfl, rfl⟩
            refine ⟨x % y, Nat.mod_lt _ e2, y, x % y, r, rfl, rfl, ?_, rfl⟩
            rw [← hg, Nat.gcd_comm x y, Nat.gcd_rec y x, Nat.gcd_comm]
          · exact ⟨_, rfl, .inl ⟨_, rfl, _, rfl, _, _, rfl, rfl, e1, _, rfl, _, rfl, _, rfl, rfl⟩⟩
        · have e1 : ¬ (0 : Int) < (y : Int) := fun z => e (decide_eq_true z)
          have e2 : y = 0 := by omega
          subst e2
          have e3 : x = gg n d := by rw [← hg, Nat.gcd_zero_right]
          subst e3
          exact ⟨_, rfl, _, rfl, _, _, rfl, rfl, cw, _, rfl, _, rfl, _, _, rfl, rfl, cw, by show 2 ≤ sizeLine; decide, fun p hp => q p hp⟩
theorem ok_sum_of (T : Txt K mg) (D_make_fraction : Kept P w K mg base 1 "make_fraction" ["n", "d"] spFrac) {f : Addr} {fd : FuncData} (F : FnP K "sum_of" s_sum_of f fd) : FnOk P w K mg base CX0 2 f fd ["a", "b"] (spBin K add2) := by
  refine F.ok sc_sum_of (fun vs H Q E h => ?_) (fun cdv A outer s H vs Q E hr h => ?_)
  · obtain ⟨p, p2, a, b, rfl, _⟩ := h
    rfl
  · obtain ⟨p, p2, a, b, rfl, hp, hp2, za, zb, hne, q⟩ := h
    refine ⟨_, PSs.nox (pss_one (ps_ret (pe_d D_make_fraction (hr.mono (by decide)) (by rfl) (pa_cons (pe_op op_add (pe_op op_mulW (pe_ix ix_tup (pv 0) pe_int (fun _ _ => rfl)) (pe_ix ix_tup (pv 1) pe_int (fun _ _ => rfl))) (pe_op op_mulW (pe_ix ix_tup (pv 1) pe_int (fun _ _ => rfl)) (pe_ix ix_tup (pv 0) pe_int (fun _ _ => rfl)))) (pa_cons (pe_op op_mulW (pe_ix ix_tup (pv 0) pe_int (fun _ _ => rfl)) (pe_ix ix_tup (pv 1) pe_int (fun _ _ => rfl))) pa_nil))))), ?_⟩
    exact ⟨_, rfl, p, _, _, _, rfl, rfl, hp, atI_nat (j := 0) rfl, _, rfl, p2, _, _, _, rfl, rfl, hp2, atI_nat (j := 1) rfl, _, _, rfl, rfl, wide_mul za.1 zb.2 (by decide) (by decide) (by decide), _, rfl, p2, _, _, _, rfl, rfl, hp2, atI_nat (j := 0) rfl, _, rfl, p, _, _, _, rfl, rfl, hp, atI_nat (j := 1) rfl, _, _, rfl, rfl, wide_mul zb.1 za.2 (by decide) (by decide) (by decide), _, _, rfl, rfl, _, rfl, p, _, _, _, rfl, rfl, hp, atI_nat (j := 1) rfl, _, rfl, p2, _, _, _, rfl, rfl, hp2, atI_nat (j := 1) rfl, _, _, rfl, rfl, wide_mul za.2 zb.2 (by decide) (by decide) (by decide), _, _, rfl, hne, sz_up (add2_sz za zb) (by decide), q⟩
theorem ok_product_of (T : Txt K mg) (D_make_fraction : Kept P w K mg base 1 "make_fraction" ["n", "d"] spFrac) {f : Addr} {fd : FuncData} (F : FnP K "product_of" s_product_of f fd) : FnOk P w K mg base CX0 2 f fd ["a", "b"] (spBin K mul2) := by
  refine F.ok sc_product_of (fun vs H Q E h => ?_) (fun cdv A outer s H vs Q E hr h => ?_)
  · obtain ⟨p, p2, a, b, rfl, _⟩ := h
    rfl
  · obtain ⟨p, p2, a, b, rfl, hp, hp2, za, zb, hne, q⟩ := h
    refine ⟨_, PSs.nox (pss_one (ps_ret (pe_d D_make_fraction (hr.mono (by decide)) (by rfl) (pa_cons (pe_op op_mulW (pe_ix ix_tup (pv 0) pe_int (fun _ _ => rfl)) (pe_ix ix_tup (pv 1) pe_int (fun _ _ => rfl))) (pa_cons (pe_op op_mulW (pe_ix ix_tup (pv 0) pe_int (fun _ _ => rfl)) (pe_ix ix_tup (pv 1) pe_int (fun _ _ => rfl))) pa_nil))))), ?_⟩
    exact ⟨_, rfl, p, _, _, _, rfl, rfl, hp, atI_nat (j := 0) rfl, _, rfl, p2, _, _, _, rfl, rfl, hp2, atI_nat (j := 0) rfl, _, _, rfl, rfl, wide_mul za.1 zb.1 (by decide) (by decide) (by decide), _, rfl, p, _, _, _, rfl, rfl, hp, atI_nat (j := 1) rfl, _, rfl, p2, _, _, _, rfl, rfl, hp2, atI_nat (j := 1) rfl, _, _, rfl, rfl, wide_mul za.2 zb.2 (by decide) (by decide) (by decide), _, _, rfl, hne, sz_up (mul2_sz za zb) (by decide), q⟩
theorem ok__law_plus (T : Txt K mg) (D__law_frac : Kept P w K mg base 1 "_law_frac" ["n", "d"] spFrac) {f : Addr} {fd : FuncData} (F : FnP K "_law_plus" s__law_plus f fd) : FnOk P w K mg base CX0 2 f fd ["a", "b"] (spBin K add2) := by
  refine F.ok sc__law_plus (fun vs H Q E h => ?_) (fun cdv A outer s H vs Q E hr h => ?_)
  · obtain ⟨p, p2, a, b, rfl, _⟩ := h
    rfl
  · obtain ⟨p, p2, a, b, rfl, hp, hp2, za, zb, hne, q⟩ := h
    refine ⟨_, PSs.nox (pss_one (ps_ret (pe_d D__law_frac (hr.mono (by decide)) (by rfl) (pa_cons (pe_op op_add (pe_op op_mulW (pe_ix ix_tup (pv 0) pe_int (fun _ _ => rfl)) (pe_ix ix_tup (pv 1) pe_int (fun _ _ => rfl))) (pe_op op_mulW (pe_ix ix_tup (pv 1) pe_int (fun _ _ => rfl)) (pe_ix ix_tup (pv 0) pe_int (fun _ _ => rfl)))) (pa_cons (pe_op op_mulW (pe_ix ix_tup (pv 0) pe_int (fun _ _ => rfl)) (pe_ix ix_tup (pv 1) pe_int (fun _ _ => rfl))) pa_nil))))), ?_⟩
    exact ⟨_, rfl, p, _, _, _, rfl, rfl, hp, atI_nat (j := 0) rfl, _, rfl, p2, _, _, _, rfl, rfl, hp2, atI_nat (j := 1) rfl, _, _, rfl, rfl, wide_mul za.1 zb.2 (by decide) (by decide) (by decide), _, rfl, p2, _, _, _, rfl, rfl, hp2, atI_nat (j := 0) rfl, _, rfl, p, _, _, _, rfl, rfl, hp, atI_nat (j := 1) rfl, _, _, rfl, rfl, wide_mul zb.1 za.2 (by decide) (by decide) (by decide), _, _, rfl, rfl, _, rfl, p, _, _, _, rfl, rfl, hp, atI_nat (j := 1) rfl, _, rfl, p2, _, _, _, rfl, rfl, hp2, atI_nat (j := 1) rfl, _, _, rfl, rfl, wide_mul za.2 zb.2 (by decide) (by decide) (by decide), _, _, rfl, hne, sz_up (add2_sz za zb) (by decide), q⟩
theorem ok__law_times (T : Txt K mg) (D__law_frac : Kept P w K mg base 1 "_law_frac" ["n", "d"] spFrac) {f : Addr} {fd : FuncData} (F : FnP K "_law_times" s__law_times f fd) : FnOk P w K mg base CX0 2 f fd ["a", "b"] (spBin K mul2) := by
  refine F.ok sc__law_times (fun vs H Q E h => ?_) (fun cdv A outer s H vs Q E hr h => ?_)
  · obtain ⟨p, p2, a, b, rfl, _⟩ := h
    rfl
  · obtain ⟨p, p2, a, b, rfl, hp, hp2, za, zb, hne, q⟩ := h
    refine ⟨_, PSs.nox (pss_one (ps_ret (pe_d D__law_frac (hr.mono (by decide)) (by rfl) (pa_cons (pe_op op_mulW (pe_ix ix_tup (pv 0) pe_int (fun _ _ => rfl)) (pe_ix ix_tup (pv 1) pe_int (fun _ _ => rfl))) (pa_cons (pe_op op_mulW (pe_ix ix_tup (pv 0) pe_int (fun _ _ => rfl)) (pe_ix ix_tup (pv 1) pe_int (fun _ _ => rfl))) pa_nil))))), ?_⟩
    exact ⟨_, rfl, p, _, _, _, rfl, rfl, hp, atI_nat (j := 0) rfl, _, rfl, p2, _, _, _, rfl, rfl, hp2, atI_nat (j := 0) rfl, _, _, rfl, rfl, wide_mul za.1 zb.1 (by decide) (by decide) (by decide), _, rfl, p, _, _, _, rfl, rfl, hp, atI_nat (j := 1) rfl, _, rfl, p2, _, _, _, rfl, rfl, hp2, atI_nat (j := 1) rfl, _, _, rfl, rfl, wide_mul za.2 zb.2 (by decide) (by decide) (by decide), _, _, rfl, hne, sz_up (mul2_sz za zb) (by decide), q⟩
theorem ok__law_is_int (T : Txt K mg) {f : Addr} {fd : FuncData} (F : FnP K "_law_is_int" s__law_is_int f fd) : FnOk P w K mg base CX0 1 f fd ["thing"] spIsInt := by
  refine F.ok sc__law_is_int (fun vs H Q E h => ?_) (fun cdv A outer s H vs Q E hr h => ?_)
  · obtain ⟨p, rfl, _⟩ := h
    rfl
  · obtain ⟨i, rfl, q⟩ := h
    refine ⟨_, PSs.nox (pss_one (ps_ret (pe_and (pe_callB call_isi (by rfl) T.b_isinstance (by decide +kernel) (pa_cons (pv 0) (pa_cons (pe_bltn (v := .ty "int") (u := .type "int") (by rfl) T.b_int (by decide +kernel) rfl) pa_nil))) (pe_one (pe_not (pe_callB call_isi (by rfl) T.b_isinstance (by decide +kernel) (pa_cons (pv 0) (pa_cons (pe_bltn (v := .ty "bool") (u := .type "bool") (by rfl) T.b_bool (by decide +kernel) rfl) pa_nil)))))))), ?_⟩
    refine ⟨_, rfl, _, .ty "int", .type "int", .type "int", true, rfl, .ty _, .base (.int _), kit_ty (by decide +kernel), true, rfl, ?_⟩
    exact ⟨_, rfl, _, .ty "bool", .type "int", .type "bool", false, rfl, .ty _, .base (.int _), kit_ty (by decide +kernel), false, rfl, q⟩
theorem ok__law_is_ints (T : Txt K mg) (D__law_is_int : Kept P w K mg base 1 "_law_is_int" ["thing"] spIsInt) {f : Addr} {fd : FuncData} (F : FnP K "_law_is_ints" s__law_is_ints f fd) : FnOk P w K mg base CX0 2 f fd ["row"] (spIsInts K) := by
  refine F.ok sc__law_is_ints (fun vs H Q E h => ?_) (fun cdv A outer s H vs Q E hr h => ?_)
  · obtain ⟨p, ns, rfl, _⟩ := h
    rfl
  · obtain ⟨p, ns, rfl, hp, hl, q⟩ := h
    refine ⟨_, PSs.nox (pss_one (ps_ret (pe_and (pe_callB call_isi (by rfl) T.b_isinstance (by decide +kernel) (pa_cons (pv 0) (pa_cons (pe_bltn (v := .ty "tuple") (u := .type "tuple") (by rfl) T.b_tuple (by decide +kernel) rfl) pa_nil))) (pe_one (pe_callB (cr_all rfl) (by rfl) T.b_all (by decide +kernel) (pa_cons (pe_lc (own := [("part", 1)]) (g := (gName 1)) (tt := tYes) rfl sc__law_is_ints.nd (pi_tup (pv 0)) (blkOk_by (N := N__law_is_ints) (sc := defScope s__law_is_ints) (by decide +kernel)) (fun _ _ _ _ _ => (pg_name (i := 1) sc__law_is_ints.nd rfl (Or.inl rfl))) (fun _ _ _ _ _ => pts_nil) (fun _ _ _ _ _ => (pe_d D__law_is_int (hr.mono (by decide)) (by rfl) (pa_cons (pv 1) pa_nil)))) pa_nil)))))), ?_⟩
    refine ⟨_, rfl, _, .ty "tuple", .type "tuple", .type "tuple", true, rfl, .ty _, .base (.tup hp), kit_ty (by decide +kernel), true, rfl, ?_⟩
    refine ⟨_, rfl, p, rfl, ⟨_, SqT.of hp⟩, fun L hL => lc_tup (K := K) (a := p) (xs := ns.map V.int) (fun i H' => H' = upd H L (.lst ((ns.take i).map fun _ => .bl true))) rfl (fun i H' _ e => ?_) ?_ ?_⟩
    · subst e
      exact same_t (same_new hL) (SqT.of hp)
    · rintro i x H1 hi rfl
      obtain ⟨z, rfl, hz⟩ := getV hi
      refine ⟨rfl, _, rfl, z, rfl, _, upd_same, ?_, ?_⟩
      · rw [List.length_map, List.length_take]
        exact Nat.lt_of_le_of_lt (Nat.min_le_right _ _) (small1000 (by omega))
      · rw [upd_upd, take_map_succ (f := fun _ => V.bl true) hz]
    · rintro H' rfl
      rw [List.take_of_length_le (by rw [List.length_map]; exact Nat.le_refl _)]
      refine ⟨L, ns.map fun _ => true, rfl, SqL.of (by rw [upd_same, List.map_map]; rfl), ?_⟩
      rw [all_true]
      exact q _ (same_new hL)
theorem ok__law_is_frac (T : Txt K mg) (D__law_is_ints : Kept P w K mg base 2 "_law_is_ints" ["row"] (spIsInts K)) (D__law_frac : Kept P w K mg base 1 "_law_frac" ["n", "d"] spFrac) {f : Addr} {fd : FuncData} (F : FnP K "_law_is_frac" s__law_is_frac f fd) : FnOk P w K mg base CX0 3 f fd ["thing"] (spIsFrac K) := by
  refine F.ok sc__law_is_frac (fun vs H Q E h => ?_) (fun cdv A outer s H vs Q E hr h => ?_)
  · obtain ⟨p, x, rfl, _⟩ := h
    rfl
  · obtain ⟨p, x, rfl, hp, hx, hz, q⟩ := h
    refine ⟨_, PSs.nox (pss_cons (ps_if (PW.pt (pw_or (pt_not (pt_val (pe_callB call_isi (by rfl) T.b_isinstance (by decide +kernel) (pa_cons (pv 0) (pa_cons (pe_bltn (v := .ty "tuple") (u := .type "tuple") (by rfl) T.b_tuple (by decide +kernel) rfl) pa_nil))))) (pw_or (pt_cmpR op_ne (pe_callB call_len (by rfl) T.b_len (by decide +kernel) (pa_cons (pv 0) pa_nil)) pe_int (nomark _)) (pw_or1 (pt_not (pt_val (pe_d D__law_is_ints (hr.mono (by decide)) (by rfl) (pa_cons (pv 0) pa_nil)))))))) (pss_one (ps_ret pe_bl)) pss_nil)
      (pss_one (ps_ret (pe_and (pe_cmpR op_ge (pe_ix ix_tup (pv 0) pe_int (fun _ _ => rfl)) pe_int (nomark _)) (pe_one (pe_cmpR (op_eqD (hr.units)) (pe_d D__law_frac (hr.mono (by decide)) (by rfl) (pa_cons (pe_ix ix_tup (pv 0) pe_int (fun _ _ => rfl)) (pa_cons (pe_ix ix_tup (pv 0) pe_int (fun _ _ => rfl)) pa_nil))) (pv 0) (nomark _))))))), ?_⟩
    refine ⟨_, rfl, _, .ty "tuple", .type "tuple", .type "tuple", true, rfl, .ty _, .base (.tup hp), kit_ty (by decide +kernel), true, rfl, ?_⟩
    refine ⟨_, rfl, _, _, rfl, .inr ⟨_, SqT.of hp, rfl⟩, rfl, _, rfl, ?_⟩
    refine iteNS rfl ?_
    refine ⟨_, rfl, p, [x.1, x.2], rfl, hp, (by show 2 ≤ 100; decide), fun H1 s1 => ⟨true, rfl, ?_⟩⟩
    have hp1 := s1 _ _ hp
    refine ⟨_, rfl, p, _, _, _, rfl, rfl, SqT.of hp1, atI_nat (j := 1) rfl, _, _, rfl, rfl, _, rfl, ?_⟩
    refine ite2 (fun _ => ?_) (fun n => absurd (decide_eq_true hx.pos) n)
    refine ⟨_, rfl, p, _, _, _, rfl, rfl, SqT.of hp1, atI_nat (j := 0) rfl, _, rfl, p, _, _, _, rfl, rfl, SqT.of hp1, atI_nat (j := 1) rfl, x.1, x.2, rfl, ?_, hz, fun r hr => ?_⟩
    · have := hx.pos
      omega
    · rw [low_fr hx]
      refine ⟨_, rfl, dF x, dF x, dp_F (SqT.of upd_same), dp_F (SqT.of (same_new hr _ _ hp1)), dF_sh x, dF_sh x, ?_⟩
      rw [dF_eqv]
      exact q _ (s1.trans (same_new hr))
end
end Mt

namespace Mt
open PySem PySem.Spec PyProof.Rows L2
/-! ### fractions over one denominator -/
structure Fr (f : F2) (N : Int) (M : Nat) : Prop where
  low : Low f
  eq : f.1 * (M : Int) = N * f.2
  pos : 0 < M
theorem Fr.of {x : Int × Int} {N : Int} {M : Nat} (h : x.2 ≠ 0) (e : x.1 * (M : Int) = N * x.2) (hM : 0 < M) : Fr (frp x) N M := by
  have h1 := frv (n := x.1) h
  have l := low_frp h
  refine ⟨l, ?_, hM⟩
  have h2 : ((frp x).1 * (M : Int)) * x.2 = (N * (frp x).2) * x.2 := by
    have h3 : (frp x).1 * x.2 = x.1 * (frp x).2 := h1
    grind
  exact Int.eq_of_mul_eq_mul_right h h2
theorem Fr.add {a b : F2} {N1 N2 : Int} {M : Nat} (ha : Fr a N1 M) (hb : Fr b N2 M) : Fr (frp (add2 a b)) (N1 + N2) M := by
  refine Fr.of (add2_ne ha.low hb.low) ?_ ha.pos
  have h1 := ha.eq
  have h2 := hb.eq
  show (a.1 * b.2 + b.1 * a.2) * (M : Int) = (N1 + N2) * (a.2 * b.2)
  grind
theorem mul2_ne {a b : F2} (ha : Low a) (hb : Low b) : (mul2 a b).2 ≠ 0 := add2_ne ha hb
theorem Fr.mul {a b : F2} {N1 N2 : Int} {M1 M2 : Nat} (ha : Fr a N1 M1) (hb : Fr b N2 M2) : Fr (frp (mul2 a b)) (N1 * N2) (M1 * M2) := by
  refine Fr.of (mul2_ne ha.low hb.low) ?_ (Nat.mul_pos ha.pos hb.pos)
  have h1 := ha.eq
  have h2 := hb.eq
  show (a.1 * b.1) * ((M1 * M2 : Nat) : Int) = (N1 * N2) * (a.2 * b.2)
  rw [Int.natCast_mul]
  grind
theorem Fr.zero {M : Nat} (h : 0 < M) : Fr (0, 1) 0 M := ⟨low0, by simp, h⟩
theorem low1 : Low (1, 1) := ⟨by decide, by decide⟩
theorem Fr.one : Fr (1, 1) 1 1 := ⟨low1, rfl, Nat.one_pos⟩
theorem Fr.uniq {a b : F2} {N : Int} {M : Nat} (ha : Fr a N M) (hb : Fr b N M) : a = b := by
  refine low_uniq ha.low hb.low ?_
  have h1 := ha.eq
  have h2 := hb.eq
  have hM : (M : Int) ≠ 0 := by
    have := ha.pos
    omega
  refine Int.eq_of_mul_eq_mul_right hM ?_
  grind
theorem Fr.sz {a : F2} {N : Int} {M k : Nat} (h : Fr a N M) (hN : N.natAbs < 2 ^ k) (hM : M < 2 ^ k) : Sz k a := by
  have e : a.1.natAbs * M = N.natAbs * a.2.natAbs := by
    have := congrArg Int.natAbs h.eq
    rw [Int.natAbs_mul, Int.natAbs_mul, Int.natAbs_natCast] at this
    exact this
  have p := h.low.pos
  have h0 := h.pos
  have h1 : a.2.natAbs ∣ M := Nat.Coprime.dvd_of_dvd_mul_left (Nat.Coprime.symm h.low.co) ⟨N.natAbs, by rw [e, Nat.mul_comm]⟩
  have h2 := Nat.le_of_dvd h0 h1
  refine ⟨?_, by omega⟩
  have h3 : a.1.natAbs * M ≤ N.natAbs * M := by
    rw [e]
    exact Nat.mul_le_mul_left _ h2
  have h4 := Nat.le_of_mul_le_mul_right h3 h0
  omega
/-! ### webs -/
/-- what is shown, where to, the share, the share times LC -/
abbrev Arc : Type := List Str × Nat × F2 × Int
abbrev LC : Nat := 27720
def dSh (ss : List Str) : PyData := .tuple (ss.map .str)
def dArc (a : Arc) : PyData := .tuple [dSh a.1, .int a.2.1, dF a.2.2.1]
def dRow (r : List Arc) : PyData := .tuple (r.map dArc)
abbrev Wb : Type := List (List Arc)
def dWeb (W : Wb) : PyData := .tuple [.str "web", .tuple (W.map dRow)]
def ShOk (ss : List Str) : Prop := ∀ s ∈ ss, PyData.strOk s = true
structure ArcOk (n : Nat) (a : Arc) : Prop where
  sh : ShOk a.1
  sl : a.1.length ≤ 2
  to : a.2.1 < n
  fr : Fr a.2.2.1 a.2.2.2 LC
  lo : 0 ≤ a.2.2.2
  hi : a.2.2.2 ≤ LC
structure WebOk (W : Wb) : Prop where
  pos : 0 < W.length
  few : W.length ≤ 60
  row : ∀ r ∈ W, 0 < r.length ∧ r.length ≤ 3 ∧ ∀ a ∈ r, ArcOk W.length a
theorem dSh_noL (ss : List Str) : noL (dSh ss) = true := noLs_map _ _ fun _ _ => rfl
theorem dArc_noL (a : Arc) : noL (dArc a) = true := by
  show (noL (dSh a.1) && (true && (true && true))) = true
  rw [dSh_noL]
  rfl
theorem dRow_noL (r : List Arc) : noL (dRow r) = true := noLs_map _ _ fun a _ => dArc_noL a
theorem dWeb_noL (W : Wb) : noL (dWeb W) = true := by
  show (true && (noLs (W.map dRow) && true)) = true
  rw [noLs_map _ _ fun r _ => dRow_noL r]
  rfl
section
variable {K : PySem.W.Frag} {H H' : Hp} {v : V}
theorem dp_strs : ∀ {ss : List Str} {xs : List V}, DpAll K H xs (ss.map .str) → xs = ss.map V.str
  | [], _, h => dpA_nil h
  | s :: r, _, h => by
    obtain ⟨x, t, rfl, h1, h2⟩ := dpA_cons h
    rw [dp_str h1, dp_strs h2]
    rfl
theorem strs_dp : ∀ ss : List Str, DpAll K H (ss.map V.str) (ss.map .str)
  | [] => .nil
  | s :: r => .cons (.str s) (strs_dp r)
theorem sh_of {p : Addr} {ss : List Str} (h : SqT K H p (ss.map V.str)) : Dp K H (.ref p) (dSh ss) := .tup h (strs_dp ss)
theorem sh_at {ss : List Str} (h : Dp K H v (dSh ss)) : ∃ p, v = .ref p ∧ SqT K H p (ss.map V.str) := by
  obtain ⟨p, xs, rfl, h1, h2⟩ := dp_tup h
  rw [dp_strs h2] at h1
  exact ⟨p, rfl, h1⟩
theorem f_at {x : F2} (h : Dp K H v (dF x)) : ∃ p, v = .ref p ∧ SqT K H p (tupV x) := by
  obtain ⟨p, xs, rfl, h1, hA⟩ := dp_tup h
  obtain ⟨x0, r0, rfl, h0, hA⟩ := dpA_cons hA
  obtain ⟨x1, r1, rfl, h2, hA⟩ := dpA_cons hA
  cases dpA_nil hA
  rw [dp_int h0, dp_int h2] at h1
  exact ⟨p, rfl, h1⟩
theorem arc_at {a : Arc} (h : Dp K H v (dArc a)) : ∃ p x0 x2, v = .ref p ∧ SqT K H p [x0, .int a.2.1, x2] ∧ Dp K H x0 (dSh a.1) ∧ Dp K H x2 (dF a.2.2.1) := by
  obtain ⟨p, xs, rfl, h1, hA⟩ := dp_tup h
  obtain ⟨x0, r0, rfl, h0, hA⟩ := dpA_cons hA
  obtain ⟨x1, r1, rfl, h2, hA⟩ := dpA_cons hA
  obtain ⟨x2, r2, rfl, h3, hA⟩ := dpA_cons hA
  cases dpA_nil hA
  rw [dp_int h2] at h1
  exact ⟨p, x0, x2, rfl, h1, h0, h3⟩
theorem web_at {W : Wb} (h : Dp K H v (dWeb W)) : ∃ p q xs, v = .ref p ∧ SqT K H p [.str "web", .ref q] ∧ SqT K H q xs ∧ DpAll K H xs (W.map dRow) := by
  obtain ⟨p, xs, rfl, h1, hA⟩ := dp_tup h
  obtain ⟨x0, r0, rfl, h0, hA⟩ := dpA_cons hA
  obtain ⟨x1, r1, rfl, h2, hA⟩ := dpA_cons hA
  cases dpA_nil hA
  rw [dp_str h0] at h1
  obtain ⟨q, ys, rfl, h3, h4⟩ := dp_tup h2
  exact ⟨p, q, ys, rfl, h1, h3, h4⟩
/-- the item at a place of a row of data -/
theorem dpA_get {α : Type} {f : α → PyData} {l : List α} {xs : List V} {i : Nat} {a : α} (h : DpAll K H xs (l.map f)) (e : l[i]? = some a) : ∃ x, xs[i]? = some x ∧ Dp K H x (f a) := by
  have hl := dpA_len h
  rw [List.length_map] at hl
  have hi : i < l.length := (List.getElem?_eq_some_iff.mp e).1
  obtain ⟨x, hx⟩ : ∃ x, xs[i]? = some x := ⟨xs[i]'(by omega), List.getElem?_eq_getElem _⟩
  obtain ⟨d, h1, h2⟩ := dpA_at h hx
  rw [List.getElem?_map, e] at h1
  obtain rfl : f a = d := Option.some.inj h1
  exact ⟨x, hx, h2⟩
theorem dpA_mem {α : Type} {f : α → PyData} {l : List α} {xs : List V} {i : Nat} {x : V} (h : DpAll K H xs (l.map f)) (e : xs[i]? = some x) : ∃ a, l[i]? = some a ∧ Dp K H x (f a) := by
  obtain ⟨d, h1, h2⟩ := dpA_at h e
  obtain ⟨a, h3, rfl⟩ := map_at h1
  exact ⟨a, h3, h2⟩
end
/-! ### equality of what is shown -/
theorem dSh_lay : ∀ ss : List Str, ShOk ss → PyData.canLayAll0 (ss.map PyData.str) = true
  | [], _ => rfl
  | s :: r, h => by
    show (PyData.canLay0 (.str s) && PyData.canLayAll0 (r.map PyData.str)) = true
    rw [dSh_lay r fun x hx => h x (List.mem_cons_of_mem _ hx), Bool.and_true]
    show PyData.strOk s = true
    exact h s List.mem_cons_self
theorem dSh_dep : ∀ ss : List Str, PyData.depthAll (ss.map PyData.str) = 0
  | [] => rfl
  | s :: r => by
    show max (PyData.depth (.str s)) (PyData.depthAll (r.map PyData.str)) = 0
    rw [dSh_dep r]
    rfl
theorem dSh_sh {ss : List Str} (h : ShOk ss) : SeqAt.shaped (dSh ss) = true := by
  unfold SeqAt.shaped
  rw [Bool.and_eq_true]
  refine ⟨dSh_lay ss h, decide_eq_true ?_⟩
  show PyData.depthAll (ss.map PyData.str) + 1 ≤ 64
  rw [dSh_dep]
  decide
theorem eqv_strs : ∀ a b : List Str, PyData.eqvAll (a.map PyData.str) (b.map PyData.str) = decide (a = b)
  | [], [] => rfl
  | [], _ :: _ => rfl
  | _ :: _, [] => rfl
  | x :: a, y :: b => by
    show (PyData.eqv (.str x) (.str y) && PyData.eqvAll (a.map PyData.str) (b.map PyData.str)) = decide (x :: a = y :: b)
    rw [eqv_strs a b]
    show (decide (x = y) && decide (a = b)) = _
    by_cases h1 : x = y <;> by_cases h2 : a = b <;> simp [h1, h2]
theorem eqv_sh (a b : List Str) : PyData.eqv (dSh a) (dSh b) = decide (a = b) := eqv_strs a b
end Mt
namespace Mt
open PySem PySem.Spec PyProof.Rows L2
theorem ixL {X : Cx} {K : PySem.W.Frag} (h : X.K = K) : IxR X (rIxL K) := h ▸ ix_list
theorem tupOfT {X : Cx} {K : PySem.W.Frag} (h : X.K = K) : CallR X (.type "tuple") (fun xs H Q => ∃ p ys, xs = [.ref p] ∧ ((SqL K H p ys ∧ ∀ l, H l = none → Q (.ref l) (upd H l (.tup ys))) ∨ (SqT K H p ys ∧ Q (.ref p) H))) := h ▸ call_tuple_of
theorem goU {S D L : Addr} {H0 H : Hp} {o : HO} (L0 : H0 L = none) (d0 : DrawAt S D H0) (g : Go S D H0 H) : Go S D H0 (upd H L o) := by
  obtain ⟨LD, LS⟩ := d0.free L0
  obtain ⟨cs, hc⟩ := g.1.cells
  obtain ⟨j, r, c, j0, hD⟩ := g.1.at_
  refine ⟨⟨g.1.ne, ⟨cs, ?_⟩, ⟨j, r, c, j0, ?_⟩⟩, fun b o h n => ?_⟩
  · rw [upd_ne LS.symm]
    exact hc
  · rw [upd_ne LD.symm]
    exact hD
  · rw [upd_ne (ne_of_none h L0)]
    exact g.2 b o h n
/-- fractions as they stand, over one denominator -/
def Frs (H : Hp) (xs : List V) (ns : List Int) (M : Nat) : Prop := Paired (fun (x : V) (n : Int) => ∃ p f, x = V.ref p ∧ H p = some (tupF f) ∧ Fr f n M) xs ns
theorem paired_imp {α β : Type} {R R' : α → β → Prop} (h : ∀ a b, R a b → R' a b) {xs : List α} {ys : List β} (p : Paired R xs ys) : Paired R' xs ys := by
  induction p with
  | nil => exact .nil
  | cons e t ih => exact .cons (h _ _ e) ih
theorem Frs.same {H H' : Hp} {xs : List V} {ns : List Int} {M : Nat} (h : Frs H xs ns M) (s : Same H H') : Frs H' xs ns M :=
  paired_imp (fun _ _ ⟨p, f, e, h1, h2⟩ => ⟨p, f, e, s _ _ h1, h2⟩) h
theorem sum_nn : ∀ {ns : List Int}, (∀ n ∈ ns, 0 ≤ n) → 0 ≤ ns.sum
  | [], _ => Int.le_refl _
  | n :: r, h => by
    rw [List.sum_cons]
    have := sum_nn (ns := r) fun x hx => h x (List.mem_cons_of_mem _ hx)
    have := h n List.mem_cons_self
    omega
theorem sum_take {ns : List Int} (h : ∀ n ∈ ns, 0 ≤ n) (i : Nat) : 0 ≤ (ns.take i).sum ∧ (ns.take i).sum ≤ ns.sum := by
  have e : ns.sum = (ns.take i).sum + (ns.drop i).sum := by
    rw [← List.sum_append, List.take_append_drop]
  have h1 := sum_nn (ns := ns.take i) fun x hx => h x (List.mem_of_mem_take hx)
  have h2 := sum_nn (ns := ns.drop i) fun x hx => h x (List.mem_of_mem_drop hx)
  omega
theorem sum_snoc (l : List Int) (n : Int) : (l ++ [n]).sum = l.sum + n := by
  rw [List.sum_append]
  simp
def spTot (K : PySem.W.Frag) : Sp := fun vs H Q _ => ∃ (p : Addr) (xs : List V) (ns : List Int) (M : Nat), vs = [.ref p] ∧ SqL K H p xs ∧ Frs H xs ns M ∧ (∀ n ∈ ns, 0 ≤ n) ∧ ns.sum.natAbs < 2 ^ 1800 ∧ M < 2 ^ 1800 ∧ 0 < M ∧
  ∀ H' q f, Same H H' → H' q = some (tupF f) → Fr f ns.sum M → Q (.ref q) H'
def spShown (K : PySem.W.Frag) : Sp := fun vs H Q _ => ∃ (S D m : Addr) (ms : List Str), vs = [.ref D, .ref m] ∧ DrawAt S D H ∧ m ≠ D ∧ H m = some (.lst (ms.map V.str)) ∧ 0 < ms.length ∧ ms.length ≤ 100 ∧
  ∀ (H' : Hp) (p : Addr) (ss : List Str), Go S D H H' → H p = none → H' p = some (.tup (ss.map V.str)) → (∀ s ∈ ss, s ∈ ms) → ss.length ≤ 2 → Q (.ref p) H'
section
variable {P : Program} {w : World} {K : PySem.W.Frag} {mg : Str → Option Value} {base : Heap}
theorem ok_total_of (T : Txt K mg) (D_sum_of : Kept P w K mg base 2 "sum_of" ["a", "b"] (spBin K add2)) {f : Addr} {fd : FuncData} (F : FnP K "total_of" s_total_of f fd) : FnOk P w K mg base CX0 3 f fd ["fractions"] (spTot K) := by
  refine F.ok sc_total_of (fun vs H Q E h => ?_) (fun cdv A outer s H vs Q E hr h => ?_)
  · obtain ⟨p, xs, ns, M, rfl, _⟩ := h
    rfl
  · obtain ⟨p, xs, ns, M, rfl, hS, hF, hn, hN, hM, hM0, q⟩ := h
    refine ⟨_, PSs.nox (pss_cons (ps_set (i := 1) sc_total_of.nd rfl (Or.inl rfl) (pe_tup (pa_cons pe_int (pa_cons pe_int pa_nil))))
      (pss_cons (ps_for PassesOwn.never rfl (pi_list (pv 0)) (pg_name (i := 2) sc_total_of.nd rfl (Or.inl rfl)) (pss_one (ps_set (i := 1) sc_total_of.nd rfl (Or.inl rfl) (pe_d D_sum_of (hr.mono (by decide)) (by rfl) (pa_cons (pv 1) (pa_cons (pv 2) pa_nil))))))
      (pss_one (ps_ret (pv 1))))), ?_⟩
    refine ⟨by show 2 ≤ sizeLine; decide, fun p0 hp0 => ?_⟩
    have s0 : Same H (upd H p0 (tupF (0, 1))) := same_new hp0
    have hxl : xs.length = ns.length := Paired.length hF
    refine ⟨_, rfl, p, rfl, ⟨_, same_l s0 hS⟩, for_list (K := K) (a := p) (xs := xs) (fun i σ H1 => ∃ (t : Addr) (f : F2) (y : Option V), σ = [some (.ref p), some (.ref t), y] ∧ Same H H1 ∧ H1 t = some (tupF f) ∧ Fr f (ns.take i).sum M) ⟨p0, _, none, rfl, s0, upd_same, Fr.zero hM0⟩ (fun i σ H1 _ ⟨_, _, _, _, s1, _⟩ => same_l s1 hS) ?_ ?_⟩
    · rintro i x σ H1 hi ⟨t, f, y, rfl, s1, ht, hf⟩
      obtain ⟨n0, hn0, pf, f0, rfl, hpf, hf0⟩ := Paired.at hF hi
      have hm := List.mem_of_getElem? hn0
      have e6 : ns.take (i + 1) = ns.take i ++ [n0] := by
        rw [List.take_add_one, hn0]
        rfl
      have b1 := sum_take hn i
      have b2 := sum_take hn (i + 1)
      have b3 := hn n0 hm
      rw [e6, sum_snoc] at b2
      refine ⟨_, rfl, _, rfl, t, pf, f, f0, rfl, SqT.of ht, SqT.of (s1 _ _ hpf), sz_up (hf.sz (k := 1800) (by omega) hM) (by decide), sz_up (hf0.sz (k := 1800) (by omega) hM) (by decide), add2_ne hf.low hf0.low, fun r hr => ?_⟩
      refine ⟨r, _, _, rfl, s1.trans (same_new hr), upd_same, ?_⟩
      rw [e6, sum_snoc]
      exact hf.add hf0
    · rintro σ H1 ⟨t, f, y, rfl, s1, ht, hf⟩
      rw [List.take_of_length_le (by omega)] at hf
      exact ⟨_, rfl, q H1 t f s1 ht hf⟩
theorem ok__law_sum (T : Txt K mg) (D__law_plus : Kept P w K mg base 2 "_law_plus" ["a", "b"] (spBin K add2)) {f : Addr} {fd : FuncData} (F : FnP K "_law_sum" s__law_sum f fd) : FnOk P w K mg base CX0 3 f fd ["row"] (spTot K) := by
  refine F.ok sc__law_sum (fun vs H Q E h => ?_) (fun cdv A outer s H vs Q E hr h => ?_)
  · obtain ⟨p, xs, ns, M, rfl, _⟩ := h
    rfl
  · obtain ⟨p, xs, ns, M, rfl, hS, hF, hn, hN, hM, hM0, q⟩ := h
    refine ⟨_, PSs.nox (pss_cons (ps_set (i := 1) sc__law_sum.nd rfl (Or.inl rfl) (pe_tup (pa_cons pe_int (pa_cons pe_int pa_nil))))
      (pss_cons (ps_for PassesOwn.never rfl (pi_list (pv 0)) (pg_name (i := 2) sc__law_sum.nd rfl (Or.inl rfl)) (pss_one (ps_set (i := 1) sc__law_sum.nd rfl (Or.inl rfl) (pe_d D__law_plus (hr.mono (by decide)) (by rfl) (pa_cons (pv 1) (pa_cons (pv 2) pa_nil))))))
      (pss_one (ps_ret (pv 1))))), ?_⟩
    refine ⟨by show 2 ≤ sizeLine; decide, fun p0 hp0 => ?_⟩
    have s0 : Same H (upd H p0 (tupF (0, 1))) := same_new hp0
    have hxl : xs.length = ns.length := Paired.length hF
    refine ⟨_, rfl, p, rfl, ⟨_, same_l s0 hS⟩, for_list (K := K) (a := p) (xs := xs) (fun i σ H1 => ∃ (t : Addr) (f : F2) (y : Option V), σ = [some (.ref p), some (.ref t), y] ∧ Same H H1 ∧ H1 t = some (tupF f) ∧ Fr f (ns.take i).sum M) ⟨p0, _, none, rfl, s0, upd_same, Fr.zero hM0⟩ (fun i σ H1 _ ⟨_, _, _, _, s1, _⟩ => same_l s1 hS) ?_ ?_⟩
    · rintro i x σ H1 hi ⟨t, f, y, rfl, s1, ht, hf⟩
      obtain ⟨n0, hn0, pf, f0, rfl, hpf, hf0⟩ := Paired.at hF hi
      have hm := List.mem_of_getElem? hn0
      have e6 : ns.take (i + 1) = ns.take i ++ [n0] := by
        rw [List.take_add_one, hn0]
        rfl
      have b1 := sum_take hn i
      have b2 := sum_take hn (i + 1)
      have b3 := hn n0 hm
      rw [e6, sum_snoc] at b2
      refine ⟨_, rfl, _, rfl, t, pf, f, f0, rfl, SqT.of ht, SqT.of (s1 _ _ hpf), sz_up (hf.sz (k := 1800) (by omega) hM) (by decide), sz_up (hf0.sz (k := 1800) (by omega) hM) (by decide), add2_ne hf.low hf0.low, fun r hr => ?_⟩
      refine ⟨r, _, _, rfl, s1.trans (same_new hr), upd_same, ?_⟩
      rw [e6, sum_snoc]
      exact hf.add hf0
    · rintro σ H1 ⟨t, f, y, rfl, s1, ht, hf⟩
      rw [List.take_of_length_le (by omega)] at hf
      exact ⟨_, rfl, q H1 t f s1 ht hf⟩
theorem ok__law_drawn_shown (T : Txt K mg) (D__law_pick : Kept P w K mg base 2 "_law_pick" ["d", "row"] (spPick K)) {f : Addr} {fd : FuncData} (F : FnP K "_law_drawn_shown" s__law_drawn_shown f fd) : FnOk P w K mg base CX0 3 f fd ["d", "marks"] (spShown K) := by
  refine F.ok sc__law_drawn_shown (fun vs H Q E h => ?_) (fun cdv A outer s H vs Q E hr h => ?_)
  · obtain ⟨S, D, m, ms, rfl, _⟩ := h
    rfl
  · obtain ⟨S, D, m, ms, rfl, d, nD, hm, h0, h1, q⟩ := h
    refine ⟨_, PSs.nox (pss_one (ps_ret (pe_callTy (tupOfT (K := K) rfl) (by rfl) T.b_tuple (by decide +kernel) (pa_cons (pe_lc (own := [("k", 2)]) (g := (gName 2)) (tt := tYes) rfl sc__law_drawn_shown.nd (pi_range1 (by rfl) T.b_range (pa_cons (pe_d D__law_pick (hr.mono (by decide)) (by rfl) (pa_cons (pv 0) (pa_cons (pe_lst (pa_cons pe_int (pa_cons pe_int (pa_cons pe_int (pa_cons pe_int (pa_cons pe_int pa_nil)))))) pa_nil))) pa_nil)) (blkOk_by (N := N__law_drawn_shown) (sc := defScope s__law_drawn_shown) (by decide +kernel)) (fun _ _ _ _ _ => (pg_name (i := 2) sc__law_drawn_shown.nd rfl (Or.inl rfl))) (fun _ _ _ _ _ => pts_nil) (fun _ _ _ _ _ => (pe_d D__law_pick (hr.mono (by decide)) (by rfl) (pa_cons (pv 0) (pa_cons (pv 1) pa_nil))))) pa_nil)))), ?_⟩
    refine ⟨_, rfl, by show 5 ≤ sizeLine; decide, fun L hL => ?_⟩
    have d1 := d.new (o := .lst [V.int 0, .int 1, .int 1, .int 1, .int 2]) hL
    have LD := (d.free hL).1
    have g1 : Go S D H (upd H L (.lst [V.int 0, .int 1, .int 1, .int 1, .int 2])) := Go.new d hL
    refine ⟨S, D, .ref L, [V.int 0, .int 1, .int 1, .int 1, .int 2], rfl, d1, fun H' g => .inr (.inl ⟨L, rfl, SqL.of (g.2 _ _ upd_same LD)⟩), by decide, by decide, fun H2 x hx g2 => ?_⟩
    obtain ⟨n, rfl, hn⟩ : ∃ n : Nat, x = .int (n : Int) ∧ n ≤ 2 := by
      simp only [List.mem_cons, List.not_mem_nil, or_false] at hx
      rcases hx with e | e | e | e | e
      · exact ⟨0, e, by decide⟩
      · exact ⟨1, e, by decide⟩
      · exact ⟨1, e, by decide⟩
      · exact ⟨1, e, by decide⟩
      · exact ⟨2, e, by decide⟩
    have g3 := g1.trans g2
    refine ⟨_, rfl, by omega, by omega, fun Lc hLc => lc_range (lo := 0) (n := n) (fun j H' => ∃ ss : List Str, Go S D H2 H' ∧ H' Lc = some (.lst (ss.map V.str)) ∧ ss.length = j ∧ ∀ s ∈ ss, s ∈ ms) ⟨[], Go.new g3.1 hLc, upd_same, rfl, fun _ h => absurd h List.not_mem_nil⟩ ?_ ?_⟩
    · rintro j H4 hj ⟨ss, g4, hL4, hl, hs⟩
      have LcD := (g3.1.free hLc).1
      refine ⟨rfl, _, rfl, _, rfl, S, D, .ref m, ms.map V.str, rfl, g4.1, fun H' g' => .inr (.inl ⟨m, rfl, SqL.of (((g3.trans g4).trans g').2 _ _ hm nD)⟩), by rw [List.length_map]; exact h0, by rw [List.length_map]; omega, fun H5 x hx g5 => ?_⟩
      obtain ⟨z, hz, rfl⟩ := List.mem_map.mp hx
      refine ⟨_, g5.2 _ _ hL4 LcD, by rw [List.length_map]; exact line6 (by omega), ss ++ [z], goU hLc g3.1 (g4.trans g5), by rw [upd_same, List.map_append]; rfl, by rw [List.length_append, List.length_singleton, hl], fun s h => ?_⟩
      rcases List.mem_append.mp h with h | h
      · exact hs s h
      · rw [List.mem_singleton.mp h]
        exact hz
    · rintro H4 ⟨ss, g4, hL4, hl, hs⟩
      refine ⟨Lc, _, rfl, .inl ⟨SqL.of hL4, fun p hp => ?_⟩⟩
      have g5 := g3.trans g4
      exact q _ p ss (g5.trans (Go.new g5.1 hp)) (g5.free d hp) upd_same hs (by omega)
end
end Mt
namespace Mt
open PySem PySem.Spec PyProof.Rows L2
def spDWeb (K : PySem.W.Frag) : Sp := fun vs H Q _ => ∃ (S D m : Addr) (n : Int) (ms : List Str), vs = [.ref D, .int n, .ref m] ∧ DrawAt S D H ∧ m ≠ D ∧ H m = some (.lst (ms.map V.str)) ∧ 0 < ms.length ∧ ms.length ≤ 100 ∧ ShOk ms ∧ 1 ≤ n ∧ n ≤ 60 ∧
  ∀ (H' : Hp) (v : V) (W : Wb), Go S D H H' → Dp K H' v (dWeb W) → WebOk W → W.length = n.toNat → Q v H'
/-- the entries that are drawn -/
structure EntOk (n : Int) (ms : List Str) (e : ND.En) : Prop where
  val : ∃ c : Int, e.2.2 = .int c ∧ 1 ≤ c ∧ c ≤ 4
  lo : 0 ≤ e.1.2
  hi : e.1.2 < n
  sh : ∀ s ∈ e.1.1, s ∈ ms
  sl : e.1.1.length ≤ 2
structure Ents (K : PySem.W.Frag) (H : Hp) (n : Int) (ms : List Str) (xs : List ND.En) : Prop where
  keys : ND.KeysOk K H xs
  nd : (xs.map (·.1)).Nodup
  ok : ∀ e ∈ xs, EntOk n ms e
theorem nkt_keep {K : PySem.W.Frag} {H H' : Hp} {k : ND.KN} {a : Addr} (kk : KeepT H H') (h : ND.NkT K H k a) : ND.NkT K H' k a := by
  obtain ⟨b, h1, h2⟩ := h
  exact ⟨b, sqt_keep kk h1, sqt_keep kk h2⟩
theorem Ents.keep {K : PySem.W.Frag} {H H' : Hp} {n : Int} {ms : List Str} {xs : List ND.En} (h : Ents K H n ms xs) (kk : KeepT H H') : Ents K H' n ms xs := ⟨fun x hx => nkt_keep kk (h.keys x hx), h.nd, h.ok⟩
theorem Ents.put {K : PySem.W.Frag} {H : Hp} {n : Int} {ms : List Str} {xs : List ND.En} {k : ND.KN} {a : Addr} {v : V} (h : Ents K H n ms xs) (hk : ND.NkT K H k a) (he : EntOk n ms (k, a, v)) : Ents K H n ms (ND.putN xs k a v) ∧ 0 < (ND.putN xs k a v).length := by
  have hkeys := ND.keys_put (H' := H) (v := v) h.keys hk
  cases hat : ND.atN xs k with
  | some p =>
    have e : ND.putN xs k a v = xs.map (fun x => if x.1 = k then (x.1, x.2.1, v) else x) := by
      unfold ND.putN
      rw [hat]
      rfl
    have e2 : (xs.map (fun x => if x.1 = k then (x.1, x.2.1, v) else x)).map (·.1) = xs.map (·.1) := by
      rw [List.map_map]
      refine List.map_congr_left fun x _ => ?_
      show (if x.1 = k then (x.1, x.2.1, v) else x).1 = x.1
      split <;> rfl
    rw [e] at hkeys ⊢
    refine ⟨⟨hkeys, by rw [e2]; exact h.nd, fun x hx => ?_⟩, ?_⟩
    · obtain ⟨y, hy, rfl⟩ := List.mem_map.mp hx
      have h1 := h.ok y hy
      by_cases hyk : y.1 = k
      · rw [if_pos hyk]
        exact ⟨he.val, h1.lo, h1.hi, h1.sh, h1.sl⟩
      · rw [if_neg hyk]
        exact h1
    · rw [List.length_map]
      cases xs with
      | nil => cases hat
      | cons x r => exact Nat.succ_pos _
  | none =>
    have e : ND.putN xs k a v = xs ++ [(k, a, v)] := by
      unfold ND.putN
      rw [hat]
      rfl
    rw [e] at hkeys ⊢
    refine ⟨⟨hkeys, ?_, fun x hx => ?_⟩, by rw [List.length_append]; exact Nat.succ_pos _⟩
    · rw [List.map_append]
      refine List.nodup_append.mpr ⟨h.nd, by simp, fun x hx y hy => ?_⟩
      rw [List.mem_singleton.mp hy]
      rintro rfl
      obtain ⟨z, hz, hz2⟩ := List.mem_map.mp hx
      unfold ND.atN at hat
      rw [Option.map_eq_none_iff, List.find?_eq_none] at hat
      exact hat z hz (decide_eq_true hz2)
    · rcases List.mem_append.mp hx with h1 | h1
      · exact h.ok x h1
      · rw [List.mem_singleton.mp h1]
        exact he
theorem at_mem : ∀ {xs : List ND.En} {e : ND.En}, (xs.map (·.1)).Nodup → e ∈ xs → ND.atN xs e.1 = some e.2
  | [], _, _, h => absurd h List.not_mem_nil
  | x :: r, e, hn, h => by
    rw [List.map_cons, List.nodup_cons] at hn
    unfold ND.atN
    rcases List.mem_cons.mp h with rfl | h
    · rw [List.find?_cons, decide_eq_true rfl]
      rfl
    · have ne : ¬ x.1 = e.1 := fun z => hn.1 (by rw [z]; exact List.mem_map.mpr ⟨e, h, rfl⟩)
      rw [List.find?_cons, decide_eq_false ne]
      exact at_mem hn.2 h
theorem nt_nd {P : Program} {w : World} {a : Addr} {xs : List ND.En} : NT (ND.ND P w a xs) := ⟨fun _ e => (nomatch e), fun _ _ e => (nomatch e)⟩
def cOf : V → Int
  | .int c => c
  | _ => 0
def szOf (xs : List ND.En) : Int := (xs.map fun e => cOf e.2.2).sum
def arcOf (z : Int) (e : ND.En) : Arc := (e.1.1, e.1.2.toNat, fr (cOf e.2.2) z, cOf e.2.2 * ((LC : Int) / z))
theorem sz_bd {n : Int} {ms : List Str} : ∀ {xs : List ND.En}, (∀ e ∈ xs, EntOk n ms e) → (xs.length : Int) ≤ szOf xs ∧ szOf xs ≤ 4 * (xs.length : Int) ∧ ∀ e ∈ xs, cOf e.2.2 ≤ szOf xs
  | [], _ => ⟨by simp [szOf], by simp [szOf], fun _ h => absurd h List.not_mem_nil⟩
  | e :: r, h => by
    obtain ⟨h1, h2, h3⟩ := sz_bd (xs := r) fun x hx => h x (List.mem_cons_of_mem _ hx)
    obtain ⟨c, hc, c1, c2⟩ := (h e List.mem_cons_self).val
    have e1 : szOf (e :: r) = cOf e.2.2 + szOf r := List.sum_cons
    have e2 : cOf e.2.2 = c := by rw [hc]; rfl
    rw [List.length_cons, e1, e2]
    refine ⟨by omega, by omega, fun x hx => ?_⟩
    rcases List.mem_cons.mp hx with rfl | hx
    · omega
    · have := h3 x hx
      omega
theorem lc_div {z : Int} (h1 : 1 ≤ z) (h2 : z ≤ 12) : (LC : Int) / z * z = LC := by
  have : z = 1 ∨ z = 2 ∨ z = 3 ∨ z = 4 ∨ z = 5 ∨ z = 6 ∨ z = 7 ∨ z = 8 ∨ z = 9 ∨ z = 10 ∨ z = 11 ∨ z = 12 := by omega
  rcases this with rfl | rfl | rfl | rfl | rfl | rfl | rfl | rfl | rfl | rfl | rfl | rfl <;> decide
theorem arc_ok {n : Int} {ms : List Str} {z : Int} {e : ND.En} (hms : ShOk ms) (h : EntOk n ms e) (h1 : 1 ≤ z) (h2 : z ≤ 12) (hc : cOf e.2.2 ≤ z) : ArcOk n.toNat (arcOf z e) := by
  obtain ⟨c, ec, c1, c2⟩ := h.val
  have e2 : cOf e.2.2 = c := by rw [ec]; rfl
  have hl := h.lo
  have hh := h.hi
  have hd := lc_div h1 h2
  have hp : 0 ≤ (LC : Int) / z := Int.ediv_nonneg (by decide) (by omega)
  rw [e2] at hc
  refine ⟨fun s hs => hms s (h.sh s hs), h.sl, by show e.1.2.toNat < n.toNat; omega, ?_, ?_, ?_⟩
  · show Fr (fr (cOf e.2.2) z) (cOf e.2.2 * ((LC : Int) / z)) LC
    rw [e2]
    refine Fr.of (x := (c, z)) (by show z ≠ 0; omega) ?_ (by decide)
    show c * (LC : Int) = (c * ((LC : Int) / z)) * z
    rw [Int.mul_assoc, hd]
  · show 0 ≤ cOf e.2.2 * ((LC : Int) / z)
    rw [e2]
    exact Int.mul_nonneg (by omega) hp
  · show cOf e.2.2 * ((LC : Int) / z) ≤ LC
    rw [e2]
    calc c * ((LC : Int) / z) ≤ z * ((LC : Int) / z) := Int.mul_le_mul_of_nonneg_right hc hp
      _ = LC := by rw [Int.mul_comm, hd]
section
variable {P : Program} {w : World} {K : PySem.W.Frag} {mg : Str → Option Value} {base : Heap}
theorem ok__law_drawn_web (T : Txt K mg) (D__law_draw : Kept P w K mg base 1 "_law_draw" ["d", "many"] spDraw) (D__law_frac : Kept P w K mg base 1 "_law_frac" ["n", "d"] spFrac) (D__law_drawn_shown : Kept P w K mg base 3 "_law_drawn_shown" ["d", "marks"] (spShown K)) {f : Addr} {fd : FuncData} (F : FnP K "_law_drawn_web" s__law_drawn_web f fd) : FnOk P w K mg base CX0 4 f fd ["d", "states", "marks"] (spDWeb K) := by
  refine F.ok sc__law_drawn_web (fun vs H Q E h => ?_) (fun cdv A outer s H vs Q E hr h => ?_)
  · obtain ⟨S, D, m, n, ms, rfl, _⟩ := h
    rfl
  · obtain ⟨S, D, m, n, ms, rfl, d, nD, hm, h0, h1, hsh, n1, n2, q⟩ := h
    refine ⟨_, PSs.nox (pss_cons (ps_set (i := 3) sc__law_drawn_web.nd rfl (Or.inl rfl) (pe_lst pa_nil))
      (pss_cons (ps_for PassesOwn.never rfl (pi_range1 (by rfl) T.b_range (pa_cons (pv 1) pa_nil)) (pg_name (i := 4) sc__law_drawn_web.nd rfl (Or.inl rfl)) (pss_cons (ps_set (i := 5) sc__law_drawn_web.nd rfl (Or.inr rfl) (ND.pe_nnewK (P := P) (w := w) rfl rfl))
      (pss_cons (ps_for PassesOwn.never rfl (pi_range1 (by rfl) T.b_range (pa_cons (pe_op op_add pe_int (pe_d D__law_draw (hr.mono (by decide)) (by rfl) (pa_cons (pv 0) (pa_cons pe_int pa_nil)))) pa_nil)) (pg_name (i := 6) sc__law_drawn_web.nd rfl (Or.inl rfl)) (pss_one (ND.ps_nputK (P := P) (w := w) (K := K) rfl rfl rfl hr.units (pv 5) (pe_tup (pa_cons (pe_d D__law_drawn_shown (hr.mono (by decide)) (by rfl) (pa_cons (pv 0) (pa_cons (pv 2) pa_nil))) (pa_cons (pe_d D__law_draw (hr.mono (by decide)) (by rfl) (pa_cons (pv 0) (pa_cons (pv 1) pa_nil))) pa_nil))) (pe_op op_add pe_int (pe_d D__law_draw (hr.mono (by decide)) (by rfl) (pa_cons (pv 0) (pa_cons pe_int pa_nil)))) (by rfl))))
      (pss_cons (ps_set (i := 7) sc__law_drawn_web.nd rfl (Or.inr rfl) (pe_callB (cr_sum rfl) (by rfl) T.b_sum (by decide +kernel) (pa_cons (pe_lock (pe_lc (own := [("key", 8)]) (g := (gName 8)) (tt := tYes) rfl sc__law_drawn_web.nd (ND.pi_keysNK (P := P) (w := w) rfl rfl (pv 5)) (blkOk_by (N := N__law_drawn_web) (sc := defScope s__law_drawn_web) (by decide +kernel)) (fun _ _ _ _ _ => (pg_name (i := 8) sc__law_drawn_web.nd rfl (Or.inl rfl))) (fun _ _ _ _ _ => pts_nil) (fun _ _ _ _ _ => (ND.pe_ngetK (P := P) (w := w) (K := K) rfl rfl rfl hr.units (pv 5) (pv 8) (fun _ _ => rfl))))) pa_nil)))
      (pss_one (ps_expr (pe_bm PySem.F.plainAttrs_list PySem.F.slot_list_append PySem.F.type_list_append mt_append (pv 3) (pa_cons (pe_callTy (tupOfT (K := K) rfl) (by rfl) T.b_tuple (by decide +kernel) (pa_cons (pe_lc (own := [("key", 8)]) (g := (gName 8)) (tt := tYes) rfl sc__law_drawn_web.nd (pi_list (pe_callB (ND.cr_sortedNK (P := P) (w := w) (K := K) rfl rfl rfl rfl hr.units) (by rfl) T.b_sorted (by decide +kernel) (pa_cons (pv 5) pa_nil))) (blkOk_by (N := N__law_drawn_web) (sc := defScope s__law_drawn_web) (by decide +kernel)) (fun _ _ _ _ _ => (pg_name (i := 8) sc__law_drawn_web.nd rfl (Or.inl rfl))) (fun _ _ _ _ _ => pts_nil) (fun _ _ _ _ _ => (pe_tup (pa_cons (pe_ix (ixT (K := K) rfl) (pv 8) pe_int (fun _ _ => rfl)) (pa_cons (pe_ix (ixT (K := K) rfl) (pv 8) pe_int (fun _ _ => rfl)) (pa_cons (pe_d D__law_frac (hr.mono (by decide)) (by rfl) (pa_cons (ND.pe_ngetK (P := P) (w := w) (K := K) rfl rfl rfl hr.units (pv 5) (pv 8) (fun _ _ => rfl)) (pa_cons (pv 7) pa_nil))) pa_nil)))))) pa_nil)) pa_nil))))))))
      (pss_one (ps_ret (pe_tup (pa_cons pe_str (pa_cons (pe_callTy (tupOfT (K := K) rfl) (by rfl) T.b_tuple (by decide +kernel) (pa_cons (pv 3) pa_nil)) pa_nil))))))), ?_⟩
    refine ⟨Nat.zero_le _, fun L hL => ?_⟩
    have g1 := Go.new (o := .lst []) d hL
    have LD := (d.free hL).1
    refine ⟨_, rfl, _, rfl, by omega, by omega, for_range (lo := 0) (n := n.toNat) (fun i σ H' => ∃ (W : Wb) (zs : List V) (y4 y5 y6 y7 : Option V), σ = [some (.ref D), some (.int n), some (.ref m), some (.ref L), y4, y5, y6, y7, none] ∧ Go S D H H' ∧ H' L = some (.lst zs) ∧ DpAll K H' zs (W.map dRow) ∧ W.length = i ∧ ∀ r ∈ W, 0 < r.length ∧ r.length ≤ 3 ∧ ∀ a ∈ r, ArcOk n.toNat a) ⟨[], [], _, _, _, _, rfl, g1, upd_same, .nil, rfl, fun _ h => absurd h List.not_mem_nil⟩ ?_ ?_⟩
    · rintro i σ H1 hi ⟨W, zs, y4, y5, y6, y7, rfl, g, hL1, hzs, hW, hWr⟩
      refine fun f hf => ?_
      have fD := (g.1.free hf).1
      have f0 := g.free d hf
      have d2 := g.1.new (o := ND.ND P w f []) hf
      have fL : f ≠ L := (ne_of_none hL1 hf).symm
      have hkf := keepT_new (o := ND.ND P w f []) hf
      refine ⟨_, rfl, S, D, 3, rfl, divW_of (by decide) (by decide), d2, fun H3 kk k0 k1 g3 => ?_⟩
      refine ⟨_, _, rfl, rfl, _, rfl, by omega, by omega, for_range (lo := 0) (n := (1 + kk).toNat) (fun j σ H' => ∃ (z6 z7 : Option V) (xs : List ND.En), σ = [some (.ref D), some (.int n), some (.ref m), some (.ref L), some (.int (0 + (i : Int))), some (.ref f), z6, z7, none] ∧ Go S D H1 H' ∧ H' f = some (ND.ND P w f xs) ∧ Ents K H' n ms xs ∧ xs.length ≤ j ∧ (0 < j → 0 < xs.length)) ⟨_, _, [], rfl, (Go.new g.1 hf).trans g3, g3.2 _ _ upd_same fD, ⟨fun _ h => absurd h List.not_mem_nil, List.nodup_nil, fun _ h => absurd h List.not_mem_nil⟩, Nat.le_refl _, fun h => absurd h (Nat.lt_irrefl _)⟩ ?_ ?_⟩
      · rintro j σ H4 hj ⟨z6, z7, xs, rfl, g4, hf4, he4, hl4, hp4⟩
        refine ⟨_, rfl, S, D, 4, rfl, divW_of (by decide) (by decide), g4.1, fun H5 c c0 c1 g5 => ⟨_, _, rfl, rfl, _, rfl, _, rfl, _, rfl, S, D, m, ms, rfl, g5.1, nD, ((g.trans g4).trans g5).2 _ _ hm nD, h0, h1, fun H6 p ss g6 hp0 hp hss hsl => ?_⟩⟩
        have pD := (g5.1.free hp0).1
        refine ⟨_, rfl, _, rfl, S, D, n, rfl, divW_of (by omega) (by omega), g6.1, fun H7 t t0 t1 g7 => ⟨by show 2 ≤ sizeLine; decide, fun b hb => ?_⟩⟩
        have hp7 := g7.2 _ _ hp pD
        have gg : Go S D H4 (upd H7 b (.tup [.ref p, .int t])) := ((g5.trans g6).trans g7).trans (Go.new g7.1 hb)
        have hk8 : ND.NkT K (upd H7 b (.tup [.ref p, .int t])) (ss, t) b := ⟨p, SqT.of upd_same, SqT.of (by rw [upd_ne (ne_of_none hp7 hb)]; exact hp7)⟩
        have hf8 := gg.2 _ _ hf4 fD
        have he8 := he4.keep (Go.keepT g4.1 gg)
        generalize upd H7 b (.tup [.ref p, .int t]) = H8 at gg hk8 hf8 he8
        obtain ⟨e1, e2⟩ := he8.put hk8 (v := .int (1 + c)) ⟨⟨_, rfl, by omega, by omega⟩, t0, t1, hss, hsl⟩
        refine ⟨f, b, xs, (ss, t), rfl, rfl, hf8, he8.keys, hk8, line6 (by omega), _, _, _, rfl, goU hf g.1 (g4.trans gg), upd_same, e1.keep (keepT_nt nt_nd hf8), ?_, fun _ => e2⟩
        exact Nat.le_trans (ND.len_put xs (ss, t) b (.int (1 + c))) (by omega)
      · rintro σ H4 ⟨z6, z7, xs, rfl, g4, hf4, he4, hl4, hp4⟩
        have hx0 := hp4 (by omega)
        have hx3 : xs.length ≤ 3 := by omega
        obtain ⟨b1, b2, b3⟩ := sz_bd he4.ok
        have f4 : H4 f ≠ none := by rw [hf4]; exact fun e => by cases e
        refine ⟨f, _, hf4, trivial, fun od => ?_⟩
        refine ⟨_, rfl, f, od, xs, rfl, upd_same, fun Lz hLz => ND.lc_keysN (P := P) (w := w) (d := f) (o := od) (xs := xs) (fun i H' => H' = upd (upd H4 f (.frz od (ND.ND P w f xs))) Lz (.lst ((xs.take i).map fun e => e.2.2))) rfl (fun i H' _ e => ?_) ?_ ?_⟩
        · subst e
          exact same_new hLz _ _ upd_same
        · rintro i e H5 hi rfl
          have hm := List.mem_of_getElem? hi
          have kp : KeepT H4 (upd (upd H4 f (.frz od (ND.ND P w f xs))) Lz (.lst ((xs.take i).map fun e => e.2.2))) := (keepT_nt (o := .frz od (ND.ND P w f xs)) nt_nd hf4).trans (keepT_new hLz)
          have he5 := he4.keep kp
          refine ⟨rfl, _, rfl, _, rfl, f, e.2.1, xs, e.1, e.2, rfl, rfl, .inr ⟨od, same_new hLz _ _ upd_same⟩, he5.keys, he5.keys e hm, at_mem he5.nd hm, _, upd_same, ?_, ?_⟩
          · rw [List.length_map, List.length_take]
            exact line6 (by omega)
          · rw [upd_upd, take_map_succ (f := fun e : ND.En => e.2.2) hi]
        · rintro H5 rfl
          rw [List.take_length]
          have Lf : Lz ≠ f := fun e => by
            rw [e, upd_same] at hLz
            cases hLz
          have hLz4 : H4 Lz = none := by
            rw [upd_ne Lf] at hLz
            exact hLz
          refine ⟨same_new hLz _ _ upd_same, ?_⟩
          have s6 : Same H4 (upd (upd (upd H4 f (.frz od (ND.ND P w f xs))) Lz (.lst (xs.map fun e => e.2.2))) f (ND.ND P w f xs)) := fun b o e => by
            by_cases hb : b = f
            · subst hb
              rw [upd_same, ← hf4]
              exact e
            · rw [upd_ne hb, upd_ne (ne_of_none e hLz4), upd_ne hb]
              exact e
          have hLz6 : (upd (upd (upd H4 f (.frz od (ND.ND P w f xs))) Lz (.lst (xs.map fun e => e.2.2))) f (ND.ND P w f xs)) Lz = some (.lst ((xs.map fun e => cOf e.2.2).map V.int)) := by
            rw [upd_ne Lf, upd_same, List.map_map]
            congr 2
            refine List.map_congr_left fun e he => ?_
            obtain ⟨c, hc, _⟩ := (he4.ok e he).val
            show e.2.2 = V.int (cOf e.2.2)
            rw [hc]
            rfl
          generalize upd (upd (upd H4 f (.frz od (ND.ND P w f xs))) Lz (.lst (xs.map fun e => e.2.2))) f (ND.ND P w f xs) = H6 at s6 hLz6
          have hf6 := s6 _ _ hf4
          have he6 := he4.keep (KeepT.of_same s6)
          have gL4 := g4.2 _ _ hL1 LD
          have hL6 := s6 _ _ gL4
          refine ⟨Lz, _, rfl, SqL.of hLz6, ?_⟩
          have ez : (xs.map fun e => cOf e.2.2).sum = szOf xs := rfl
          rw [ez]
          generalize hz : szOf xs = z at b1 b2 b3
          refine ⟨_, rfl, .inl ⟨rfl, _, SqL.of hL6⟩, _, rfl, f, xs, rfl, .inl hf6, he6.keys, fun ys p hperm hp => ?_⟩
          have s7 := same_new (o := .lst (ys.map fun e => V.ref e.2.1)) hp
          have hp7 := upd_same (H := H6) (a := p) (o := .lst (ys.map fun e => V.ref e.2.1))
          have he7 := he6.keep (KeepT.of_same s7)
          have hf7 := s7 _ _ hf6
          have hL7 := s7 _ _ hL6
          generalize upd H6 p (.lst (ys.map fun e => V.ref e.2.1)) = H7 at s7 hp7 he7 hf7 hL7
          have yl : ys.length = xs.length := hperm.length_eq
          refine ⟨p, rfl, ⟨_, SqL.of hp7⟩, fun Lk hLk => lc_list (xs := ys.map fun e => V.ref e.2.1) (fun i H' => Same H7 H' ∧ ∃ qs, H' Lk = some (.lst qs) ∧ DpAll K H' qs ((ys.take i).map fun e => dArc (arcOf z e))) ⟨same_new hLk, [], upd_same, .nil⟩ (fun i H' _ e => SqL.of (e.1 _ _ hp7)) ?_ ?_⟩
          · rintro i x H8 hi ⟨s8, qs, hL8, hA8⟩
            rw [List.getElem?_map] at hi
            obtain ⟨e, hye, rfl⟩ := Option.map_eq_some_iff.mp hi
            have hm := hperm.mem_iff.mp (List.mem_of_getElem? hye)
            have he8 := he7.keep (KeepT.of_same s8)
            obtain ⟨bk, hb1, hb2⟩ := he8.keys e hm
            obtain ⟨c, hc, c1, c2⟩ := (he8.ok e hm).val
            have ec : cOf e.2.2 = c := by rw [hc]; rfl
            have hcz := b3 e hm
            refine ⟨rfl, _, rfl, e.2.1, _, _, _, rfl, rfl, hb1, atI_nat (j := 0) rfl, _, rfl, e.2.1, _, _, _, rfl, rfl, hb1, atI_nat (j := 1) rfl, _, rfl, _, rfl, f, e.2.1, xs, e.1, e.2, rfl, rfl, .inl (s8 _ _ hf7), he8.keys, he8.keys e hm, at_mem he8.nd hm, ?_⟩
            have hb1s : 1 ≤ z := by omega
            have hzz : z ≤ 12 := by omega
            refine ⟨_, rfl, cOf e.2.2, z, by rw [ec, hc]; rfl, by omega, ⟨n_up (j := 5) (by show _ < 32; omega) (by decide), n_up (j := 5) (by show _ < 32; omega) (by decide)⟩, fun pf hpf => ⟨by show 3 ≤ sizeLine; decide, fun pa hpa => ?_⟩⟩
            have s9 := same_new (o := tupF (fr (cOf e.2.2) z)) hpf
            have hpf9 := upd_same (H := H8) (a := pf) (o := tupF (fr (cOf e.2.2) z))
            have s10 := s9.trans (same_new (o := .tup [.ref bk, .int e.1.2, .ref pf]) hpa)
            have hpf10 := same_new (o := .tup [.ref bk, .int e.1.2, .ref pf]) hpa _ _ hpf9
            have hpa10 := upd_same (H := upd H8 pf (tupF (fr (cOf e.2.2) z))) (a := pa) (o := .tup [.ref bk, .int e.1.2, .ref pf])
            generalize upd (upd H8 pf (tupF (fr (cOf e.2.2) z))) pa (.tup [.ref bk, .int e.1.2, .ref pf]) = H10 at s10 hpf10 hpa10
            have k10 := KeepT.of_same s10
            have hL10 := s10 _ _ hL8
            have kL := keepT_nt (o := .lst (qs ++ [.ref pa])) (nt_lst _) hL10
            have hlo := (he8.ok e hm).lo
            have dA : Dp K H10 (.ref pa) (dArc (arcOf z e)) := by
              have e1 : PyData.int ((e.1.2.toNat : Nat) : Int) = .int e.1.2 := by rw [Int.toNat_of_nonneg hlo]
              show Dp K H10 (.ref pa) (.tuple [dSh e.1.1, .int ((e.1.2.toNat : Nat) : Int), dF (fr (cOf e.2.2) z)])
              rw [e1]
              exact .tup (SqT.of hpa10) (.cons (sh_of (sqt_keep k10 hb2)) (.cons (.int _) (.cons (dp_F (SqT.of hpf10)) .nil)))
            refine ⟨_, hL10, ?_, same_mut (s8.trans s10) hLk, qs ++ [.ref pa], upd_same, ?_⟩
            · have := dpA_len hA8
              rw [List.length_map, List.length_take] at this
              exact line6 (by omega)
            · rw [List.take_add_one, hye, List.map_append]
              refine dpA_snoc (dpA_keep kL _ _ (noLs_map _ _ fun e _ => dArc_noL _) (dpA_keep k10 _ _ (noLs_map _ _ fun e _ => dArc_noL _) hA8)) (dp_keep kL _ _ (dArc_noL _) dA)
          · rintro H8 ⟨s8, qs, hL8, hA8⟩
            rw [List.length_map, List.take_length] at hA8
            refine ⟨Lk, qs, rfl, .inl ⟨SqL.of hL8, fun pr hpr => ?_⟩⟩
            have s9 := s7.trans (s8.trans (same_new (o := .tup qs) hpr))
            have hpr9 := upd_same (H := H8) (a := pr) (o := .tup qs)
            have hA9 := dpA_keep (KeepT.of_same (same_new (o := .tup qs) hpr)) _ _ (noLs_map _ _ fun e _ => dArc_noL _) hA8
            generalize upd H8 pr (.tup qs) = H9 at s9 hpr9 hA9
            have hL9 := s9 _ _ hL6
            have gT : Go S D H1 H9 := g4.trans ((Go.same g4.1 (s6.trans s9)))
            have kL := keepT_nt (o := .lst (zs ++ [.ref pr])) (nt_lst _) hL9
            have zl := dpA_len hzs
            rw [List.length_map] at zl
            have eA : (ys.map fun e => dArc (arcOf z e)) = (ys.map (arcOf z)).map dArc := by rw [List.map_map]; rfl
            rw [eA] at hA9
            refine ⟨L, zs, _, rfl, rfl, hL9, line6 (by omega), W ++ [ys.map (arcOf z)], zs ++ [.ref pr], _, _, _, _, rfl, ?_, upd_same, ?_, ?_, fun r hr => ?_⟩
            · have gg := g.trans gT
              exact goU hL d gg
            · rw [List.map_append]
              exact dpA_snoc (dpA_keep kL _ _ (noLs_map _ _ fun r _ => dRow_noL r) (dpA_keep (Go.keepT g.1 gT) _ _ (noLs_map _ _ fun r _ => dRow_noL r) hzs)) (dp_keep kL _ _ (dRow_noL _) (.tup (SqT.of hpr9) hA9))
            · rw [List.length_append, hW]
              rfl
            · rcases List.mem_append.mp hr with h | h
              · exact hWr r h
              · rw [List.mem_singleton.mp h, List.length_map, yl]
                refine ⟨hx0, hx3, fun a ha => ?_⟩
                obtain ⟨e, he, rfl⟩ := List.mem_map.mp ha
                have hm := hperm.mem_iff.mp he
                exact arc_ok hsh (he7.ok e hm) (by omega) (by omega) (b3 e hm)
    · rintro σ H1 ⟨W, zs, y4, y5, y6, y7, rfl, g, hL1, hzs, hW, hWr⟩
      refine ⟨_, rfl, L, zs, rfl, .inl ⟨SqL.of hL1, fun pq hpq => ⟨by show 2 ≤ sizeLine; decide, fun pw hpw => ?_⟩⟩⟩
      have gq := Go.new (o := .tup zs) g.1 hpq
      have gw := gq.trans (Go.new (o := .tup [.str "web", .ref pq]) gq.1 hpw)
      have hpq2 := same_new (o := .tup [.str "web", .ref pq]) hpw _ _ (upd_same (H := H1) (a := pq) (o := .tup zs))
      refine q _ _ W (g.trans gw) (.tup (SqT.of upd_same) (.cons (.str _) (.cons (.tup (SqT.of hpq2) (dpA_keep (Go.keepT g.1 gw) _ _ (noLs_map _ _ fun r _ => dRow_noL r) hzs)) .nil))) ⟨by omega, by omega, fun r hr => ?_⟩ hW
      rw [hW]
      exact hWr r hr
end
end Mt
namespace Mt
open PySem PySem.Spec PyProof.Rows L2
theorem opEqD {X : Cx} {K : PySem.W.Frag} (h : X.K = K) (hu : X.A.units + 64 < cLine) : OpR X (compareOp .Eq) (rEqD K) := h ▸ op_eqD hu
theorem hu_of2 {n : Nat} {A : Around} (h : Room n A) : A.units + 1 < cLine := by
  have := h.units
  omega
/-! ### both ways through a web -/
def hits (sh : List Str) (r : List Arc) : List Arc := r.filter fun a => decide (a.1 = sh)
def nxt (E : Nat → Int) (sh : List Str) (r : List Arc) : Int := ((hits sh r).map fun a => a.2.2.2 * E a.2.1).sum
def Bk (W : Wb) : List (List Str) → Nat → Int
  | [], _ => 1
  | sh :: r, s => nxt (Bk W r) sh (W[s]?.getD [])
def Mk : Nat → Nat
  | 0 => 1
  | k + 1 => LC * Mk k
def Uk : Nat → Nat
  | 0 => 1
  | k + 1 => 83160 * Uk k
theorem Mk_pos : ∀ k, 0 < Mk k
  | 0 => Nat.one_pos
  | k + 1 => Nat.mul_pos (by decide) (Mk_pos k)
theorem Mk_le : ∀ k, Mk k ≤ Uk k
  | 0 => Nat.le_refl _
  | k + 1 => Nat.mul_le_mul (by decide) (Mk_le k)
theorem Uk_pos (k : Nat) : 0 < Uk k := Nat.lt_of_lt_of_le (Mk_pos k) (Mk_le k)
theorem Uk_mono {j k : Nat} (h : j ≤ k) : Uk j ≤ Uk k := by
  induction h with
  | refl => exact Nat.le_refl _
  | step h ih => exact Nat.le_trans ih (Nat.le_mul_of_pos_left _ (by decide))
theorem Uk_60 : Uk 60 < 2 ^ 1100 := by decide +kernel
theorem Uk_lt {k : Nat} (h : k ≤ 60) : Uk k < 2 ^ 1100 := Nat.lt_of_le_of_lt (Uk_mono h) Uk_60
theorem Mk_lt {k : Nat} (h : k ≤ 60) : Mk k < 2 ^ 1100 := Nat.lt_of_le_of_lt (Mk_le k) (Uk_lt h)
theorem sum_bd {b : Int} (hb : 0 ≤ b) : ∀ {l : List Int}, (∀ x ∈ l, 0 ≤ x ∧ x ≤ b) → 0 ≤ l.sum ∧ l.sum ≤ (l.length : Int) * b
  | [], _ => ⟨Int.le_refl _, by simp⟩
  | x :: r, h => by
    obtain ⟨h1, h2⟩ := sum_bd hb (l := r) fun y hy => h y (List.mem_cons_of_mem _ hy)
    obtain ⟨h3, h4⟩ := h x List.mem_cons_self
    rw [List.sum_cons, List.length_cons]
    refine ⟨by omega, ?_⟩
    have : ((r.length + 1 : Nat) : Int) * b = (r.length : Int) * b + b := by
      rw [Int.natCast_add, Int.add_mul]
      simp
    omega
theorem nxt_bd {n : Nat} {r : List Arc} {E : Nat → Int} {sh : List Str} {u : Nat} (hl : r.length ≤ 3) (ok : ∀ a ∈ r, ArcOk n a) (hE : ∀ s, s < n → 0 ≤ E s ∧ E s ≤ u) : 0 ≤ nxt E sh r ∧ nxt E sh r ≤ 83160 * u := by
  have hb : (0 : Int) ≤ LC * u := Int.mul_nonneg (by decide) (by omega)
  have h := sum_bd hb (l := (hits sh r).map fun a => a.2.2.2 * E a.2.1) fun x hx => by
    obtain ⟨a, ha, rfl⟩ := List.mem_map.mp hx
    have o := ok a ((List.mem_filter.mp ha).1)
    obtain ⟨e1, e2⟩ := hE _ o.to
    exact ⟨Int.mul_nonneg o.lo e1, Int.mul_le_mul o.hi e2 e1 (by decide)⟩
  refine ⟨h.1, Int.le_trans h.2 ?_⟩
  rw [List.length_map]
  have hl2 : ((hits sh r).length : Int) ≤ 3 := by
    have : (hits sh r).length ≤ r.length := List.length_filter_le _ _
    omega
  calc ((hits sh r).length : Int) * ((LC : Int) * u) ≤ 3 * ((LC : Int) * u) := Int.mul_le_mul_of_nonneg_right hl2 hb
    _ = 83160 * (u : Int) := by rw [← Int.mul_assoc]; rfl
theorem Bk_bd {W : Wb} (ok : WebOk W) : ∀ (r : List (List Str)) (s : Nat), s < W.length → 0 ≤ Bk W r s ∧ Bk W r s ≤ Uk r.length
  | [], _, _ => ⟨by show (0 : Int) ≤ 1; decide, by show (1 : Int) ≤ ((1 : Nat) : Int); decide⟩
  | sh :: r, s, hs => by
    have e : W[s]?.getD [] = W[s] := by rw [List.getElem?_eq_getElem hs]; rfl
    obtain ⟨_, h2, h3⟩ := ok.row _ (List.getElem_mem hs)
    have := nxt_bd (sh := sh) (E := Bk W r) (u := Uk r.length) h2 h3 fun s hs => Bk_bd ok r s hs
    show 0 ≤ nxt (Bk W r) sh (W[s]?.getD []) ∧ nxt (Bk W r) sh (W[s]?.getD []) ≤ ((83160 * Uk r.length : Nat) : Int)
    rw [e, Int.natCast_mul]
    exact this
def spBack (K : PySem.W.Frag) : Sp := fun vs H Q _ => ∃ (v : V) (W : Wb) (p : Addr) (xs : List V) (row : List (List Str)), vs = [v, .ref p] ∧ Dp K H v (dWeb W) ∧ WebOk W ∧ SqL K H p xs ∧ DpAll K H xs (row.map dSh) ∧ (∀ sh ∈ row, ShOk sh) ∧ row.length ≤ 50 ∧
  ∀ H' q f, Same H H' → H' q = some (tupF f) → Fr f (Bk W row 0) (Mk row.length) → Q (.ref q) H'
/-- the list of the values of all states -/
def EndsAt (W : Wb) (H : Hp) (Le : Addr) (suf : List (List Str)) : Prop := ∃ qs, H Le = some (.lst qs) ∧ Frs H qs ((List.range W.length).map (Bk W suf)) (Mk suf.length)
theorem EndsAt.same {W : Wb} {H H' : Hp} {Le : Addr} {suf : List (List Str)} (h : EndsAt W H Le suf) (s : Same H H') : EndsAt W H' Le suf := by
  obtain ⟨qs, h1, h2⟩ := h
  exact ⟨qs, s _ _ h1, h2.same s⟩
theorem EndsAt.at {K : PySem.W.Frag} {W : Wb} {H : Hp} {Le : Addr} {suf : List (List Str)} (h : EndsAt W H Le suf) {s : Nat} (hs : s < W.length) : ∃ qs p f, SqL K H Le qs ∧ atI qs (s : Int) = some (.ref p) ∧ H p = some (tupF f) ∧ Fr f (Bk W suf s) (Mk suf.length) := by
  obtain ⟨qs, h1, h2⟩ := h
  have hl := Paired.length h2
  rw [List.length_map, List.length_range] at hl
  obtain ⟨x, hx⟩ : ∃ x, qs[s]? = some x := ⟨qs[s]'(by omega), List.getElem?_eq_getElem _⟩
  obtain ⟨n, hn, p, f, rfl, hp, hf⟩ := Paired.at h2 hx
  rw [List.getElem?_map, List.getElem?_range hs] at hn
  obtain rfl : Bk W suf s = n := Option.some.inj hn
  exact ⟨qs, p, f, SqL.of h1, atI_nat hx, hp, hf⟩
theorem paired_snoc {α β : Type} {R : α → β → Prop} {xs : List α} {ys : List β} (p : Paired R xs ys) {x : α} {y : β} (h : R x y) : Paired R (xs ++ [x]) (ys ++ [y]) := by
  induction p with
  | nil => exact .cons h .nil
  | cons e t ih => exact .cons e ih
theorem hits_snoc {sh : List Str} {r : List Arc} {i : Nat} {a : Arc} (h : r[i]? = some a) : hits sh (r.take (i + 1)) = hits sh (r.take i) ++ (if a.1 = sh then [a] else []) := by
  have e : r.take (i + 1) = r.take i ++ [a] := by
    rw [List.take_add_one, h]
    rfl
  unfold hits
  rw [e, List.filter_append]
  congr 1
  by_cases h : a.1 = sh
  · rw [if_pos h]
    simp [h]
  · rw [if_neg h]
    simp [h]
theorem Frs.mut {H H' : Hp} {L : Addr} {o o' : HO} {qs : List V} {ns : List Int} {M : Nat} (h : Frs H qs ns M) (s : Same H H') (hL : H L = some o) (nt : NT o) : Frs (upd H' L o') qs ns M :=
  paired_imp (fun x n ⟨p, f, e, h3, h4⟩ => ⟨p, f, e, by
    rw [upd_ne (fun z => by rw [z, hL] at h3; exact nt.1 _ (Option.some.inj h3))]
    exact s _ _ h3, h4⟩) h
theorem tSz {a : F2} {N : Int} {M u : Nat} (h : Fr a N M) (hN : 0 ≤ N ∧ N ≤ u) (hu : u < 2 ^ 1100) (hM : M < 2 ^ 1100) : Sz 1900 a := sz_up (h.sz (k := 1100) (by omega) hM) (by decide)
section
variable {P : Program} {w : World} {K : PySem.W.Frag} {mg : Str → Option Value} {base : Heap}
theorem ok__law_backwards (T : Txt K mg) (D__law_times : Kept P w K mg base 2 "_law_times" ["a", "b"] (spBin K mul2)) (D__law_sum : Kept P w K mg base 3 "_law_sum" ["row"] (spTot K)) {f : Addr} {fd : FuncData} (F : FnP K "_law_backwards" s__law_backwards f fd) : FnOk P w K mg base CX0 4 f fd ["web", "row"] (spBack K) := by
  refine F.ok sc__law_backwards (fun vs H Q E h => ?_) (fun cdv A outer s H vs Q E hr h => ?_)
  · obtain ⟨v, W, p, xs, row, rfl, _⟩ := h
    rfl
  · obtain ⟨v, W, p, xs, row, rfl, hd, ok, hp, hA, hsh, hl, q⟩ := h
    refine ⟨_, PSs.nox (pss_cons (ps_set (i := 2) sc__law_backwards.nd rfl (Or.inr rfl) (pe_lc (own := [("arcs", 3)]) (g := (gName 3)) (tt := tYes) rfl sc__law_backwards.nd (pi_tup (pe_ix ix_tup (pv 0) pe_int (fun _ _ => rfl))) (blkOk_by (N := N__law_backwards) (sc := defScope s__law_backwards) (by decide +kernel)) (fun _ _ _ _ _ => (pg_name (i := 3) sc__law_backwards.nd rfl (Or.inl rfl))) (fun _ _ _ _ _ => pts_nil) (fun _ _ _ _ _ => (pe_tup (pa_cons pe_int (pa_cons pe_int pa_nil))))))
      (pss_cons (ps_for PassesOwn.never rfl (pi_list (pe_revL (pv 1))) (pg_name (i := 4) sc__law_backwards.nd rfl (Or.inr rfl)) (pss_cons (ps_set (i := 5) sc__law_backwards.nd rfl (Or.inl rfl) (pe_lst pa_nil))
      (pss_cons (ps_for PassesOwn.never rfl (pi_tup (pe_ix ix_tup (pv 0) pe_int (fun _ _ => rfl))) (pg_name (i := 3) sc__law_backwards.nd rfl (Or.inl rfl)) (pss_one (ps_expr (pe_bm PySem.F.plainAttrs_list PySem.F.slot_list_append PySem.F.type_list_append mt_append (pv 5) (pa_cons (pe_d D__law_sum (hr.mono (by decide)) (by rfl) (pa_cons (pe_lc (own := [("arc", 6)]) (g := (gName 6)) rfl sc__law_backwards.nd (pi_tup (pv 3)) (blkOk_by (N := N__law_backwards) (sc := defScope s__law_backwards) (by decide +kernel)) (fun _ _ _ _ _ => (pg_name (i := 6) sc__law_backwards.nd rfl (Or.inl rfl))) (fun _ _ _ _ _ => (pts_one (pt_cmpR (opEqD (K := K) rfl hr.units) (pe_ix (ixT (K := K) rfl) (pv 6) pe_int (fun _ _ => rfl)) (pv 4) (nomark _)))) (fun _ _ _ _ _ => (pe_d D__law_times (hr.mono (by decide)) (by rfl) (pa_cons (pe_ix (ixT (K := K) rfl) (pv 6) pe_int (fun _ _ => rfl)) (pa_cons (pe_ix (ixL (K := K) rfl) (pv 2) (pe_ix (ixT (K := K) rfl) (pv 6) pe_int (fun _ _ => rfl)) (fun _ _ => rfl)) pa_nil))))) pa_nil)) pa_nil)))))
      (pss_one (ps_set (i := 2) sc__law_backwards.nd rfl (Or.inr rfl) (pv 5))))))
      (pss_one (ps_ret (pe_ix ix_list (pv 2) pe_int (fun _ _ => rfl)))))), ?_⟩
    obtain ⟨pw, pq, zs, rfl, hw1, hw2, hwA⟩ := web_at hd
    have zl := dpA_len hwA
    rw [List.length_map] at zl
    have few := ok.few
    refine ⟨_, rfl, pw, _, _, _, rfl, rfl, hw1, atI_nat (j := 1) rfl, pq, rfl, ⟨_, hw2⟩, fun L0 hL0 => lc_tup (K := K) (a := pq) (xs := zs) (fun i H' => Same H H' ∧ ∃ qs, H' L0 = some (.lst qs) ∧ Frs H' qs ((List.range i).map (Bk W [])) 1) ⟨same_new hL0, [], upd_same, .nil⟩ (fun i H' _ e => same_t e.1 hw2) ?_ ?_⟩
    · rintro i x H1 hi ⟨s1, qs, h1, h2⟩
      have ql := Paired.length h2
      rw [List.length_map, List.length_range] at ql
      have iz := (List.getElem?_eq_some_iff.mp hi).1
      refine ⟨rfl, by show 2 ≤ sizeLine; decide, fun p0 hp0 => ?_⟩
      have s2 := same_new (o := tupF (1, 1)) hp0
      refine ⟨_, s2 _ _ h1, line6 (by omega), same_mut (s1.trans s2) hL0, qs ++ [.ref p0], upd_same, ?_⟩
      rw [List.range_succ, List.map_append]
      have n0 : p0 ≠ L0 := (ne_of_none h1 hp0).symm
      have s3 : ∀ b o, b ≠ L0 → H1 b = some o → (upd (upd H1 p0 (tupF (1, 1))) L0 (.lst (qs ++ [.ref p0]))) b = some o := fun b o nb e => by
        rw [upd_ne nb]
        exact s2 _ _ e
      refine paired_snoc (paired_imp (fun x n ⟨p, f, e, h3, h4⟩ => ⟨p, f, e, s3 _ _ (fun e => by rw [e, h1] at h3; cases h3) h3, h4⟩) h2) ⟨p0, (1, 1), rfl, by rw [upd_ne n0, upd_same]; rfl, Fr.one⟩
    · rintro H1 ⟨s1, qs, h1, h2⟩
      rw [zl] at h2
      have e0 : EndsAt W H1 L0 [] := ⟨qs, h1, h2⟩
      refine ⟨_, rfl, p, xs, rfl, same_l s1 hp, fun Lr hLr => ?_⟩
      have s2 := same_new (o := .lst xs.reverse) hLr
      have hLr2 := upd_same (H := H1) (a := Lr) (o := .lst xs.reverse)
      have s12 := s1.trans s2
      have e2 := e0.same s2
      generalize upd H1 Lr (.lst xs.reverse) = H2 at s2 hLr2 s12 e2
      have xl := dpA_len hA
      rw [List.length_map] at xl
      refine ⟨Lr, rfl, ⟨_, SqL.of hLr2⟩, for_list (K := K) (a := Lr) (xs := xs.reverse) (fun i σ H' => ∃ (Le : Addr) (y3 y4 y5 : Option V), σ = [some (.ref pw), some (.ref p), some (.ref Le), y3, y4, y5, none] ∧ Same H2 H' ∧ EndsAt W H' Le (row.reverse.take i).reverse) ⟨L0, _, _, _, rfl, Same.refl _, e2⟩ (fun i σ H' _ ⟨_, _, _, _, _, s, _⟩ => SqL.of (s _ _ hLr2)) ?_ ?_⟩
      · rintro i x σ H3 hi ⟨Le, y3, y4, y5, rfl, s3, e3⟩
        have il : i < xs.length := by
          have := (List.getElem?_eq_some_iff.mp hi).1
          rw [List.length_reverse] at this
          exact this
        rw [List.getElem?_reverse il] at hi
        obtain ⟨sh, hr1, hx⟩ := dpA_mem hA hi
        have hr2 : row.reverse[i]? = some sh := by
          rw [List.getElem?_reverse (by omega), ← xl]
          exact hr1
        have es : (row.reverse.take (i + 1)).reverse = sh :: (row.reverse.take i).reverse := by
          rw [List.take_add_one, hr2, List.reverse_append]
          rfl
        rw [es]
        have sl : (row.reverse.take i).reverse.length ≤ 50 := by
          rw [List.length_reverse, List.length_take, List.length_reverse]
          omega
        have okS := hsh sh (List.mem_of_getElem? hr1)
        generalize (row.reverse.take i).reverse = suf at e3 sl
        have s13 := s12.trans s3
        refine ⟨Nat.zero_le _, fun Lf hLf => ?_⟩
        have s4 := same_new (o := .lst []) hLf
        refine ⟨_, rfl, pw, _, _, _, rfl, rfl, same_t (s13.trans s4) hw1, atI_nat (j := 1) rfl, pq, rfl, ⟨_, same_t (s13.trans s4) hw2⟩, for_tup (K := K) (a := pq) (xs := zs) (fun k σ H' => ∃ (y3 : Option V) (qs : List V), σ = [some (.ref pw), some (.ref p), some (.ref Le), y3, some x, some (.ref Lf), none] ∧ Same H3 H' ∧ H' Lf = some (.lst qs) ∧ Frs H' qs ((List.range k).map (Bk W (sh :: suf))) (Mk (suf.length + 1))) ⟨_, [], rfl, s4, upd_same, .nil⟩ (fun i σ H' _ ⟨_, _, _, s, _⟩ => same_t (s13.trans s) hw2) ?_ ?_⟩
        · rintro k z σ H5 hk ⟨y3', qs, rfl, s5, hLf5, hF5⟩
          have kz := (List.getElem?_eq_some_iff.mp hk).1
          obtain ⟨r, hr, hz⟩ := dpA_mem hwA hk
          have s15 := s13.trans s5
          obtain ⟨pr, ys, rfl, hrT, hrA⟩ := dp_tup (dp_keep (KeepT.of_same s15) _ _ (dRow_noL r) hz)
          obtain ⟨r0, r3, rok⟩ := ok.row r (List.mem_of_getElem? hr)
          have e5 := e3.same s5
          have hx5 := dp_keep (KeepT.of_same s15) _ _ (dSh_noL sh) hx
          have yl := dpA_len hrA
          rw [List.length_map] at yl
          have bk := fun s hs => Bk_bd ok suf s hs
          refine ⟨_, rfl, .inl ⟨rfl, _, SqL.of hLf5⟩, _, rfl, pr, rfl, ⟨_, hrT⟩, fun Lc hLc => lc_tup (K := K) (a := pr) (xs := ys) (fun i H' => Same H5 H' ∧ ∃ qs2, H' Lc = some (.lst qs2) ∧ qs2.length ≤ i ∧ Frs H' qs2 ((hits sh (r.take i)).map fun a => a.2.2.2 * Bk W suf a.2.1) (LC * Mk suf.length)) ⟨same_new hLc, [], upd_same, Nat.le_refl _, .nil⟩ (fun i H' _ e => same_t e.1 hrT) ?_ ?_⟩
          · rintro j y H6 hj ⟨s6, qs2, hLc6, ql6, hF6⟩
            obtain ⟨a, ha, hy⟩ := dpA_mem hrA hj
            have jl := (List.getElem?_eq_some_iff.mp hj).1
            obtain ⟨pa, x0, x2, rfl, haT, ha0, ha2⟩ := arc_at (dp_keep (KeepT.of_same s6) _ _ (dArc_noL a) hy)
            obtain ⟨pf, rfl, hpf⟩ := f_at ha2
            have oka := rok a (List.mem_of_getElem? ha)
            obtain ⟨qsE, pe, fe, hE1, hE2, hE3, hE4⟩ := (e5.same s6).at (K := K) oka.to
            refine ⟨rfl, _, rfl, pa, _, _, _, rfl, rfl, haT, atI_nat (j := 0) rfl, _, rfl, dSh a.1, dSh sh, ha0, dp_keep (KeepT.of_same s6) _ _ (dSh_noL sh) hx5, dSh_sh oka.sh, dSh_sh okS, _, rfl, ?_⟩
            rw [eqv_sh, hits_snoc ha]
            refine ite2 (fun e => ?_) (fun e => ?_)
            · have e' : a.1 = sh := of_decide_eq_true e
              rw [if_pos e', List.map_append]
              refine ⟨_, rfl, pa, _, _, _, rfl, rfl, haT, atI_nat (j := 2) rfl, _, rfl, _, rfl, pa, _, _, _, rfl, rfl, haT, atI_nat (j := 1) rfl, Le, qsE, _, _, rfl, rfl, hE1, hE2, pf, pe, _, fe, rfl, hpf, SqT.of hE3, tSz (u := LC) oka.fr ⟨oka.lo, oka.hi⟩ (by decide) (by decide), tSz hE4 (bk _ oka.to) (Uk_lt (by omega)) (Mk_lt (by omega)), mul2_ne oka.fr.low hE4.low, fun rr hrr => ?_⟩
              have s7 := same_new (o := tupF (frp (mul2 a.2.2.1 fe))) hrr
              have hLc7 := s7 _ _ hLc6
              refine ⟨_, hLc7, line6 (by omega), same_mut (s6.trans s7) hLc, qs2 ++ [.ref rr], upd_same, by rw [List.length_append, List.length_singleton]; omega, ?_⟩
              refine paired_snoc (hF6.mut s7 hLc6 (nt_lst _)) ⟨rr, _, rfl, by rw [upd_ne (fun e => by rw [e, hLc6] at hrr; cases hrr), upd_same], oka.fr.mul hE4⟩
            · have e' : ¬ a.1 = sh := fun z => e (decide_eq_true z)
              rw [if_neg e', List.append_nil]
              exact ⟨s6, qs2, hLc6, by omega, hF6⟩
          · rintro H6 ⟨s6, qs2, hLc6, ql6, hF6⟩
            rw [List.take_of_length_le (by omega)] at hF6
            have eN : ((hits sh r).map fun a => a.2.2.2 * Bk W suf a.2.1).sum = Bk W (sh :: suf) k := by
              show _ = nxt (Bk W suf) sh (W[k]?.getD [])
              rw [hr]
              rfl
            have kW : k < W.length := (List.getElem?_eq_some_iff.mp hr).1
            have bN := Bk_bd ok (sh :: suf) k kW
            have bU := Uk_lt (k := (sh :: suf).length) (by rw [List.length_cons]; omega)
            have bM := Mk_lt (k := suf.length + 1) (by omega)
            refine ⟨Lc, qs2, _, LC * Mk suf.length, rfl, SqL.of hLc6, hF6, fun n hn => ?_, ?_, Nat.lt_of_lt_of_le bM (Nat.pow_le_pow_right (by decide) (by decide)), Nat.mul_pos (by decide) (Mk_pos _), fun H7 qf ff s7 hqf hff => ?_⟩
            · obtain ⟨a, ha, rfl⟩ := List.mem_map.mp hn
              have oka := rok a (List.mem_filter.mp ha).1
              exact Int.mul_nonneg oka.lo (bk _ oka.to).1
            · rw [eN]
              refine Nat.lt_of_lt_of_le (m := 2 ^ 1100) (by omega) (Nat.pow_le_pow_right (by decide) (by decide))
            · rw [eN] at hff
              have s57 := s6.trans s7
              have hLf7 := s57 _ _ hLf5
              have ql := Paired.length hF5
              rw [List.length_map, List.length_range] at ql
              refine ⟨Lf, qs, _, rfl, rfl, hLf7, line6 (by omega), _, qs ++ [.ref qf], rfl, same_mut (s5.trans s57) hLf, upd_same, ?_⟩
              rw [List.range_succ, List.map_append]
              exact paired_snoc (hF5.mut s57 hLf5 (nt_lst _)) ⟨qf, ff, rfl, by rw [upd_ne (fun e => by rw [e, hLf7] at hqf; cases hqf)]; exact hqf, hff⟩
        · rintro σ H5 ⟨y3', qs, rfl, s5, hLf5, hF5⟩
          rw [zl] at hF5
          exact ⟨_, rfl, Lf, _, _, _, rfl, s3.trans s5, qs, hLf5, hF5⟩
      · rintro σ H3 ⟨Le, y3, y4, y5, rfl, s3, e3⟩
        rw [List.take_of_length_le (by rw [List.length_reverse, List.length_reverse]; omega), List.reverse_reverse] at e3
        obtain ⟨qsE, pe, fe, hE1, hE2, hE3, hE4⟩ := e3.at (K := K) ok.pos
        exact ⟨_, rfl, Le, qsE, _, _, rfl, rfl, hE1, hE2, q _ pe fe (s12.trans s3) hE3 hE4⟩
end
end Mt
namespace Mt
open PySem PySem.Spec PyProof.Rows L2
/-! ### the chances of the states, as they stand in a dict -/
abbrev Ch : Type := List (Nat × Int)
def getC : Ch → Nat → Option Int
  | [], _ => none
  | e :: r, t => if e.1 = t then some e.2 else getC r t
def putC : Ch → Nat → Int → Ch
  | [], t, n => [(t, n)]
  | e :: r, t, n => if e.1 = t then (t, n) :: r else e :: putC r t n
def SE (E : Nat → Int) (ch : Ch) : Int := (ch.map fun e => e.2 * E e.1).sum
theorem SE_cons (E : Nat → Int) (e : Nat × Int) (r : Ch) : SE E (e :: r) = e.2 * E e.1 + SE E r := List.sum_cons
theorem SE_put (E : Nat → Int) (t : Nat) (x : Int) : ∀ ch : Ch, SE E (putC ch t ((getC ch t).getD 0 + x)) = SE E ch + x * E t
  | [] => by
    show SE E [(t, 0 + x)] = 0 + x * E t
    rw [SE_cons, Int.zero_add, Int.zero_add]
    show x * E t + 0 = _
    rw [Int.add_zero]
  | e :: r => by
    have ih := SE_put E t x r
    unfold putC getC
    by_cases h : e.1 = t
    · rw [if_pos h, if_pos h, SE_cons, SE_cons]
      show (e.2 + x) * E t + SE E r = e.2 * E e.1 + SE E r + x * E t
      rw [h]
      grind
    · rw [if_neg h, if_neg h, SE_cons, SE_cons, ih]
      grind
theorem putC_keys (t : Nat) (n : Int) : ∀ (ch : Ch), ∀ k ∈ (putC ch t n).map (·.1), k = t ∨ k ∈ ch.map (·.1)
  | [], k, h => by
    have : k ∈ [t] := h
    exact .inl (List.mem_singleton.mp this)
  | e :: r, k, h => by
    unfold putC at h
    by_cases he : e.1 = t
    · rw [if_pos he, List.map_cons] at h
      rcases List.mem_cons.mp h with h | h
      · exact .inl h
      · exact .inr (List.mem_cons_of_mem _ h)
    · rw [if_neg he, List.map_cons] at h
      rcases List.mem_cons.mp h with h | h
      · exact .inr (by rw [h]; exact List.mem_cons_self)
      · rcases putC_keys t n r k h with h | h
        · exact .inl h
        · exact .inr (List.mem_cons_of_mem _ h)
theorem putC_nodup (t : Nat) (n : Int) : ∀ {ch : Ch}, (ch.map (·.1)).Nodup → ((putC ch t n).map (·.1)).Nodup
  | [], _ => by
    show [t].Nodup
    simp
  | e :: r, h => by
    rw [List.map_cons, List.nodup_cons] at h
    unfold putC
    by_cases he : e.1 = t
    · rw [if_pos he, List.map_cons, List.nodup_cons]
      exact ⟨by rw [← he]; exact h.1, h.2⟩
    · rw [if_neg he, List.map_cons, List.nodup_cons]
      refine ⟨fun z => ?_, putC_nodup t n h.2⟩
      rcases putC_keys t n r _ z with z | z
      · exact he z
      · exact h.1 z
theorem putC_mem (t : Nat) (n : Int) : ∀ (ch : Ch), ∀ e ∈ putC ch t n, e = (t, n) ∨ e ∈ ch
  | [], e, h => .inl (List.mem_singleton.mp h)
  | x :: r, e, h => by
    unfold putC at h
    by_cases he : x.1 = t
    · rw [if_pos he] at h
      rcases List.mem_cons.mp h with h | h
      · exact .inl h
      · exact .inr (List.mem_cons_of_mem _ h)
    · rw [if_neg he] at h
      rcases List.mem_cons.mp h with h | h
      · exact .inr (by rw [h]; exact List.mem_cons_self)
      · rcases putC_mem t n r e h with h | h
        · exact .inl h
        · exact .inr (List.mem_cons_of_mem _ h)
theorem getC_mem {t : Nat} {n : Int} : ∀ {ch : Ch}, getC ch t = some n → (t, n) ∈ ch
  | [], h => by cases h
  | e :: r, h => by
    unfold getC at h
    by_cases he : e.1 = t
    · rw [if_pos he] at h
      rw [← he, ← Option.some.inj h]
      exact List.mem_cons_self
    · rw [if_neg he] at h
      exact List.mem_cons_of_mem _ (getC_mem h)
/-- no more states than there are -/
theorem nodup_few : ∀ {n : Nat} {l : List Nat}, l.Nodup → (∀ x ∈ l, x < n) → l.length ≤ n
  | 0, l, _, h2 => by
    cases l with
    | nil => exact Nat.le_refl _
    | cons x r => exact absurd (h2 x List.mem_cons_self) (Nat.not_lt_zero _)
  | n + 1, l, h1, h2 => by
    have ih := nodup_few (n := n) (l := l.erase n) (h1.erase n) fun x hx => by
      have := h2 x (List.mem_of_mem_erase hx)
      have : x ≠ n := fun e => by
        rw [h1.mem_erase_iff] at hx
        exact hx.1 e
      omega
    have : l.length ≤ (l.erase n).length + 1 := by
      by_cases h : n ∈ l
      · rw [List.length_erase_of_mem h]
        omega
      · rw [List.erase_of_not_mem h]
        omega
    omega
/-- the entries as they stand -/
def RelC (H : Hp) (M : Nat) (kv : Key × V) (e : Nat × Int) : Prop := kv.1 = .inl (e.1 : Int) ∧ ∃ p f, kv.2 = V.ref p ∧ H p = some (tupF f) ∧ Fr f e.2 M
theorem RelC.keep {H H' : Hp} {M : Nat} (s : ∀ p f, H p = some (tupF f) → H' p = some (tupF f)) {kv : Key × V} {e : Nat × Int} (h : RelC H M kv e) : RelC H' M kv e :=
  ⟨h.1, let ⟨p, f, e, h1, h2⟩ := h.2; ⟨p, f, e, s _ _ h1, h2⟩⟩
theorem rel_get {H : Hp} {M : Nat} {kvs : List (Key × V)} {ch : Ch} (r : Paired (RelC H M) kvs ch) (t : Nat) : (valV kvs (.inl (t : Int)) = none ∧ getC ch t = none) ∨ ∃ p f n, valV kvs (.inl (t : Int)) = some (.ref p) ∧ getC ch t = some n ∧ H p = some (tupF f) ∧ Fr f n M := by
  induction r with
  | nil => exact .inl ⟨rfl, rfl⟩
  | @cons kv e kvs ch h tl ih =>
    obtain ⟨h1, p, f, h2, h3, h4⟩ := h
    unfold getC
    by_cases he : e.1 = t
    · refine .inr ⟨p, f, e.2, ?_, if_pos he, h3, h4⟩
      rw [valV_pos (by rw [h1, he]), h2]
    · have hn : ¬ kv.1 = .inl (t : Int) := fun z => he (by
        rw [h1] at z
        have : (e.1 : Int) = (t : Int) := Sum.inl.inj z
        omega)
      rw [valV_neg hn, if_neg he]
      exact ih
theorem rel_no {H : Hp} {M : Nat} {kvs : List (Key × V)} {ch : Ch} (r : Paired (RelC H M) kvs ch) {t : Nat} (h : t ∉ ch.map (·.1)) (v : V) : (kvs.any fun kv => decide (kv.1 = (.inl (t : Int) : Key))) = false ∧ kvs.map (fun kv => if kv.1 = (.inl (t : Int) : Key) then (kv.1, v) else kv) = kvs := by
  induction r with
  | nil => exact ⟨rfl, rfl⟩
  | @cons kv e kvs ch hr tl ih =>
    rw [List.map_cons, List.mem_cons, not_or] at h
    obtain ⟨i1, i2⟩ := ih h.2
    have hn : ¬ kv.1 = (.inl (t : Int) : Key) := fun z => h.1 (by
      rw [hr.1] at z
      have : (e.1 : Int) = (t : Int) := Sum.inl.inj z
      omega)
    exact ⟨by rw [List.any_cons, decide_eq_false hn, i1]; rfl, by rw [List.map_cons, if_neg hn, i2]⟩
theorem putK_cons {kv : Key × V} {kvs : List (Key × V)} {k : Key} {v : V} (h : ¬ kv.1 = k) : putK (kv :: kvs) k v = kv :: putK kvs k v := by
  unfold putK
  rw [List.any_cons, decide_eq_false h, Bool.false_or]
  split
  · rw [List.map_cons, if_neg h]
  · rfl
theorem rel_putC {H : Hp} {M : Nat} {kvs : List (Key × V)} {ch : Ch} (r : Paired (RelC H M) kvs ch) (hn : (ch.map (·.1)).Nodup) {t : Nat} {p : Addr} {f : F2} {n : Int} (hp : H p = some (tupF f)) (hf : Fr f n M) : Paired (RelC H M) (putK kvs (.inl (t : Int)) (.ref p)) (putC ch t n) := by
  induction r with
  | nil => exact .cons ⟨rfl, p, f, rfl, hp, hf⟩ .nil
  | @cons kv e kvs ch h tl ih =>
    rw [List.map_cons, List.nodup_cons] at hn
    by_cases he : e.1 = t
    · have hk : kv.1 = (.inl (t : Int) : Key) := by rw [h.1, he]
      obtain ⟨_, i2⟩ := rel_no tl (t := t) (by rw [← he]; exact hn.1) (.ref p)
      have e1 : putK (kv :: kvs) (.inl (t : Int)) (.ref p) = (kv.1, .ref p) :: kvs := by
        unfold putK
        rw [List.any_cons, decide_eq_true hk]
        rw [Bool.true_or, if_pos rfl, List.map_cons, if_pos hk, i2]
      have e2 : putC (e :: ch) t n = (t, n) :: ch := if_pos he
      rw [e1, e2]
      exact .cons ⟨hk, p, f, rfl, hp, hf⟩ tl
    · have hk : ¬ kv.1 = (.inl (t : Int) : Key) := fun z => he (by
        rw [h.1] at z
        have : (e.1 : Int) = (t : Int) := Sum.inl.inj z
        omega)
      have e2 : putC (e :: ch) t n = e :: putC ch t n := if_neg he
      rw [putK_cons hk, e2]
      exact .cons h (ih hn.2)
theorem SE_le {E : Nat → Int} {u : Int} {n : Nat} (hE : ∀ s, s < n → E s ≤ u) : ∀ {ch : Ch}, (∀ e ∈ ch, 0 ≤ e.2 ∧ e.1 < n) → SE E ch ≤ u * SE (fun _ => 1) ch
  | [], _ => by
    show (0 : Int) ≤ u * 0
    rw [Int.mul_zero]
    exact Int.le_refl _
  | e :: r, h => by
    have ih := SE_le hE (ch := r) fun x hx => h x (List.mem_cons_of_mem _ hx)
    obtain ⟨h1, h2⟩ := h e List.mem_cons_self
    have h3 := Int.mul_le_mul_of_nonneg_left (hE _ h2) h1
    rw [SE_cons, SE_cons]
    grind
theorem SE_nn {E : Nat → Int} {n : Nat} (hE : ∀ s, s < n → 0 ≤ E s) : ∀ {ch : Ch}, (∀ e ∈ ch, 0 ≤ e.2 ∧ e.1 < n) → 0 ≤ SE E ch
  | [], _ => Int.le_refl _
  | e :: r, h => by
    have ih := SE_nn hE (ch := r) fun x hx => h x (List.mem_cons_of_mem _ hx)
    obtain ⟨h1, h2⟩ := h e List.mem_cons_self
    have h3 := Int.mul_nonneg h1 (hE _ h2)
    rw [SE_cons]
    omega
theorem SE_app (E : Nat → Int) : ∀ a b : Ch, SE E (a ++ b) = SE E a + SE E b
  | [], b => by
    show SE E b = 0 + SE E b
    rw [Int.zero_add]
  | e :: r, b => by
    show SE E (e :: (r ++ b)) = _
    rw [SE_cons, SE_cons, SE_app E r b]
    omega
theorem SE_one_mem {n : Nat} {ch : Ch} (h : ∀ e ∈ ch, 0 ≤ e.2 ∧ e.1 < n) {e : Nat × Int} (he : e ∈ ch) : e.2 ≤ SE (fun _ => 1) ch := by
  induction ch with
  | nil => cases he
  | cons x r ih =>
    have h2 := SE_nn (E := fun _ => 1) (n := n) (fun _ _ => by decide) (ch := r) fun y hy => h y (List.mem_cons_of_mem _ hy)
    have h3 := (h x List.mem_cons_self).1
    rw [SE_cons]
    rcases List.mem_cons.mp he with rfl | he
    · omega
    · have := ih (fun y hy => h y (List.mem_cons_of_mem _ hy)) he
      omega
theorem nxt_snoc (E : Nat → Int) {sh : List Str} {r : List Arc} {i : Nat} {a : Arc} (h : r[i]? = some a) : nxt E sh (r.take (i + 1)) = nxt E sh (r.take i) + (if a.1 = sh then a.2.2.2 * E a.2.1 else 0) := by
  unfold nxt
  rw [hits_snoc h]
  by_cases h : a.1 = sh
  · rw [if_pos h, if_pos h, List.map_append, List.map_cons, List.map_nil, sum_snoc]
  · rw [if_neg h, if_neg h, List.append_nil, Int.add_zero]
end Mt
namespace Mt
open PySem PySem.Spec PyProof.Rows L2
def spChance (K : PySem.W.Frag) : Sp := fun vs H Q _ => ∃ (v : V) (W : Wb) (p : Addr) (xs : List V) (row : List (List Str)), vs = [v, .ref p] ∧ Dp K H v (dWeb W) ∧ WebOk W ∧ SqT K H p xs ∧ DpAll K H xs (row.map dSh) ∧ (∀ sh ∈ row, ShOk sh) ∧ row.length ≤ 50 ∧
  ∀ H' q f, Same H H' → H' q = some (tupF f) → Fr f (Bk W row 0) (Mk row.length) → Q (.ref q) H'
structure ChOk (n : Nat) (ch : Ch) : Prop where
  nd : (ch.map (·.1)).Nodup
  ok : ∀ e ∈ ch, 0 ≤ e.2 ∧ e.1 < n
def DictC (H : Hp) (d : Addr) (ch : Ch) (M : Nat) : Prop := ∃ kvs, H d = some (.dK kvs) ∧ Paired (RelC H M) kvs ch
section
variable {P : Program} {w : World} {K : PySem.W.Frag} {mg : Str → Option Value} {base : Heap}
theorem ok_chance_of (T : Txt K mg) (D_sum_of : Kept P w K mg base 2 "sum_of" ["a", "b"] (spBin K add2)) (D_product_of : Kept P w K mg base 2 "product_of" ["a", "b"] (spBin K mul2)) (D_total_of : Kept P w K mg base 3 "total_of" ["fractions"] (spTot K)) {f : Addr} {fd : FuncData} (F : FnP K "chance_of" s_chance_of f fd) : FnOk P w K mg base CX0 4 f fd ["web", "row"] (spChance K) := by
  refine F.ok sc_chance_of (fun vs H Q E h => ?_) (fun cdv A outer s H vs Q E hr h => ?_)
  · obtain ⟨v, W, p, xs, row, rfl, _⟩ := h
    rfl
  · obtain ⟨v, W, p, xs, row, rfl, hd, ok, hp, hA, hsh, hl, q⟩ := h
    refine ⟨_, PSs.nox (pss_cons (ps_set (i := 2) sc_chance_of.nd rfl (Or.inl rfl) (pe_disp (pps_cons pe_int (pe_tup (pa_cons pe_int (pa_cons pe_int pa_nil))) pps_nil) (by rfl) (by rfl) (fun z => by cases z) (by decide)))
      (pss_cons (ps_for PassesOwn.never rfl (pi_tup (pv 1)) (pg_name (i := 3) sc_chance_of.nd rfl (Or.inl rfl)) (pss_cons (ps_set (i := 4) sc_chance_of.nd rfl (Or.inl rfl) pe_dnewK)
      (pss_cons (ps_lock (ps_for PassesOwn.never rfl (pi_items (pv 2)) (pg_tup rfl (pgs_cons (pg_name (i := 5) sc_chance_of.nd rfl (Or.inl rfl)) (pgs_cons (pg_name (i := 6) sc_chance_of.nd rfl (Or.inl rfl)) pgs_nil))) (pss_one (ps_for PassesOwn.never rfl (pi_tup (pe_ix ix_tup (pe_ix ix_tup (pv 0) pe_int (fun _ _ => rfl)) (pv 5) (fun _ _ => rfl))) (pg_tup rfl (pgs_cons (pg_name (i := 7) sc_chance_of.nd rfl (Or.inl rfl)) (pgs_cons (pg_name (i := 8) sc_chance_of.nd rfl (Or.inl rfl)) (pgs_cons (pg_name (i := 9) sc_chance_of.nd rfl (Or.inl rfl)) pgs_nil)))) (pss_one (ps_if (pt_cmpR (op_eqD (hr.units)) (pv 7) (pv 3) (nomark _)) (pss_one (ps_asg (pe_d D_sum_of (hr.mono (by decide)) (by rfl) (pa_cons (pe_dget2 (hu_of hr) (pv 4) (pv 8) (pe_tup (pa_cons pe_int (pa_cons pe_int pa_nil))) ⟨rfl, rfl, rfl, rfl⟩) (pa_cons (pe_d D_product_of (hr.mono (by decide)) (by rfl) (pa_cons (pv 6) (pa_cons (pv 9) pa_nil))) pa_nil))) (pg_sub (pv 4) (pv 8) (set_dict (hu_of hr))))) pss_nil))))))
      (pss_one (ps_set (i := 2) sc_chance_of.nd rfl (Or.inl rfl) (pv 4))))))
      (pss_one (ps_ret (pe_d D_total_of (hr.mono (by decide)) (by rfl) (pa_cons (RV.pe_listVals rfl (by rfl) T.b_list (pv 2)) pa_nil)))))), ?_⟩
    obtain ⟨pw, pq, zs, rfl, hw1, hw2, hwA⟩ := web_at hd
    have few := ok.few
    have xl := dpA_len hA
    rw [List.length_map] at xl
    refine fun d0 hd0 => ?_
    refine ⟨by show 2 ≤ sizeLine; decide, fun p0 hp0 => ⟨same_new hp0 _ _ upd_same, [(.inl 0, .ref p0)], rfl, by show 1 ≤ 15; decide, ?_⟩⟩
    have n0 : p0 ≠ d0 := fun e => by
      rw [e, upd_same] at hp0
      cases hp0
    have hp00 : H p0 = none := by
      rw [upd_ne n0] at hp0
      exact hp0
    show gName 2 _ _ (upd (upd (upd H d0 (.dK [])) p0 (tupF (1, 1))) d0 (.dK [(.inl 0, .ref p0)])) _
    have s1 : Same H (upd (upd (upd H d0 (.dK [])) p0 (tupF (1, 1))) d0 (.dK [(.inl 0, .ref p0)])) := same_mut ((same_new hd0).trans (same_new hp0)) hd0
    have hd1 := upd_same (H := upd (upd H d0 (.dK [])) p0 (tupF (1, 1))) (a := d0) (o := .dK [(.inl 0, .ref p0)])
    have hp1 : (upd (upd (upd H d0 (.dK [])) p0 (tupF (1, 1))) d0 (.dK [(.inl 0, .ref p0)])) p0 = some (tupF (1, 1)) := by rw [upd_ne n0, upd_same]
    generalize upd (upd (upd H d0 (.dK [])) p0 (tupF (1, 1))) d0 (.dK [(.inl 0, .ref p0)]) = H1 at s1 hd1 hp1
    refine ⟨_, rfl, p, rfl, ⟨_, same_t s1 hp⟩, for_tup (K := K) (a := p) (xs := xs) (fun i σ H' => ∃ (dc : Addr) (ch : Ch) (y3 y4 y5 y6 y7 y8 y9 : Option V), σ = [some (.ref pw), some (.ref p), some (.ref dc), y3, y4, y5, y6, y7, y8, y9] ∧ Same H H' ∧ DictC H' dc ch (Mk i) ∧ ChOk W.length ch ∧ SE (Bk W (row.drop i)) ch = Bk W row 0 ∧ SE (fun _ => 1) ch ≤ Uk i)
      ⟨d0, [(0, 1)], _, _, _, _, _, _, _, rfl, s1, ⟨_, hd1, .cons ⟨rfl, p0, (1, 1), rfl, hp1, Fr.one⟩ .nil⟩, ⟨by simp, fun e he => by rw [List.mem_singleton.mp he]; exact ⟨by decide, ok.pos⟩⟩, by rw [SE_cons]; show 1 * Bk W row 0 + 0 = _; omega, by show (1 : Int) * 1 + 0 ≤ ((1 : Nat) : Int); decide⟩ (fun i σ H' _ ⟨_, _, _, _, _, _, _, _, _, _, s, _⟩ => same_t s hp) ?_ ?_⟩
    · rintro i x σ H2 hi ⟨dc, ch, y3, y4, y5, y6, y7, y8, y9, rfl, s2, ⟨kvs, hdc, hrel⟩, okc, hS, hU⟩
      obtain ⟨sh, hsi, hx⟩ := dpA_mem hA hi
      have okS := hsh sh (List.mem_of_getElem? hsi)
      have il := (List.getElem?_eq_some_iff.mp hsi).1
      have ed : row.drop i = sh :: row.drop (i + 1) := by
        rw [List.drop_eq_getElem_cons il]
        congr 1
        exact (List.getElem?_eq_some_iff.mp hsi).2
      rw [ed] at hS
      have suf50 : (row.drop (i + 1)).length ≤ 50 := by
        rw [List.length_drop]
        omega
      refine fun da hda => ?_
      have s3 := same_new (o := .dK []) hda
      have dn : dc ≠ da := ne_of_none hdc hda
      have hdc3 := s3 _ _ hdc
      have hda3 := upd_same (H := H2) (a := da) (o := .dK [])
      refine ⟨dc, _, hdc3, trivial, fun od => ?_⟩
      have hdc4 := upd_same (H := upd H2 da (.dK [])) (a := dc) (o := .frz od (.dK kvs))
      have hda4 : (upd (upd H2 da (.dK [])) dc (.frz od (.dK kvs))) da = some (.dK []) := by rw [upd_ne dn.symm]; exact hda3
      have k4 : ∀ b o, b ≠ dc → H2 b = some o → (upd (upd H2 da (.dK [])) dc (.frz od (.dK kvs))) b = some o := fun b o hb e => by
        rw [upd_ne hb]
        exact s3 _ _ e
      generalize upd (upd H2 da (.dK [])) dc (.frz od (.dK kvs)) = H3 at hdc4 hda4 k4
      have cl := Paired.length hrel
      refine ⟨_, rfl, dc, od, kvs, rfl, hdc4, for_it (walk_items (d := dc) (o := od) (kvs := kvs)) (fun j σ H' => ∃ (cA : Ch) (y5 y6 y7 y8 y9 : Option V), σ = [some (.ref pw), some (.ref p), some (.ref dc), some x, some (.ref da), y5, y6, y7, y8, y9] ∧ (∀ b o, b ≠ da → H3 b = some o → H' b = some o) ∧ DictC H' da cA (Mk (i + 1)) ∧ ChOk W.length cA ∧ ∀ E : Nat → Int, SE E cA = SE (fun s => nxt E sh (W[s]?.getD [])) (ch.take j))
        ⟨[], _, _, _, _, _, rfl, fun _ _ _ e => e, ⟨[], hda4, .nil⟩, ⟨List.nodup_nil, fun _ h => absurd h List.not_mem_nil⟩, fun E => rfl⟩ (fun j σ H' _ ⟨_, _, _, _, _, _, _, k, _⟩ => k _ _ dn hdc4) ?_ ?_⟩
      · rintro j xT σ H5 H6 hj ⟨cA, y5', y6', y7', y8', y9', rfl, k5, ⟨kvA, hdA, hrA⟩, okA, hSA⟩ ⟨T, kx, vx, rfl, hT, rfl, hk, hv⟩
        obtain ⟨kv, hkv⟩ : ∃ kv, kvs[j]? = some kv := ⟨kvs[j], List.getElem?_eq_getElem hj⟩
        have hk' : kvs[j]?.map (fun kv => kV kv.1) = some kx := hk
        have hv' : kvs[j]?.map Prod.snd = some vx := hv
        rw [hkv] at hk' hv'
        obtain rfl : kV kv.1 = kx := Option.some.inj hk'
        obtain rfl : kv.2 = vx := Option.some.inj hv'
        obtain ⟨e, he, hk1, pe, fe, hk2, hpe, hfe⟩ := Paired.at hrel hkv
        have hem := List.mem_of_getElem? he
        obtain ⟨e0, e1⟩ := okc.ok e hem
        have Tda : T ≠ da := (ne_of_none hdA hT).symm
        have k6 : ∀ b o, b ≠ da → H3 b = some o → (upd H5 T (.tup [kV kv.1, kv.2])) b = some o := fun b o hb e => same_new hT _ _ (k5 b o hb e)
        have hdA6 : (upd H5 T (.tup [kV kv.1, kv.2])) da = some (.dK kvA) := same_new hT _ _ hdA
        have hrA6 : Paired (RelC (upd H5 T (.tup [kV kv.1, kv.2])) (Mk (i + 1))) kvA cA := paired_imp (fun _ _ h => h.keep fun p f e => same_new hT _ _ e) hrA
        refine ⟨T, _, rfl, SqT.of upd_same, rfl, _, _, rfl, _, _, rfl, rfl, ?_⟩
        rw [hk1, hk2] at k6 hdA6 hrA6 ⊢
        generalize upd H5 T (.tup [kV (.inl (e.1 : Int)), .ref pe]) = H6 at k6 hdA6 hrA6
        have hr : W[e.1]? = some W[e.1] := List.getElem?_eq_getElem e1
        generalize W[e.1] = r at hr
        obtain ⟨z, hz1, hz2⟩ := dpA_get hwA hr
        obtain ⟨r0, r3, rok⟩ := ok.row r (List.mem_of_getElem? hr)
        have kT : ∀ H' : Hp, (∀ b o, b ≠ da → H3 b = some o → H' b = some o) → KeepT H H' := fun H' k p l h => by
          have n1 : H2 dc ≠ some (.tup l) := by rw [hdc]; exact fun e => by cases e
          rcases h with h | ⟨ob, h⟩
          · have h2 := s2 _ _ h
            have pd : p ≠ dc := fun e => n1 (by rw [← e]; exact h2)
            have h3 := k4 _ _ pd h2
            exact .inl (k _ _ (fun e => by rw [e, hda4] at h3; cases h3) h3)
          · have h2 := s2 _ _ h
            have pd : p ≠ dc := fun e => by rw [e, hdc] at h2; cases h2
            have h3 := k4 _ _ pd h2
            exact .inr ⟨ob, k _ _ (fun e => by rw [e, hda4] at h3; cases h3) h3⟩
        have hpe3 : H3 pe = some (tupF fe) := k4 _ _ (fun e => by rw [e, hdc] at hpe; cases hpe) hpe
        have peda : pe ≠ da := fun e => by rw [e, hda4] at hpe3; cases hpe3
        obtain ⟨pr, ys, rfl, hrT, hrA'⟩ := dp_tup hz2
        have yl := dpA_len hrA'
        rw [List.length_map] at yl
        have e2U : e.2 ≤ Uk i := Int.le_trans (SE_one_mem okc.ok hem) hU
        refine ⟨_, rfl, pw, _, _, _, rfl, rfl, sqt_keep (kT _ k6) hw1, atI_nat (j := 1) rfl, _, rfl, pq, _, _, _, rfl, rfl, sqt_keep (kT _ k6) hw2, atI_nat hz1, pr, rfl, ⟨_, sqt_keep (kT _ k6) hrT⟩, for_tup (K := K) (a := pr) (xs := ys) (fun k σ H' => ∃ (cB : Ch) (y7 y8 y9 : Option V), σ = [some (.ref pw), some (.ref p), some (.ref dc), some x, some (.ref da), some (.int (e.1 : Int)), some (.ref pe), y7, y8, y9] ∧ (∀ b o, b ≠ da → H3 b = some o → H' b = some o) ∧ DictC H' da cB (Mk (i + 1)) ∧ ChOk W.length cB ∧ ∀ E : Nat → Int, SE E cB = SE (fun s => nxt E sh (W[s]?.getD [])) (ch.take j) + e.2 * nxt E sh (r.take k))
          ⟨cA, _, _, _, rfl, k6, ⟨kvA, hdA6, hrA6⟩, okA, fun E => by rw [hSA E]; show _ = _ + e.2 * 0; omega⟩ (fun k σ H' _ ⟨_, _, _, _, _, k, _⟩ => sqt_keep (kT _ k) hrT) ?_ ?_⟩
        · rintro k y σ H7 hky ⟨cB, y7, y8, y9, rfl, k7, ⟨kvB, hdB, hrB⟩, okB, hSB⟩
          obtain ⟨a, ha, hy⟩ := dpA_mem hrA' hky
          have oka := rok a (List.mem_of_getElem? ha)
          obtain ⟨pa, x0, x2, rfl, haT, ha0, ha2⟩ := arc_at (dp_keep (kT _ k7) _ _ (dArc_noL a) hy)
          obtain ⟨pf, rfl, hpf⟩ := f_at ha2
          have hB1 : SE (fun _ => 1) cB ≤ Uk (i + 1) := by
            rw [hSB]
            have b1 : ∀ s, s < W.length → nxt (fun _ => 1) sh (W[s]?.getD []) ≤ 83160 := fun s hs => by
              rw [List.getElem?_eq_getElem hs]
              obtain ⟨_, q3, qok⟩ := ok.row _ (List.getElem_mem hs)
              exact (nxt_bd (u := 1) q3 qok fun s _ => ⟨by decide, by decide⟩).2
            have b2 := SE_le b1 (ch := ch.take j) fun x hx => okc.ok x (List.mem_of_mem_take hx)
            have b3 : nxt (fun _ => 1) sh (r.take k) ≤ 83160 := (nxt_bd (u := 1) (r := r.take k) (by rw [List.length_take]; omega) (fun a ha => rok a (List.mem_of_mem_take ha)) fun s _ => ⟨by decide, by decide⟩).2
            have b4 := Int.mul_le_mul_of_nonneg_left b3 e0
            have b5 : SE (fun _ => 1) (ch.take j) + e.2 ≤ SE (fun _ => 1) ch := by
              have e6 : ch.take (j + 1) = ch.take j ++ [e] := by
                rw [List.take_add_one, he]
                rfl
              have e7 : SE (fun _ => 1) ch = SE (fun _ => 1) (ch.take (j + 1)) + SE (fun _ => 1) (ch.drop (j + 1)) := by rw [← SE_app, List.take_append_drop]
              have e8 := SE_nn (E := fun _ => 1) (n := W.length) (fun _ _ => by decide) (ch := ch.drop (j + 1)) fun x hx => okc.ok x (List.mem_of_mem_drop hx)
              rw [e6, SE_app, SE_cons] at e7
              have e9 : SE (fun _ => 1) ([] : Ch) = 0 := rfl
              omega
            show _ ≤ ((83160 * Uk i : Nat) : Int)
            omega
          have ewU : e.2 * a.2.2.2 ≤ Uk (i + 1) := by
            have := Int.mul_le_mul e2U oka.hi oka.lo (by omega)
            have e9 : ((83160 * Uk i : Nat) : Int) = 83160 * (Uk i : Int) := by omega
            show _ ≤ ((83160 * Uk i : Nat) : Int)
            rw [e9]
            have : (Uk i : Int) * (LC : Nat) ≤ 83160 * (Uk i : Int) := by
              have : (0 : Int) ≤ Uk i := by omega
              show (Uk i : Int) * 27720 ≤ _
              omega
            omega
          have ew0 := Int.mul_nonneg e0 oka.lo
          refine ⟨pa, _, rfl, haT, rfl, _, _, rfl, _, _, rfl, _, _, rfl, rfl, ?_⟩
          refine ⟨_, rfl, _, rfl, dSh a.1, dSh sh, ha0, dp_keep (kT _ k7) _ _ (dSh_noL sh) hx, dSh_sh oka.sh, dSh_sh okS, _, rfl, ?_⟩
          rw [eqv_sh]
          refine ite2 (fun ee => ?_) (fun ee => ?_)
          · have e' : a.1 = sh := of_decide_eq_true ee
            refine ⟨_, rfl, da, rfl, .inl ⟨kvB, .inl hdB⟩, _, rfl, by show 2 ≤ sizeLine; decide, fun pz hpz => ⟨_, DGet.k (k := .inl (a.2.1 : Int)) (same_new hpz _ _ hdB), _, rfl, _, rfl, ?_⟩⟩
            have s8 := same_new (o := .tup [V.int 0, .int 1]) hpz
            have hpz8 := upd_same (H := H7) (a := pz) (o := .tup [V.int 0, .int 1])
            generalize upd H7 pz (.tup [V.int 0, .int 1]) = H8 at s8 hpz8
            have k8 : ∀ b o, b ≠ da → H3 b = some o → H8 b = some o := fun b o hb e => s8 _ _ (k7 b o hb e)
            have iLe : i + 1 ≤ 60 := by omega
            have bM : Mk i * LC < 2 ^ 1100 := by
              rw [Nat.mul_comm]
              exact Mk_lt (k := i + 1) iLe
            refine ⟨pe, pf, fe, _, rfl, SqT.of (k8 _ _ peda hpe3), sqt_keep (KeepT.of_same s8) hpf, tSz hfe ⟨e0, e2U⟩ (Uk_lt (by omega)) (Mk_lt (by omega)), tSz (u := LC) oka.fr ⟨oka.lo, oka.hi⟩ (by decide) (by decide), mul2_ne hfe.low oka.fr.low, fun rm hrm => ?_⟩
            have fm := hfe.mul oka.fr
            rw [Nat.mul_comm] at fm
            have fm' : Fr (frp (mul2 fe a.2.2.1)) (e.2 * a.2.2.2) (Mk (i + 1)) := fm
            have s9 := s8.trans (same_new (o := tupF (frp (mul2 fe a.2.2.1))) hrm)
            have hpz9 := same_new (o := tupF (frp (mul2 fe a.2.2.1))) hrm _ _ hpz8
            have hrm9 := upd_same (H := H8) (a := rm) (o := tupF (frp (mul2 fe a.2.2.1)))
            generalize upd H8 rm (tupF (frp (mul2 fe a.2.2.1))) = H9 at s9 hpz9 hrm9
            obtain ⟨pg, fg, hg1, hg2, hg3, hg4⟩ : ∃ pg fg, (valV kvB (.inl (a.2.1 : Int))).getD (V.ref pz) = .ref pg ∧ H9 pg = some (tupF fg) ∧ Fr fg ((getC cB a.2.1).getD 0) (Mk (i + 1)) ∧ 0 ≤ (getC cB a.2.1).getD 0 ∧ (getC cB a.2.1).getD 0 ≤ Uk (i + 1) := by
              rcases rel_get hrB a.2.1 with ⟨g1, g2⟩ | ⟨p1, f1, n1, g1, g2, g3, g4⟩
              · rw [g1, g2]
                exact ⟨pz, (0, 1), rfl, hpz9, Fr.zero (Mk_pos _), by decide, by show (0 : Int) ≤ _; omega⟩
              · rw [g1, g2]
                have hm := getC_mem g2
                exact ⟨p1, f1, rfl, s9 _ _ g3, g4, (okB.ok _ hm).1, Int.le_trans (SE_one_mem okB.ok hm) hB1⟩
            rw [hg1]
            refine ⟨pg, rm, fg, _, rfl, SqT.of hg2, SqT.of hrm9, tSz hg3 hg4 (Uk_lt iLe) (Mk_lt iLe), tSz fm' ⟨ew0, ewU⟩ (Uk_lt iLe) (Mk_lt iLe), add2_ne hg3.low fm'.low, fun ra hra => ?_⟩
            have fs := hg3.add fm'
            have s10 := s9.trans (same_new (o := tupF (frp (add2 fg (frp (mul2 fe a.2.2.1))))) hra)
            have hra10 := upd_same (H := H9) (a := ra) (o := tupF (frp (add2 fg (frp (mul2 fe a.2.2.1)))))
            generalize upd H9 ra (tupF (frp (add2 fg (frp (mul2 fe a.2.2.1))))) = H10 at s10 hra10
            have hdB10 := s10 _ _ hdB
            have hrB10 : Paired (RelC H10 (Mk (i + 1))) kvB cB := paired_imp (fun _ _ h => h.keep fun p f e => s10 _ _ e) hrB
            have kl : kvB.length < sizeLine := by
              rw [Paired.length hrB]
              have := nodup_few okB.nd fun x hx => by
                obtain ⟨e, he, rfl⟩ := List.mem_map.mp hx
                exact (okB.ok e he).2
              rw [List.length_map] at this
              exact line6 (by omega)
            have hput := rel_putC hrB10 okB.nd (t := a.2.1) hra10 fs
            refine ⟨_, rfl, _, rfl, da, _, rfl, DPut.k (k := .inl (a.2.1 : Int)) hdB10 kl, putC cB a.2.1 ((getC cB a.2.1).getD 0 + e.2 * a.2.2.2), _, _, _, rfl, fun b o hb eb => ?_, ⟨_, upd_same, paired_imp (fun _ _ h => h.keep fun p f e => ?_) hput⟩, ⟨putC_nodup _ _ okB.nd, fun x hx => ?_⟩, fun E => ?_⟩
            · rw [upd_ne hb]
              exact s10 _ _ (k7 b o hb eb)
            · rcases putC_mem _ _ _ _ hx with rfl | hx
              · exact ⟨by show 0 ≤ _ + _; omega, oka.to⟩
              · exact okB.ok x hx
            · rw [SE_put, hSB E, nxt_snoc E ha, if_pos e']
              grind
            · rw [upd_ne (fun z => by rw [z, hdB10] at e; cases e)]
              exact e
          · have e' : ¬ a.1 = sh := fun z => ee (decide_eq_true z)
            refine ⟨cB, _, _, _, rfl, k7, ⟨kvB, hdB, hrB⟩, okB, fun E => ?_⟩
            rw [hSB E, nxt_snoc E ha, if_neg e', Int.add_zero]
        · rintro σ H7 ⟨cB, y7, y8, y9, rfl, k7, hdB, okB, hSB⟩
          refine ⟨cB, _, _, _, _, _, rfl, k7, hdB, okB, fun E => ?_⟩
          have e6 : ch.take (j + 1) = ch.take j ++ [e] := by
            rw [List.take_add_one, he]
            rfl
          have e9 : SE (fun s => nxt E sh (W[s]?.getD [])) ([] : Ch) = 0 := rfl
          rw [hSB E, show r.take ys.length = r from List.take_of_length_le (by omega), e6, SE_app, SE_cons, e9, hr]
          show _ + e.2 * nxt E sh r = _ + (e.2 * nxt E sh r + 0)
          omega
      · rintro σ H7 ⟨cA, y5', y6', y7', y8', y9', rfl, k7, ⟨kvA, hdA, hrA⟩, okA, hSA⟩
        rw [cl, List.take_length] at hSA
        have hdc7 := k7 _ _ dn hdc4
        refine ⟨hdc7, _, rfl, da, cA, _, _, _, _, _, _, _, rfl, fun b o hb => ?_, ⟨kvA, by rw [upd_ne dn.symm]; exact hdA, paired_imp (fun _ _ h => h.keep fun p f e => ?_) hrA⟩, okA, ?_, ?_⟩
        · have hb2 := s2 _ _ hb
          by_cases hbd : b = dc
          · subst hbd
            rw [upd_same, ← hdc]
            exact hb2
          · rw [upd_ne hbd]
            have h3 := k4 _ _ hbd hb2
            exact k7 _ _ (fun z => by rw [z, hda] at hb2; cases hb2) h3
        · rw [hSA]
          exact hS
        · rw [hSA]
          have b1 : ∀ s, s < W.length → nxt (fun _ => 1) sh (W[s]?.getD []) ≤ 83160 := fun s hs => by
            rw [List.getElem?_eq_getElem hs]
            obtain ⟨_, q3, qok⟩ := ok.row _ (List.getElem_mem hs)
            exact (nxt_bd (u := 1) q3 qok fun s _ => ⟨by decide, by decide⟩).2
          have b2 := SE_le b1 (ch := ch) okc.ok
          show _ ≤ ((83160 * Uk i : Nat) : Int)
          omega
        · rw [upd_ne (fun z => by rw [z, hdc7] at e; cases e)]
          exact e
    · rintro σ H2 ⟨dc, ch, y3, y4, y5, y6, y7, y8, y9, rfl, s2, ⟨kvs, hdc, hrel⟩, okc, hS, hU⟩
      rw [xl, List.drop_length] at hS
      rw [xl] at hrel hU
      have e1 : (ch.map (·.2)).sum = Bk W row 0 := by
        rw [← hS]
        show _ = (ch.map fun e => e.2 * 1).sum
        congr 1
        exact List.map_congr_left fun e _ => (Int.mul_one _).symm
      have bB := Bk_bd ok row 0 ok.pos
      have bU := Uk_lt (k := row.length) (by omega)
      refine ⟨_, rfl, dc, kvs, rfl, .inl hdc, fun pl hpl => ?_⟩
      have s3 := same_new (o := .lst (kvs.map (·.2))) hpl
      refine ⟨pl, kvs.map (·.2), ch.map (·.2), Mk row.length, rfl, SqL.of upd_same, ?_, fun n hn => ?_, ?_, Nat.lt_of_lt_of_le (Mk_lt (by omega)) (Nat.pow_le_pow_right (by decide) (by decide)), Mk_pos _, fun H' qq f s hq hf => ?_⟩
      · have go : ∀ {kv2 : List (Key × V)} {c2 : Ch} {H' : Hp}, Same H2 H' → Paired (RelC H2 (Mk row.length)) kv2 c2 → Frs H' (kv2.map (·.2)) (c2.map (·.2)) (Mk row.length) := fun {kv2 c2 H'} s h => by
          induction h with
          | nil => exact .nil
          | cons h t ih =>
            obtain ⟨_, p, f, e, h1, h2⟩ := h
            exact .cons ⟨p, f, e, s _ _ h1, h2⟩ ih
        exact go s3 hrel
      · obtain ⟨e, he, rfl⟩ := List.mem_map.mp hn
        exact (okc.ok e he).1
      · rw [e1]
        refine Nat.lt_of_lt_of_le (m := 2 ^ 1100) (by omega) (Nat.pow_le_pow_right (by decide) (by decide))
      · rw [e1] at hf
        exact q H' qq f (s2.trans (s3.trans s)) hq hf
end
end Mt
namespace Mt
open PySem PySem.Spec PyProof.Rows L2
def spWalked (K : PySem.W.Frag) : Sp := fun vs H Q _ => ∃ (S D : Addr) (v : V) (W : Wb) (n : Int), vs = [.ref D, v, .int n] ∧ DrawAt S D H ∧ Dp K H v (dWeb W) ∧ WebOk W ∧ 0 ≤ n ∧ n ≤ 40 ∧
  ∀ (H' : Hp) (L : Addr) (xs : List V) (row : List (List Str)), Go S D H H' → H L = none → H' L = some (.lst xs) → DpAll K H' xs (row.map dSh) → (∀ sh ∈ row, ShOk sh ∧ sh.length ≤ 2) → row.length = n.toNat → Q (.ref L) H'
def spBent (K : PySem.W.Frag) : Sp := fun vs H Q _ => ∃ (S D L : Addr) (v : V) (W : Wb) (xs : List V) (row : List (List Str)), vs = [.ref D, v, .ref L] ∧ DrawAt S D H ∧ Dp K H v (dWeb W) ∧ WebOk W ∧ L ≠ D ∧ H L = some (.lst xs) ∧ DpAll K H xs (row.map dSh) ∧ (∀ sh ∈ row, ShOk sh ∧ sh.length ≤ 2) ∧ row.length ≤ 50 ∧
  ∀ (H' : Hp) (L' : Addr) (xs' : List V) (row' : List (List Str)), Go S D H H' → (L' = L ∨ H L' = none) → L' ≠ D → H' L' = some (.lst xs') → DpAll K H' xs' (row'.map dSh) → (∀ sh ∈ row', ShOk sh) → row'.length ≤ 50 → Q (.ref L') H'
theorem noLs_sh (row : List (List Str)) : noLs (row.map dSh) = true := noLs_map _ _ fun _ _ => dSh_noL _
section
variable {P : Program} {w : World} {K : PySem.W.Frag} {mg : Str → Option Value} {base : Heap}
theorem ok__law_walked (T : Txt K mg) (D__law_pick : Kept P w K mg base 2 "_law_pick" ["d", "row"] (spPick K)) {f : Addr} {fd : FuncData} (F : FnP K "_law_walked" s__law_walked f fd) : FnOk P w K mg base CX0 3 f fd ["d", "web", "many"] (spWalked K) := by
  refine F.ok sc__law_walked (fun vs H Q E h => ?_) (fun cdv A outer s H vs Q E hr h => ?_)
  · obtain ⟨S, D, v, W, n, rfl, _⟩ := h
    rfl
  · obtain ⟨S, D, v, W, n, rfl, d, hd, ok, n0, n1, q⟩ := h
    refine ⟨_, PSs.nox (pss_cons (ps_set (i := 3) sc__law_walked.nd rfl (Or.inl rfl) (pe_lst pa_nil))
      (pss_cons (ps_set (i := 4) sc__law_walked.nd rfl (Or.inl rfl) pe_int)
      (pss_cons (ps_for PassesOwn.never rfl (pi_range1 (by rfl) T.b_range (pa_cons (pv 2) pa_nil)) (pg_name (i := 5) sc__law_walked.nd rfl (Or.inl rfl)) (pss_cons (ps_set (i := 6) sc__law_walked.nd rfl (Or.inl rfl) (pe_d D__law_pick (hr.mono (by decide)) (by rfl) (pa_cons (pv 0) (pa_cons (pe_ix ix_tup (pe_ix ix_tup (pv 1) pe_int (fun _ _ => rfl)) (pv 4) (fun _ _ => rfl)) pa_nil))))
      (pss_cons (ps_expr (pe_bm PySem.F.plainAttrs_list PySem.F.slot_list_append PySem.F.type_list_append mt_append (pv 3) (pa_cons (pe_ix ix_tup (pv 6) pe_int (fun _ _ => rfl)) pa_nil)))
      (pss_one (ps_set (i := 4) sc__law_walked.nd rfl (Or.inl rfl) (pe_ix ix_tup (pv 6) pe_int (fun _ _ => rfl)))))))
      (pss_one (ps_ret (pv 3)))))), ?_⟩
    refine ⟨Nat.zero_le _, fun L hL => ?_⟩
    have g1 := Go.new (o := .lst []) d hL
    have LD := (d.free hL).1
    refine ⟨_, rfl, _, rfl, by omega, by omega, for_range (lo := 0) (n := n.toNat) (fun i σ H' => ∃ (st : Nat) (y5 y6 : Option V) (xs : List V) (row : List (List Str)), σ = [some (.ref D), some v, some (.int n), some (.ref L), some (.int (st : Int)), y5, y6] ∧ st < W.length ∧ Go S D H H' ∧ H' L = some (.lst xs) ∧ DpAll K H' xs (row.map dSh) ∧ (∀ sh ∈ row, ShOk sh ∧ sh.length ≤ 2) ∧ row.length = i) ⟨0, _, _, [], [], rfl, ok.pos, g1, upd_same, .nil, fun _ h => absurd h List.not_mem_nil, rfl⟩ ?_ ?_⟩
    · rintro i σ H1 hi ⟨st, y5, y6, xs, row, rfl, hst, g, hL1, hA, hsh, hl⟩
      obtain ⟨pw, pq, zs, rfl, hw1, hw2, hwA⟩ := web_at (dp_keep (Go.keepT d g) _ _ (dWeb_noL W) hd)
      have hr : W[st]? = some W[st] := List.getElem?_eq_getElem hst
      generalize W[st] = r at hr
      obtain ⟨z, hz1, hz2⟩ := dpA_get hwA hr
      obtain ⟨r0, r3, rok⟩ := ok.row r (List.mem_of_getElem? hr)
      obtain ⟨pr, ys, rfl, hrT, hrA⟩ := dp_tup hz2
      have yl := dpA_len hrA
      rw [List.length_map] at yl
      refine ⟨_, rfl, _, rfl, pw, _, _, _, rfl, rfl, hw1, atI_nat (j := 1) rfl, _, rfl, pq, _, _, _, rfl, rfl, hw2, atI_nat hz1, S, D, .ref pr, ys, rfl, g.1, fun H' g' => .inr (.inr ⟨pr, rfl, sqt_keep (Go.keepT g.1 g') hrT⟩), by omega, by omega, fun H2 x hx g2 => ?_⟩
      obtain ⟨jx, hjx⟩ := List.mem_iff_getElem?.mp hx
      obtain ⟨a, ha, hy⟩ := dpA_mem hrA hjx
      have oka := rok a (List.mem_of_getElem? ha)
      obtain ⟨pa, x0, x2, rfl, haT, ha0, ha2⟩ := arc_at (dp_keep (Go.keepT g.1 g2) _ _ (dArc_noL a) hy)
      have hL2 := g2.2 _ _ hL1 LD
      have xl := dpA_len hA
      rw [List.length_map] at xl
      have kL := keepT_nt (o := .lst (xs ++ [x0])) (nt_lst _) hL2
      refine ⟨_, rfl, .inl ⟨rfl, _, SqL.of hL2⟩, _, rfl, pa, _, _, _, rfl, rfl, haT, atI_nat (j := 0) rfl, L, xs, _, rfl, rfl, hL2, line6 (by omega), _, rfl, pa, _, _, _, rfl, rfl, sqt_keep kL haT, atI_nat (j := 1) rfl, a.2.1, _, _, xs ++ [x0], row ++ [a.1], rfl, oka.to, goU hL d (g.trans g2), upd_same, ?_, fun sh h => ?_, by rw [List.length_append, List.length_singleton, hl]⟩
      · rw [List.map_append]
        exact dpA_snoc (dpA_keep kL _ _ (noLs_sh row) (dpA_keep (Go.keepT g.1 g2) _ _ (noLs_sh row) hA)) (dp_keep kL _ _ (dSh_noL _) ha0)
      · rcases List.mem_append.mp h with h | h
        · exact hsh sh h
        · rw [List.mem_singleton.mp h]
          exact ⟨oka.sh, oka.sl⟩
    · rintro σ H1 ⟨st, y5, y6, xs, row, rfl, hst, g, hL1, hA, hsh, hl⟩
      exact ⟨_, rfl, q H1 L xs row g hL hL1 hA hsh hl⟩
end
end Mt
namespace Mt
open PySem PySem.Spec PyProof.Rows L2
theorem dpA_take {K : PySem.W.Frag} {H : Hp} : ∀ {ds : List PyData} {xs : List V} (n : Nat), DpAll K H xs ds → DpAll K H (xs.take n) (ds.take n)
  | _, _, 0, _ => by simpa using DpAll.nil
  | [], _, n + 1, h => by
    rw [dpA_nil h]
    exact .nil
  | d :: ds, _, n + 1, h => by
    obtain ⟨x, r, rfl, h1, h2⟩ := dpA_cons h
    exact .cons h1 (dpA_take n h2)
theorem dpA_drop {K : PySem.W.Frag} {H : Hp} : ∀ {ds : List PyData} {xs : List V} (n : Nat), DpAll K H xs ds → DpAll K H (xs.drop n) (ds.drop n)
  | _, _, 0, h => h
  | [], _, n + 1, h => by
    rw [dpA_nil h]
    exact .nil
  | d :: ds, _, n + 1, h => by
    obtain ⟨x, r, rfl, h1, h2⟩ := dpA_cons h
    exact dpA_drop n h2
theorem dpA_app {K : PySem.W.Frag} {H : Hp} : ∀ {ds es : List PyData} {xs ys : List V}, DpAll K H xs ds → DpAll K H ys es → DpAll K H (xs ++ ys) (ds ++ es)
  | [], _, _, _, h, h' => by
    rw [dpA_nil h]
    exact h'
  | d :: ds, _, _, _, h, h' => by
    obtain ⟨x, r, rfl, h1, h2⟩ := dpA_cons h
    exact .cons h1 (dpA_app h2 h')
theorem cut_k (xs : List V) (k : Nat) : cutV xs none (some (k : Int)) = xs.take k := by
  unfold cutV
  rw [HT.sIx_nat, HT.sIx_none]
  show List.take (min k xs.length - 0) (xs.drop 0) = _
  rw [List.drop_zero, Nat.sub_zero, ← List.take_eq_take_min]
theorem cut_from (xs : List V) (k : Nat) : cutV xs (some (k : Int)) none = xs.drop (min k xs.length) := by
  unfold cutV
  rw [HT.sIx_nat, HT.sIx_none]
  exact List.take_of_length_le (by rw [List.length_drop]; exact Nat.le_refl _)
theorem catA_mono {K : PySem.W.Frag} {x y : V} {H : Hp} {Q Q' : VK} (h : rCatA K x y H Q) (m : ∀ x H, Q x H → Q' x H) : rCatA K x y H Q' := by
  obtain ⟨a, b, xs, ys, e1, e2, h1, h2, h3, q0, q1, q2⟩ := h
  exact ⟨a, b, xs, ys, e1, e2, h1, h2, h3, fun e => m _ _ (q0 e), fun e1 e2 => m _ _ (q1 e1 e2), fun e1 e2 p hp => m _ _ (q2 e1 e2 p hp)⟩
theorem strange_ok : PyData.strOk "strange9" = true := by decide +kernel
section
variable {P : Program} {w : World} {K : PySem.W.Frag} {mg : Str → Option Value} {base : Heap}
theorem ok__law_bent_row (T : Txt K mg) (D__law_draw : Kept P w K mg base 1 "_law_draw" ["d", "many"] spDraw) (D__law_pick : Kept P w K mg base 2 "_law_pick" ["d", "row"] (spPick K)) {f : Addr} {fd : FuncData} (F : FnP K "_law_bent_row" s__law_bent_row f fd) : FnOk P w K mg base CX0 3 f fd ["d", "web", "row"] (spBent K) := by
  refine F.ok sc__law_bent_row (fun vs H Q E h => ?_) (fun cdv A outer s H vs Q E hr h => ?_)
  · obtain ⟨S, D, L, v, W, xs, row, rfl, _⟩ := h
    rfl
  · obtain ⟨S, D, L, v, W, xs, row, rfl, d, hd, ok, LD, hL, hA, hsh, hl, q⟩ := h
    refine ⟨_, PSs.nox (pss_cons (ps_set (i := 3) sc__law_bent_row.nd rfl (Or.inl rfl) (pe_d D__law_draw (hr.mono (by decide)) (by rfl) (pa_cons (pv 0) (pa_cons (pe_op op_add (pe_callB call_len (by rfl) T.b_len (by decide +kernel) (pa_cons (pv 2) pa_nil)) pe_int) pa_nil))))
      (pss_cons (ps_if (pt_cmpR op_eq (pv 3) (pe_callB call_len (by rfl) T.b_len (by decide +kernel) (pa_cons (pv 2) pa_nil)) (nomark _)) (pss_one (ps_ret (pv 2))) pss_nil)
      (pss_cons (ps_set (i := 4) sc__law_bent_row.nd rfl (Or.inl rfl) (pe_ix ix_list (pv 2) (pv 3) (fun _ _ => rfl)))
      (pss_cons (ps_set (i := 5) sc__law_bent_row.nd rfl (Or.inl rfl) (pe_d D__law_draw (hr.mono (by decide)) (by rfl) (pa_cons (pv 0) (pa_cons pe_int pa_nil))))
      (Evl.pss_cut (ps_if (pt_cmpR op_eq (pv 5) pe_int (nomark _)) (pss_one (ps_set (i := 4) sc__law_bent_row.nd rfl (Or.inl rfl) (RV.pe_revT (pv 4)))) (pss_one (ps_if (pt_cmpR op_eq (pv 5) pe_int (nomark _)) (pss_one (ps_set (i := 4) sc__law_bent_row.nd rfl (Or.inl rfl) (pe_op op_catA (pv 4) (pv 4)))) (pss_one (ps_if (pt_cmpR op_eq (pv 5) pe_int (nomark _)) (pss_one (ps_set (i := 4) sc__law_bent_row.nd rfl (Or.inl rfl) (pe_ix ix_tup (pe_d D__law_pick (hr.mono (by decide)) (by rfl) (pa_cons (pv 0) (pa_cons (pe_d D__law_pick (hr.mono (by decide)) (by rfl) (pa_cons (pv 0) (pa_cons (pe_ix ix_tup (pv 1) pe_int (fun _ _ => rfl)) pa_nil))) pa_nil))) pe_int (fun _ _ => rfl)))) (pss_one (ps_set (i := 4) sc__law_bent_row.nd rfl (Or.inl rfl) (pe_op op_catA (pe_tup (pa_cons pe_str pa_nil)) (pe_slice sl_tupA (pv 4) (po_some pe_int) po_none)))))))))
      (pss_one (ps_ret (pe_op op_cat (pe_op op_cat (pe_slice sl_list (pv 2) po_none (po_some (pv 3))) (pe_lst (pa_cons (pv 4) pa_nil))) (pe_slice sl_list (pv 2) (po_some (pe_op op_add (pv 3) pe_int)) po_none))))))))), ?_⟩
    have xl := dpA_len hA
    rw [List.length_map] at xl
    refine ⟨_, rfl, _, rfl, _, _, rfl, .inl ⟨_, SqL.of hL, rfl⟩, ?_⟩
    refine ⟨_, _, rfl, rfl, S, D, _, rfl, divW_of (by omega) (by omega), d, fun H1 at_ a0 a1 g1 => ?_⟩
    have hL1 := g1.2 _ _ hL LD
    have hA1 := dpA_keep (Go.keepT d g1) _ _ (noLs_sh row) hA
    refine ⟨_, rfl, _, rfl, _, _, rfl, .inl ⟨_, SqL.of hL1, rfl⟩, ?_⟩
    refine ⟨rfl, _, rfl, ?_⟩
    refine ite2 (fun _ => ⟨_, rfl, q H1 L xs row g1 (.inl rfl) LD hL1 hA1 (fun sh h => (hsh sh h).1) hl⟩) (fun e => ?_)
    have hat : at_.toNat < xs.length := by
      have : ¬ (V.int at_ = V.int (xs.length : Int)) := fun z => e (decide_eq_true z)
      have : at_ ≠ (xs.length : Int) := fun z => this (by rw [z])
      omega
    have hx : xs[at_.toNat]? = some xs[at_.toNat] := List.getElem?_eq_getElem hat
    obtain ⟨sh, hs1, hs2⟩ := dpA_mem hA1 hx
    obtain ⟨ps, hps, hpT⟩ := sh_at hs2
    obtain ⟨okS, okL⟩ := hsh sh (List.mem_of_getElem? hs1)
    have hai : atI xs at_ = some (.ref ps) := by
      have := atI_nat hx
      rw [show ((at_.toNat : Nat) : Int) = at_ by omega, hps] at this
      exact this
    refine ⟨_, rfl, _, rfl, L, xs, at_, _, rfl, rfl, SqL.of hL1, hai, ?_⟩
    refine ⟨_, rfl, S, D, 4, rfl, divW_of (by decide) (by decide), g1.1, fun H2 way w0 w1 g2 => ?_⟩
    have g12 := g1.trans g2
    have hpT2 := sqt_keep (Go.keepT g1.1 g2) hpT
    refine ⟨fun σ H' => ∃ (p : Addr) (ss : List Str), σ = [some (.ref D), some v, some (.ref L), some (.int at_), some (.ref p), some (.int way)] ∧ Go S D H H' ∧ SqT K H' p (ss.map V.str) ∧ ShOk ss, ?_, ?_⟩
    · refine ⟨_, rfl, rfl, _, rfl, ?_⟩
      refine ite2 (fun _ => ?_) (fun _ => ?_)
      · refine ⟨_, rfl, ps, _, rfl, hpT2, fun p hp => ⟨p, sh.reverse, rfl, g12.trans (Go.new g12.1 hp), SqT.of (by rw [upd_same, List.map_reverse]), fun s h => okS s (List.mem_reverse.mp h)⟩⟩
      · refine ⟨_, rfl, rfl, _, rfl, ?_⟩
        refine ite2 (fun _ => ?_) (fun _ => ?_)
        · have os2 : ShOk (sh ++ sh) := fun s h => (List.mem_append.mp h).elim (okS s) (okS s)
          refine ⟨_, rfl, _, rfl, ps, ps, _, _, rfl, rfl, hpT2, hpT2, by rw [List.length_map]; exact line5 (by omega), fun _ => ⟨ps, sh, rfl, g12, hpT2, okS⟩, fun _ _ => ⟨ps, sh, rfl, g12, hpT2, okS⟩, fun _ _ p hp => ⟨p, sh ++ sh, rfl, g12.trans (Go.new g12.1 hp), SqT.of (by rw [upd_same, List.map_append]), os2⟩⟩
        · refine ⟨_, rfl, rfl, _, rfl, ?_⟩
          refine ite2 (fun _ => ?_) (fun _ => ?_)
          · obtain ⟨pw, pq, zs, rfl, hw1, hw2, hwA⟩ := web_at (dp_keep (Go.keepT d g12) _ _ (dWeb_noL W) hd)
            have zl := dpA_len hwA
            rw [List.length_map] at zl
            have few := ok.few
            have pos := ok.pos
            refine ⟨_, rfl, _, rfl, _, rfl, pw, _, _, _, rfl, rfl, hw1, atI_nat (j := 1) rfl, S, D, .ref pq, zs, rfl, g2.1, fun H' g' => .inr (.inr ⟨pq, rfl, sqt_keep (Go.keepT g2.1 g') hw2⟩), by omega, by omega, fun H3 x hx3 g3 => ?_⟩
            obtain ⟨jx, hjx⟩ := List.mem_iff_getElem?.mp hx3
            obtain ⟨r, hr1, hr2⟩ := dpA_mem hwA hjx
            obtain ⟨r0, r3, rok⟩ := ok.row r (List.mem_of_getElem? hr1)
            obtain ⟨pr, ys, rfl, hrT, hrA⟩ := dp_tup (dp_keep (Go.keepT g2.1 g3) _ _ (dRow_noL r) hr2)
            have yl := dpA_len hrA
            rw [List.length_map] at yl
            refine ⟨S, D, .ref pr, ys, rfl, g3.1, fun H' g' => .inr (.inr ⟨pr, rfl, sqt_keep (Go.keepT g3.1 g') hrT⟩), by omega, by omega, fun H4 x hx4 g4 => ?_⟩
            obtain ⟨jy, hjy⟩ := List.mem_iff_getElem?.mp hx4
            obtain ⟨a, ha, hy⟩ := dpA_mem hrA hjy
            have oka := rok a (List.mem_of_getElem? ha)
            obtain ⟨pa, x0, x2, rfl, haT, ha0, ha2⟩ := arc_at (dp_keep (Go.keepT g3.1 g4) _ _ (dArc_noL a) hy)
            obtain ⟨p0, rfl, hp0⟩ := sh_at ha0
            exact ⟨pa, _, _, _, rfl, rfl, haT, atI_nat (j := 0) rfl, p0, a.1, rfl, (g12.trans g3).trans g4, hp0, oka.sh⟩
          · have kS := strange_ok
            refine ⟨by show 1 ≤ sizeLine; decide, fun p1 hp1 => ?_⟩
            have g13 := g12.trans (Go.new (o := .tup [V.str "strange9"]) g12.1 hp1)
            have hp11 := upd_same (H := H2) (a := p1) (o := .tup [V.str "strange9"])
            have hpT3 := sqt_keep (keepT_new (o := .tup [V.str "strange9"]) hp1) hpT2
            generalize upd H2 p1 (.tup [V.str "strange9"]) = H3 at g13 hp11 hpT3
            have fin : ∀ (H' : Hp) (b : Addr) (ys : List Str), Go S D H H' → SqT K H' p1 [V.str "strange9"] → SqT K H' b (ys.map V.str) → ShOk ys → ys.length ≤ 2 → rCatA K (.ref p1) (.ref b) H' fun x H1 => ∃ (p : Addr) (ss : List Str), x = .ref p ∧ Go S D H H1 ∧ SqT K H1 p (ss.map V.str) ∧ ShOk ss := fun H' b ys g' h1 h2 o l => by
              have o1 : ShOk ["strange9"] := fun s h => by rw [List.mem_singleton.mp h]; exact kS
              refine ⟨p1, b, _, _, rfl, rfl, h1, h2, by rw [List.length_map]; exact line5 (by show 1 + _ ≤ _; omega), fun e => (by cases e), fun _ _ => ⟨p1, ["strange9"], rfl, g', h1, o1⟩, fun _ _ p hp => ⟨p, "strange9" :: ys, rfl, g'.trans (Go.new g'.1 hp), SqT.of (by rw [upd_same]; rfl), fun s h => ?_⟩⟩
              rcases List.mem_cons.mp h with rfl | h
              · exact kS
              · exact o s h
            refine ⟨_, rfl, 1, rfl, ps, _, rfl, hpT3, fun hw => ?_, fun hw p hp => ?_⟩
            · refine catA_mono (fin H3 ps sh g13 (SqT.of hp11) hpT3 okS okL) ?_
              rintro x H4 ⟨p, ss, rfl, g4, h4, o4⟩
              exact ⟨p, ss, rfl, g4, h4, o4⟩
            · have ec : cutV (sh.map V.str) (some 1) none = (sh.drop (min 1 sh.length)).map V.str := by
                rw [List.map_drop]
                have := cut_from (sh.map V.str) 1
                rw [List.length_map] at this
                exact this
              rw [ec]
              refine catA_mono (fin (upd H3 p (.tup ((sh.drop (min 1 sh.length)).map V.str))) p (sh.drop (min 1 sh.length)) (g13.trans (Go.new g13.1 hp)) (SqT.of (same_new hp _ _ hp11)) (SqT.of upd_same) (fun s h => okS s (List.mem_of_mem_drop h)) (by rw [List.length_drop]; omega)) ?_
              rintro x H4 ⟨p, ss, rfl, g4, h4, o4⟩
              exact ⟨p, ss, rfl, g4, h4, o4⟩
    · rintro σ H3 ⟨p, ss, rfl, g3, hp, okS'⟩
      have hL3 := g3.2 _ _ hL LD
      refine ⟨_, rfl, _, rfl, _, rfl, L, xs, rfl, SqL.of hL3, fun l1 hl1 => ?_⟩
      have e1 : cutV xs none (some at_) = xs.take at_.toNat := by
        have := cut_k xs at_.toNat
        rw [show ((at_.toNat : Nat) : Int) = at_ by omega] at this
        exact this
      have e2 : cutV xs (some (at_ + 1)) none = xs.drop (at_.toNat + 1) := by
        have := cut_from xs (at_.toNat + 1)
        rw [show ((at_.toNat + 1 : Nat) : Int) = at_ + 1 by omega, Nat.min_eq_left (by omega)] at this
        exact this
      rw [e1]
      have s1 := same_new (o := .lst (xs.take at_.toNat)) hl1
      have h11 := upd_same (H := H3) (a := l1) (o := .lst (xs.take at_.toNat))
      generalize upd H3 l1 (.lst (xs.take at_.toNat)) = H4 at s1 h11
      refine ⟨_, rfl, by show 1 ≤ sizeLine; decide, fun l2 hl2 => ?_⟩
      have s2 := s1.trans (same_new (o := .lst [V.ref p]) hl2)
      have h12 := same_new (o := .lst [V.ref p]) hl2 _ _ h11
      have h22 := upd_same (H := H4) (a := l2) (o := .lst [V.ref p])
      generalize upd H4 l2 (.lst [V.ref p]) = H5 at s2 h12 h22
      refine ⟨l1, l2, _, _, rfl, rfl, h12, h22, by rw [List.length_take]; exact line5 (by show _ + 1 ≤ _; omega), fun l3 hl3 => ?_⟩
      have s3 := s2.trans (same_new (o := .lst (xs.take at_.toNat ++ [.ref p])) hl3)
      have h33 := upd_same (H := H5) (a := l3) (o := .lst (xs.take at_.toNat ++ [.ref p]))
      generalize upd H5 l3 (.lst (xs.take at_.toNat ++ [.ref p])) = H6 at s3 h33
      refine ⟨_, rfl, _, rfl, _, _, rfl, rfl, _, rfl, L, xs, rfl, SqL.of (s3 _ _ hL3), fun l4 hl4 => ?_⟩
      rw [e2]
      have s4 := s3.trans (same_new (o := .lst (xs.drop (at_.toNat + 1))) hl4)
      have h34 := same_new (o := .lst (xs.drop (at_.toNat + 1))) hl4 _ _ h33
      have h44 := upd_same (H := H6) (a := l4) (o := .lst (xs.drop (at_.toNat + 1)))
      generalize upd H6 l4 (.lst (xs.drop (at_.toNat + 1))) = H7 at s4 h34 h44
      refine ⟨l3, l4, _, _, rfl, rfl, h34, h44, ?_, fun l5 hl5 => ?_⟩
      · rw [List.length_append, List.length_take, List.length_drop]
        exact line5 (by show min _ _ + 1 + _ ≤ _; omega)
      have s5 := s4.trans (same_new (o := .lst (xs.take at_.toNat ++ [.ref p] ++ xs.drop (at_.toNat + 1))) hl5)
      have g5 := g3.trans (Go.same g3.1 s5)
      have k5 := Go.keepT d g5
      have hA5 := dpA_keep k5 _ _ (noLs_sh row) hA
      have l5H : H l5 = none := by
        have g4 := g3.trans (Go.same g3.1 s4)
        exact g4.free d hl5
      refine q _ l5 _ (row.take at_.toNat ++ [ss] ++ row.drop (at_.toNat + 1)) g5 (.inr l5H) (d.free l5H).1 upd_same ?_ (fun s h => ?_) ?_
      · rw [List.map_append, List.map_append, List.map_take, List.map_drop]
        refine dpA_app (dpA_app (dpA_take _ hA5) (.cons ?_ .nil)) (dpA_drop _ hA5)
        exact sh_of (same_t s5 hp)
      · rcases List.mem_append.mp h with h | h
        · rcases List.mem_append.mp h with h | h
          · exact (hsh s (List.mem_of_mem_take h)).1
          · rw [List.mem_singleton.mp h]
            exact okS'
        · exact (hsh s (List.mem_of_mem_drop h)).1
      · rw [List.length_append, List.length_append, List.length_take, List.length_drop]
        show min _ _ + 1 + _ ≤ 50
        omega
end
end Mt
namespace Mt
open PySem PySem.Spec PyProof.Rows L2
/-- a row of shown that stands as a list -/
structure RowAt (K : PySem.W.Frag) (D : Addr) (H : Hp) (e : Addr × List (List Str)) : Prop where
  ex : ∃ xs, H e.1 = some (.lst xs) ∧ DpAll K H xs (e.2.map dSh)
  ok : ∀ sh ∈ e.2, ShOk sh
  len : e.2.length ≤ 50
  ne : e.1 ≠ D
theorem RowAt.go {K : PySem.W.Frag} {S D : Addr} {H H' : Hp} {e : Addr × List (List Str)} (r : RowAt K D H e) (d : DrawAt S D H) (g : Go S D H H') : RowAt K D H' e := by
  obtain ⟨xs, h1, h2⟩ := r.ex
  exact ⟨⟨xs, g.2 _ _ h1 r.ne, dpA_keep (Go.keepT d g) _ _ (noLs_sh e.2) h2⟩, r.ok, r.len, r.ne⟩
theorem RowAt.mut {K : PySem.W.Frag} {D R : Addr} {H : Hp} {e : Addr × List (List Str)} {l : List V} {o : HO} (r : RowAt K D H e) (n : e.1 ≠ R) (h : H R = some (.lst l)) : RowAt K D (upd H R o) e := by
  obtain ⟨xs, h1, h2⟩ := r.ex
  exact ⟨⟨xs, by rw [upd_ne n]; exact h1, dpA_keep (keepT_nt (nt_lst _) h) _ _ (noLs_sh e.2) h2⟩, r.ok, r.len, r.ne⟩
def WebsOk (K : PySem.W.Frag) (H : Hp) (ws : List V) : Prop := ws.length = 2 ∧ ∀ v ∈ ws, ∃ W, Dp K H v (dWeb W) ∧ WebOk W
theorem WebsOk.keep {K : PySem.W.Frag} {H H' : Hp} {ws : List V} (h : WebsOk K H ws) (k : KeepT H H') : WebsOk K H' ws := ⟨h.1, fun v hv => let ⟨W, a, b⟩ := h.2 v hv; ⟨W, dp_keep k _ _ (dWeb_noL W) a, b⟩⟩
theorem WebsOk.at {K : PySem.W.Frag} {H : Hp} {ws : List V} (h : WebsOk K H ws) {j : Int} (h0 : 0 ≤ j) (h1 : j < 2) : ∃ v W, atI ws j = some v ∧ Dp K H v (dWeb W) ∧ WebOk W := by
  have hl : j.toNat < ws.length := by
    have := h.1
    omega
  obtain ⟨W, a, b⟩ := h.2 _ (List.getElem_mem hl)
  have := atI_nat (xs := ws) (List.getElem?_eq_getElem hl)
  rw [show ((j.toNat : Nat) : Int) = j by omega] at this
  exact ⟨_, W, this, a, b⟩
def spRows (K : PySem.W.Frag) : Sp := fun vs H Q _ => ∃ (S D L : Addr) (ws : List V), vs = [.ref D, .ref L] ∧ DrawAt S D H ∧ L ≠ D ∧ H L = some (.lst ws) ∧ WebsOk K H ws ∧
  ∀ (H' : Hp) (R : Addr) (rws : List (Addr × List (List Str))), Go S D H H' → H R = none → H' R = some (.lst (rws.map fun e => V.ref e.1)) → (∀ e ∈ rws, RowAt K D H' e ∧ H e.1 = none) → rws.length ≤ 100 → Q (.ref R) H'
/-- the rows that are there so far -/
structure RowsS (K : PySem.W.Frag) (S D R : Addr) (H0 H : Hp) (rws : List (Addr × List (List Str))) : Prop where
  g : Go S D H0 H
  at_ : H R = some (.lst (rws.map fun e => V.ref e.1))
  row : ∀ e ∈ rws, RowAt K D H e ∧ e.1 ≠ R ∧ H0 e.1 = none
theorem RowsS.go {K : PySem.W.Frag} {S D R : Addr} {H0 H H' : Hp} {rws : List (Addr × List (List Str))} (r : RowsS K S D R H0 H rws) (n : R ≠ D) (g : Go S D H H') : RowsS K S D R H0 H' rws :=
  ⟨r.g.trans g, g.2 _ _ r.at_ n, fun e he => ⟨(r.row e he).1.go r.g.1 g, (r.row e he).2⟩⟩
theorem RowsS.add {K : PySem.W.Frag} {S D R : Addr} {H0 H : Hp} {rws : List (Addr × List (List Str))} {e : Addr × List (List Str)} (r : RowsS K S D R H0 H rws) (d : DrawAt S D H0) (h0 : H0 R = none) (he : RowAt K D H e) (hn : e.1 ≠ R) (hf : H0 e.1 = none) :
    RowsS K S D R H0 (upd H R (.lst (rws.map (fun e => V.ref e.1) ++ [V.ref e.1]))) (rws ++ [e]) := by
  refine ⟨goU h0 d r.g, by rw [upd_same, List.map_append]; rfl, fun x hx => ?_⟩
  rcases List.mem_append.mp hx with h | h
  · exact ⟨(r.row x h).1.mut (r.row x h).2.1 r.at_, (r.row x h).2⟩
  · rw [List.mem_singleton.mp h]
    exact ⟨he.mut hn r.at_, hn, hf⟩
section
variable {P : Program} {w : World} {K : PySem.W.Frag} {mg : Str → Option Value} {base : Heap}
theorem ok__law_rows (T : Txt K mg) (D__law_draw : Kept P w K mg base 1 "_law_draw" ["d", "many"] spDraw) (D__law_pick : Kept P w K mg base 2 "_law_pick" ["d", "row"] (spPick K)) (D__law_rare : Kept P w K mg base 2 "_law_rare" ["d", "many"] spRare) (D__law_walked : Kept P w K mg base 3 "_law_walked" ["d", "web", "many"] (spWalked K)) (D__law_bent_row : Kept P w K mg base 3 "_law_bent_row" ["d", "web", "row"] (spBent K)) {f : Addr} {fd : FuncData} (F : FnP K "_law_rows" s__law_rows f fd) : FnOk P w K mg base CX0 4 f fd ["d", "webs"] (spRows K) := by
  refine F.ok sc__law_rows (fun vs H Q E h => ?_) (fun cdv A outer s H vs Q E hr h => ?_)
  · obtain ⟨S, D, L, ws, rfl, _⟩ := h
    rfl
  · obtain ⟨S, D, L, ws, rfl, d, LD, hL, hw, q⟩ := h
    refine ⟨_, PSs.nox (pss_cons (ps_set (i := 2) sc__law_rows.nd rfl (Or.inl rfl) (pe_lst (pa_cons (pe_lst pa_nil) pa_nil)))
      (pss_cons (ps_for PassesOwn.never rfl (pi_range1 (by rfl) T.b_range (pa_cons pe_int pa_nil)) (pg_name (i := 3) sc__law_rows.nd rfl (Or.inl rfl)) (pss_cons (ps_set (i := 4) sc__law_rows.nd rfl (Or.inl rfl) (pe_d D__law_draw (hr.mono (by decide)) (by rfl) (pa_cons (pv 0) (pa_cons pe_int pa_nil))))
      (Evl.pss_cut (ps_if (PW.pt (pw_and (pt_cmpR op_eq (pv 3) pe_int (nomark _)) (pw_and1 (pt_val (pe_d D__law_rare (hr.mono (by decide)) (by rfl) (pa_cons (pv 0) (pa_cons pe_int pa_nil))))))) (pss_one (ps_set (i := 4) sc__law_rows.nd rfl (Or.inl rfl) pe_int)) pss_nil)
      (pss_cons (ps_set (i := 5) sc__law_rows.nd rfl (Or.inl rfl) (pe_d D__law_walked (hr.mono (by decide)) (by rfl) (pa_cons (pv 0) (pa_cons (pe_ix (ixL (K := K) rfl) (pv 1) (pe_op op_fdivW (pv 3) pe_int) (fun _ _ => rfl)) (pa_cons (pv 4) pa_nil)))))
      (Evl.pss_cut (ps_if (pt_cmpR op_eq (pe_d D__law_draw (hr.mono (by decide)) (by rfl) (pa_cons (pv 0) (pa_cons pe_int pa_nil))) pe_int (nomark _)) (pss_one (ps_set (i := 5) sc__law_rows.nd rfl (Or.inl rfl) (pe_d D__law_bent_row (hr.mono (by decide)) (by rfl) (pa_cons (pv 0) (pa_cons (pe_ix ix_list (pv 1) (pe_op op_sub pe_int (pe_op op_fdivW (pv 3) pe_int)) (fun _ _ => rfl)) (pa_cons (pv 5) pa_nil)))))) pss_nil)
      (pss_one (ps_expr (pe_bm PySem.F.plainAttrs_list PySem.F.slot_list_append PySem.F.type_list_append mt_append (pv 2) (pa_cons (pv 5) pa_nil)))))))))
      (pss_cons (ps_setLc (i := 6) (own := [("k", 3)]) (g := (gName 3)) (tt := tYes) rfl sc__law_rows.nd rfl rfl (sw_true rfl rfl rfl (by decide +kernel)) (pi_range1 (by rfl) T.b_range (pa_cons pe_int pa_nil)) (blkOk_by (N := N__law_rows) (sc := defScope s__law_rows) (by decide +kernel)) (fun _ _ _ _ _ => (pg_name (i := 3) sc__law_rows.nd rfl (Or.inl rfl))) (fun _ _ _ _ _ => pts_nil) (fun _ _ _ _ _ => (pe_ix (ixT (K := K) rfl) (pe_d D__law_pick (hr.mono (by decide)) (by rfl) (pa_cons (pv 0) (pa_cons (pe_d D__law_pick (hr.mono (by decide)) (by rfl) (pa_cons (pv 0) (pa_cons (pe_ix (ixT (K := K) rfl) (pe_ix (ixL (K := K) rfl) (pv 1) (pe_op op_fdivW (pv 3) pe_int) (fun _ _ => rfl)) pe_int (fun _ _ => rfl)) pa_nil))) pa_nil))) pe_int (fun _ _ => rfl))))
      (pss_cons (ps_for PassesOwn.never rfl (pi_list (pv 6)) (pg_name (i := 7) sc__law_rows.nd rfl (Or.inl rfl)) (pss_cons (ps_expr (pe_bm PySem.F.plainAttrs_list PySem.F.slot_list_append PySem.F.type_list_append mt_append (pv 2) (pa_cons (pe_lst (pa_cons (pv 7) pa_nil)) pa_nil)))
      (pss_one (ps_for PassesOwn.never rfl (pi_list (pe_slice sl_list (pv 6) po_none (po_some pe_int))) (pg_name (i := 8) sc__law_rows.nd rfl (Or.inl rfl)) (pss_one (ps_expr (pe_bm PySem.F.plainAttrs_list PySem.F.slot_list_append PySem.F.type_list_append mt_append (pv 2) (pa_cons (pe_lst (pa_cons (pv 7) (pa_cons (pv 8) pa_nil))) pa_nil))))))))
      (pss_one (ps_ret (pv 2))))))), ?_⟩
    refine ⟨Nat.zero_le _, fun l0 hl0 => ⟨by show 1 ≤ sizeLine; decide, fun R hR => ?_⟩⟩
    have g1 := Go.new (o := .lst []) d hl0
    have hR0 := g1.free d hR
    have RD := (d.free hR0).1
    have R0 : l0 ≠ R := fun e => by
      rw [← e, upd_same] at hR
      cases hR
    have r1 : RowsS K S D R H (upd (upd H l0 (.lst [])) R (.lst [V.ref l0])) [(l0, [])] := ⟨g1.trans (Go.new g1.1 hR), upd_same, fun e he => by
      rw [List.mem_singleton.mp he]
      exact ⟨⟨⟨[], by rw [upd_ne R0, upd_same], .nil⟩, fun _ h => absurd h List.not_mem_nil, Nat.zero_le _, (d.free hl0).1⟩, R0, hl0⟩⟩
    refine ⟨_, rfl, by decide, by decide, for_range (lo := 0) (n := 4) (fun i σ H' => ∃ (y3 y4 y5 : Option V) (rws : List (Addr × List (List Str))), σ = [some (.ref D), some (.ref L), some (.ref R), y3, y4, y5, none, none, none] ∧ RowsS K S D R H H' rws ∧ rws.length = i + 1) ⟨_, _, _, _, rfl, r1, rfl⟩ ?_ ?_⟩
    · rintro i σ H1 hi ⟨y3, y4, y5, rws, rfl, r, hl⟩
      refine ⟨_, rfl, S, D, 7, rfl, divW_of (by decide) (by decide), r.g.1, fun H2 m m0 m1 g2 => ?_⟩
      have r2 := r.go RD g2
      refine ⟨fun σ' H' => ∃ mm : Int, σ' = [some (.ref D), some (.ref L), some (.ref R), some (.int (0 + (i : Int))), some (.int mm), y5, none, none, none] ∧ 0 ≤ mm ∧ mm ≤ 40 ∧ RowsS K S D R H H' rws, ?_, ?_⟩
      · have yes : ∀ H3, RowsS K S D R H H3 rws → ∃ mm : Int, [some (V.ref D), some (V.ref L), some (V.ref R), some (V.int (0 + (i : Int))), some (V.int 40), y5, none, none, none] = [some (V.ref D), some (V.ref L), some (V.ref R), some (V.int (0 + (i : Int))), some (V.int mm), y5, none, none, none] ∧ 0 ≤ mm ∧ mm ≤ 40 ∧ RowsS K S D R H H3 rws := fun H3 r3 => ⟨40, rfl, by decide, by decide, r3⟩
        have no : ∀ H3, RowsS K S D R H H3 rws → ∃ mm : Int, [some (V.ref D), some (V.ref L), some (V.ref R), some (V.int (0 + (i : Int))), some (V.int m), y5, none, none, none] = [some (V.ref D), some (V.ref L), some (V.ref R), some (V.int (0 + (i : Int))), some (V.int mm), y5, none, none, none] ∧ 0 ≤ mm ∧ mm ≤ 40 ∧ RowsS K S D R H H3 rws := fun H3 r3 => ⟨m, rfl, by omega, by omega, r3⟩
        refine ⟨_, rfl, rfl, _, rfl, ?_⟩
        refine ite2 (fun _ => ?_) (fun _ => ?_)
        · refine ⟨_, rfl, S, D, 9, rfl, by decide, by decide, r2.g.1, fun H3 b g3 => ⟨b, rfl, ?_⟩⟩
          exact ite2 (fun _ => yes _ (r2.go RD g3)) (fun _ => no _ (r2.go RD g3))
        · exact no _ r2
      · rintro σ' H3 ⟨mm, rfl, mm0, mm1, r3⟩
        have hL3 := r3.g.2 _ _ hL LD
        have hw3 := hw.keep (Go.keepT d r3.g)
        obtain ⟨v, W, hv1, hv2, hv3⟩ := hw3.at (j := (0 + (i : Int)) / 2) (by omega) (by omega)
        refine ⟨_, rfl, _, rfl, _, rfl, _, _, rfl, rfl, ⟨by decide, by decide⟩, L, ws, _, _, rfl, rfl, SqL.of hL3, hv1, _, rfl, S, D, v, W, mm, rfl, r3.g.1, hv2, hv3, mm0, mm1, fun H4 Lr xs row g4 hLr0 hLr hA hsh hrl => ?_⟩
        have r4 := r3.go RD g4
        have nR : Lr ≠ R := fun e => by
          rw [e, r3.at_] at hLr0
          cases hLr0
        have nD : Lr ≠ D := (r3.g.1.free hLr0).1
        refine ⟨fun σ' H' => ∃ (Lr : Addr) (row : List (List Str)), σ' = [some (.ref D), some (.ref L), some (.ref R), some (.int (0 + (i : Int))), some (.int mm), some (.ref Lr), none, none, none] ∧ RowsS K S D R H H' rws ∧ RowAt K D H' (Lr, row) ∧ Lr ≠ R ∧ H Lr = none, ?_, ?_⟩
        · have rowat : RowAt K D H4 (Lr, row) := ⟨⟨xs, hLr, hA⟩, fun s h => (hsh s h).1, by show row.length ≤ 50; omega, nD⟩
          refine ⟨_, rfl, S, D, 2, rfl, divW_of (by decide) (by decide), g4.1, fun H5 b b0 b1 g5 => ?_⟩
          have r5 := r4.go RD g5
          refine ⟨rfl, _, rfl, ?_⟩
          refine ite2 (fun _ => ?_) (fun _ => ⟨Lr, row, rfl, r5, rowat.go g4.1 g5, nR, r3.g.free d hLr0⟩)
          have hL5 := r5.g.2 _ _ hL LD
          have hw5 := hw.keep (Go.keepT d r5.g)
          obtain ⟨v2, W2, hu1, hu2, hu3⟩ := hw5.at (j := 1 - (0 + (i : Int)) / 2) (by omega) (by omega)
          have hLr5 := g5.2 _ _ hLr nD
          refine ⟨_, rfl, _, rfl, _, rfl, _, _, rfl, rfl, ⟨by decide, by decide⟩, _, _, rfl, rfl, L, ws, _, _, rfl, rfl, SqL.of hL5, hu1, _, rfl, S, D, Lr, v2, W2, xs, row, rfl, g5.1, hu2, hu3, nD, hLr5, dpA_keep (Go.keepT g4.1 g5) _ _ (noLs_sh row) hA, hsh, by omega, fun H6 L' xs' row' g6 hor nD' hL' hA' hsh' hl' => ?_⟩
          refine ⟨L', row', rfl, r5.go RD g6, ⟨⟨xs', hL', hA'⟩, hsh', hl', nD'⟩, fun e => ?_, ?_⟩
          · rcases hor with h | h
            · exact nR (by rw [← h, e])
            · rw [e, r5.at_] at h
              cases h
          · rcases hor with h | h
            · rw [h]
              exact r3.g.free d hLr0
            · exact r5.g.free d h
        · rintro σ' H5 ⟨Lr, row, rfl, r5, ra, nR, hf⟩
          refine ⟨_, rfl, .inl ⟨rfl, _, SqL.of r5.at_⟩, _, rfl, R, _, _, rfl, rfl, r5.at_, by rw [List.length_map]; exact line6 (by omega), _, _, _, rws ++ [(Lr, row)], rfl, r5.add d hR0 ra nR hf, by rw [List.length_append, List.length_singleton, hl]⟩
    · rintro σ H1 ⟨y3, y4, y5, rws, rfl, r, hl⟩
      refine ⟨_, rfl, by decide, by decide, fun Ll hLl => lc_range (lo := 0) (n := 3) (fun j H' => ∃ (zs : List V) (shs : List (List Str)), RowsS K S D R H H' rws ∧ H' Ll = some (.lst zs) ∧ DpAll K H' zs (shs.map dSh) ∧ (∀ sh ∈ shs, ShOk sh) ∧ shs.length = j) ⟨[], [], r.go RD (Go.new r.g.1 hLl), upd_same, .nil, fun _ h => absurd h List.not_mem_nil, rfl⟩ ?_ ?_⟩
      · rintro j H2 hj ⟨zs, shs, r2, hLl2, hA2, hs2, hl2⟩
        have LlD := (r.g.1.free hLl).1
        have LlH := r.g.free d hLl
        have hL2 := r2.g.2 _ _ hL LD
        have hw2 := hw.keep (Go.keepT d r2.g)
        obtain ⟨v, W, hv1, hv2, ok⟩ := hw2.at (j := (0 + (j : Int)) / 2) (by omega) (by omega)
        obtain ⟨pw, pq, qs, rfl, hw1, hwq, hwA⟩ := web_at hv2
        have zl := dpA_len hwA
        rw [List.length_map] at zl
        have few := ok.few
        have pos := ok.pos
        refine ⟨rfl, _, rfl, _, rfl, _, rfl, _, rfl, _, _, rfl, rfl, ⟨by decide, by decide⟩, L, ws, _, _, rfl, rfl, SqL.of hL2, hv1, pw, _, _, _, rfl, rfl, hw1, atI_nat (j := 1) rfl, S, D, .ref pq, qs, rfl, r2.g.1, fun H' g' => .inr (.inr ⟨pq, rfl, sqt_keep (Go.keepT r2.g.1 g') hwq⟩), by omega, by omega, fun H3 x hx3 g3 => ?_⟩
        obtain ⟨jx, hjx⟩ := List.mem_iff_getElem?.mp hx3
        obtain ⟨rr, hr1, hr2⟩ := dpA_mem hwA hjx
        obtain ⟨r0, r3, rok⟩ := ok.row rr (List.mem_of_getElem? hr1)
        obtain ⟨pr, ys, rfl, hrT, hrA⟩ := dp_tup (dp_keep (Go.keepT r2.g.1 g3) _ _ (dRow_noL rr) hr2)
        have yl := dpA_len hrA
        rw [List.length_map] at yl
        refine ⟨S, D, .ref pr, ys, rfl, g3.1, fun H' g' => .inr (.inr ⟨pr, rfl, sqt_keep (Go.keepT g3.1 g') hrT⟩), by omega, by omega, fun H4 x hx4 g4 => ?_⟩
        obtain ⟨jy, hjy⟩ := List.mem_iff_getElem?.mp hx4
        obtain ⟨a, ha, hy⟩ := dpA_mem hrA hjy
        have oka := rok a (List.mem_of_getElem? ha)
        obtain ⟨pa, x0, x2, rfl, haT, ha0, ha2⟩ := arc_at (dp_keep (Go.keepT g3.1 g4) _ _ (dArc_noL a) hy)
        have g34 := g3.trans g4
        have r4 := r2.go RD g34
        have hLl4 := g34.2 _ _ hLl2 LlD
        have kL := keepT_nt (o := .lst (zs ++ [x0])) (nt_lst _) hLl4
        have z2 := dpA_len hA2
        rw [List.length_map] at z2
        refine ⟨pa, _, _, _, rfl, rfl, haT, atI_nat (j := 0) rfl, _, hLl4, line6 (by omega), zs ++ [x0], shs ++ [a.1], ⟨goU LlH d r4.g, ?_, fun e he => ⟨(r4.row e he).1.mut ?_ hLl4, (r4.row e he).2⟩⟩, upd_same, ?_, fun sh h => ?_, by rw [List.length_append, List.length_singleton, hl2]⟩
        · rw [upd_ne (ne_of_none r.at_ hLl)]
          exact r4.at_
        · obtain ⟨_, he1, _⟩ := (r.row e he).1.ex
          exact ne_of_none he1 hLl
        · rw [List.map_append]
          exact dpA_snoc (dpA_keep kL _ _ (noLs_sh shs) (dpA_keep (Go.keepT r2.g.1 g34) _ _ (noLs_sh shs) hA2)) (dp_keep kL _ _ (dSh_noL _) ha0)
        · rcases List.mem_append.mp h with h | h
          · exact hs2 sh h
          · rw [List.mem_singleton.mp h]
            exact oka.sh
      · rintro H2 ⟨zs, shs, r2, hLl2, hA2, hs2, hl2⟩
        have LlD := (r.g.1.free hLl).1
        have LlR : Ll ≠ R := (ne_of_none r.at_ hLl).symm
        have zl := dpA_len hA2
        rw [List.length_map] at zl
        refine ⟨_, rfl, Ll, rfl, ⟨_, SqL.of hLl2⟩, for_list (K := K) (a := Ll) (xs := zs) (fun i σ H' => ∃ (y3 y7 y8 : Option V) (rws : List (Addr × List (List Str))), σ = [some (.ref D), some (.ref L), some (.ref R), y3, y4, y5, some (.ref Ll), y7, y8] ∧ RowsS K S D R H H' rws ∧ H' Ll = some (.lst zs) ∧ DpAll K H' zs (shs.map dSh) ∧ rws.length ≤ 5 + 3 * i) ⟨_, _, _, _, rfl, r2, hLl2, hA2, by omega⟩ (fun i σ H' _ ⟨_, _, _, _, _, _, h, _⟩ => SqL.of h) ?_ ?_⟩
        · rintro i x σ H3 hi ⟨y3', y7, y8, rw3, rfl, r3, hLl3, hA3, hl3⟩
          have iz := (List.getElem?_eq_some_iff.mp hi).1
          obtain ⟨sh, hs1, hx⟩ := dpA_mem hA3 hi
          have okS := hs2 sh (List.mem_of_getElem? hs1)
          refine ⟨_, rfl, .inl ⟨rfl, _, SqL.of r3.at_⟩, _, rfl, by show 1 ≤ sizeLine; decide, fun l1 hl1 => ?_⟩
          have g4 := Go.new (o := .lst [x]) r3.g.1 hl1
          have r4 := r3.go RD g4
          have k4 := Go.keepT r3.g.1 g4
          have h11 := upd_same (H := H3) (a := l1) (o := .lst [x])
          have hLl4 := g4.2 _ _ hLl3 LlD
          have hA4 := dpA_keep k4 _ _ (noLs_sh shs) hA3
          have hx4 := dp_keep k4 _ _ (dSh_noL sh) hx
          have l1R : l1 ≠ R := (ne_of_none r3.at_ hl1).symm
          have l1D := (r3.g.1.free hl1).1
          generalize upd H3 l1 (.lst [x]) = H4 at g4 r4 k4 h11 hLl4 hA4 hx4
          have ra : RowAt K D H4 (l1, [sh]) := ⟨⟨[x], h11, .cons hx4 .nil⟩, fun s h => by rw [List.mem_singleton.mp h]; exact okS, by show 1 ≤ 50; decide, l1D⟩
          refine ⟨R, _, _, rfl, rfl, r4.at_, by rw [List.length_map]; exact line6 (by omega), ?_⟩
          have r5 := r4.add d hR0 ra l1R (r3.g.free d hl1)
          have kR := keepT_nt (o := .lst (rw3.map (fun e => V.ref e.1) ++ [V.ref l1])) (nt_lst _) r4.at_
          have hLl5 : (upd H4 R (.lst (rw3.map (fun e => V.ref e.1) ++ [V.ref l1]))) Ll = some (.lst zs) := by rw [upd_ne LlR]; exact hLl4
          have hA5 := dpA_keep kR _ _ (noLs_sh shs) hA4
          generalize upd H4 R (.lst (rw3.map (fun e => V.ref e.1) ++ [V.ref l1])) = H5 at r5 hLl5 hA5
          refine ⟨_, rfl, 2, rfl, Ll, zs, rfl, SqL.of hLl5, fun l2 hl2' => ?_⟩
          have ec : cutV zs none (some 2) = zs.take 2 := cut_k zs 2
          rw [ec]
          have g6 := Go.new (o := .lst (zs.take 2)) r5.g.1 hl2'
          have r6 := r5.go RD g6
          have h26 := upd_same (H := H5) (a := l2) (o := .lst (zs.take 2))
          have hLl6 := g6.2 _ _ hLl5 LlD
          have hA6 := dpA_keep (Go.keepT r5.g.1 g6) _ _ (noLs_sh shs) hA5
          have l2R : l2 ≠ R := (ne_of_none r5.at_ hl2').symm
          have l2D := (r5.g.1.free hl2').1
          generalize upd H5 l2 (.lst (zs.take 2)) = H6 at g6 r6 h26 hLl6 hA6
          refine ⟨l2, rfl, ⟨_, SqL.of h26⟩, for_list (K := K) (a := l2) (xs := zs.take 2) (fun j σ H' => ∃ (y8 : Option V) (rws : List (Addr × List (List Str))), σ = [some (.ref D), some (.ref L), some (.ref R), y3', y4, y5, some (.ref Ll), some x, y8] ∧ RowsS K S D R H H' rws ∧ H' Ll = some (.lst zs) ∧ H' l2 = some (.lst (zs.take 2)) ∧ DpAll K H' zs (shs.map dSh) ∧ rws.length ≤ 6 + 3 * i + j) ⟨_, _, rfl, r6, hLl6, h26, hA6, by rw [List.length_append, List.length_singleton]; omega⟩ (fun i σ H' _ ⟨_, _, _, _, _, h, _⟩ => SqL.of h) ?_ ?_⟩
          · rintro j y σ H7 hj ⟨y8', rw7, rfl, r7, hLl7, h27, hA7, hl7⟩
            have jz := (List.getElem?_eq_some_iff.mp hj).1
            rw [List.length_take] at jz
            rw [List.getElem?_take] at hj
            split at hj
            · obtain ⟨sh2, hs3, hy⟩ := dpA_mem hA7 hj
              obtain ⟨x', hx1, hx2⟩ := dpA_get hA7 hs1
              rw [hi] at hx1
              obtain rfl : x = x' := Option.some.inj hx1
              have okS2 := hs2 sh2 (List.mem_of_getElem? hs3)
              refine ⟨_, rfl, .inl ⟨rfl, _, SqL.of r7.at_⟩, _, rfl, _, rfl, by show 2 ≤ sizeLine; decide, fun l3 hl3' => ?_⟩
              have g8 := Go.new (o := .lst [x, y]) r7.g.1 hl3'
              have r8 := r7.go RD g8
              have k8 := Go.keepT r7.g.1 g8
              have h38 := upd_same (H := H7) (a := l3) (o := .lst [x, y])
              have hLl8 := g8.2 _ _ hLl7 LlD
              have h28 := g8.2 _ _ h27 l2D
              have hA8 := dpA_keep k8 _ _ (noLs_sh shs) hA7
              have hx8 := dp_keep k8 _ _ (dSh_noL sh) hx2
              have hy8 := dp_keep k8 _ _ (dSh_noL sh2) hy
              have l3R : l3 ≠ R := (ne_of_none r7.at_ hl3').symm
              have l3D := (r7.g.1.free hl3').1
              generalize upd H7 l3 (.lst [x, y]) = H8 at g8 r8 k8 h38 hLl8 h28 hA8 hx8 hy8
              have ra : RowAt K D H8 (l3, [sh, sh2]) := ⟨⟨[x, y], h38, .cons hx8 (.cons hy8 .nil)⟩, fun s h => by
                rcases List.mem_cons.mp h with rfl | h
                · exact okS
                · rw [List.mem_singleton.mp h]
                  exact okS2, by show 2 ≤ 50; decide, l3D⟩
              have kR := keepT_nt (o := .lst (rw7.map (fun e => V.ref e.1) ++ [V.ref l3])) (nt_lst _) r8.at_
              refine ⟨R, _, _, rfl, rfl, r8.at_, by rw [List.length_map]; exact line6 (by omega), _, rw7 ++ [(l3, [sh, sh2])], rfl, r8.add d hR0 ra l3R (r7.g.free d hl3'), by rw [upd_ne LlR]; exact hLl8, by rw [upd_ne l2R]; exact h28, dpA_keep kR _ _ (noLs_sh shs) hA8, by rw [List.length_append, List.length_singleton]; omega⟩
            · cases hj
          · rintro σ H7 ⟨y8', rw7, rfl, r7, hLl7, h27, hA7, hl7⟩
            refine ⟨_, _, _, rw7, rfl, r7, hLl7, hA7, ?_⟩
            rw [List.length_take] at hl7
            omega
        · rintro σ H3 ⟨y3', y7, y8, rw3, rfl, r3, hLl3, hA3, hl3⟩
          exact ⟨_, rfl, q H3 R rw3 r3.g hR0 r3.at_ (fun e he => ⟨(r3.row e he).1, (r3.row e he).2.2⟩) (by omega)⟩
end
end Mt
namespace Mt
open PySem PySem.Spec PyProof.Rows L2
theorem pool_ok : ∀ z ∈ POOL, PyData.strOk z = true := by
  have : (POOL.all fun z => PyData.strOk z) = true := by decide +kernel
  exact List.all_eq_true.mp this
structure AskAt (K : PySem.W.Frag) (H : Hp) (x : V) : Prop where
  ex : ∃ pa v pt pd W xs row f, x = V.ref pa ∧ SqT K H pa [v, .ref pt, .ref pd] ∧ Dp K H v (dWeb W) ∧ WebOk W ∧ SqT K H pt xs ∧ DpAll K H xs (row.map dSh) ∧ (∀ sh ∈ row, ShOk sh) ∧ row.length ≤ 50 ∧ SqT K H pd (tupV f) ∧ Fr f (Bk W row 0) (Mk row.length)
theorem AskAt.keep {K : PySem.W.Frag} {H H' : Hp} {x : V} (h : AskAt K H x) (k : KeepT H H') : AskAt K H' x := by
  obtain ⟨pa, v, pt, pd, W, xs, row, f, e, h1, h2, h3, h4, h5, h6, h7, h8, h9⟩ := h.ex
  exact ⟨pa, v, pt, pd, W, xs, row, f, e, sqt_keep k h1, dp_keep k _ _ (dWeb_noL W) h2, h3, sqt_keep k h4, dpA_keep k _ _ (noLs_sh row) h5, h6, h7, sqt_keep k h8, h9⟩
section
variable {P : Program} {w : World} {K : PySem.W.Frag} {mg : Str → Option Value} {base : Heap}
theorem ok_law (T : Txt K mg) (D_chance_of : Kept P w K mg base 4 "chance_of" ["web", "row"] (spChance K)) (D__law_begin : Kept P w K mg base 1 "_law_begin" ["script"] (spBegin K)) (D__law_draw : Kept P w K mg base 1 "_law_draw" ["d", "many"] spDraw) (D__law_pop : Kept P w K mg base 2 "_law_pop" ["d", "row"] spPop) (D__law_rare : Kept P w K mg base 2 "_law_rare" ["d", "many"] spRare) (D__law_pool : Kept P w K mg base 1 "_law_pool" [] spPool) (D__law_is_frac : Kept P w K mg base 3 "_law_is_frac" ["thing"] (spIsFrac K)) (D__law_drawn_web : Kept P w K mg base 4 "_law_drawn_web" ["d", "states", "marks"] (spDWeb K)) (D__law_backwards : Kept P w K mg base 4 "_law_backwards" ["web", "row"] (spBack K)) (D__law_rows : Kept P w K mg base 4 "_law_rows" ["d", "webs"] (spRows K)) {f : Addr} {fd : FuncData} (F : FnP K "law" s_law f fd) : FnOk P w K mg base CX0 5 f fd ["script"] (spLaw K) := by
  refine F.ok sc_law (fun vs H Q E h => ?_) (fun cdv A outer s H vs Q E hr h => ?_)
  · obtain ⟨a, ns, rfl, _⟩ := h
    rfl
  · obtain ⟨a, ns, rfl, hS, hl, q⟩ := h
    refine ⟨_, PSs.nox (pss_cons (ps_set (i := 1) sc_law.nd rfl (Or.inr rfl) (pe_d D__law_begin (hr.mono (by decide)) (by rfl) (pa_cons (pv 0) pa_nil)))
      (pss_cons (ps_set (i := 2) sc_law.nd rfl (Or.inr rfl) (pe_d0 D__law_pool (hr.mono (by decide)) (by rfl)))
      (pss_cons (ps_setLc (i := 3) (own := [("k", 4)]) (g := (gName 4)) (tt := tYes) rfl sc_law.nd rfl rfl (sw_true rfl rfl rfl (by decide +kernel)) (pi_range1 (by rfl) T.b_range (pa_cons (pe_op op_add pe_int (pe_d D__law_draw (hr.mono (by decide)) (by rfl) (pa_cons (pv 1) (pa_cons pe_int pa_nil)))) pa_nil)) (blkOk_by (N := N_law) (sc := defScope s_law) (by decide +kernel)) (fun _ _ _ _ _ => (pg_name (i := 4) sc_law.nd rfl (Or.inl rfl))) (fun _ _ _ _ _ => pts_nil) (fun _ _ _ _ _ => (pe_d D__law_pop (hr.mono (by decide)) (by rfl) (pa_cons (pv 1) (pa_cons (pv 2) pa_nil)))))
      (pss_cons (ps_set (i := 5) sc_law.nd rfl (Or.inl rfl) (pe_lst pa_nil))
      (pss_cons (ps_for PassesOwn.never rfl (pi_range1 (by rfl) T.b_range (pa_cons pe_int pa_nil)) (pg_name (i := 4) sc_law.nd rfl (Or.inl rfl)) (pss_cons (ps_set (i := 6) sc_law.nd rfl (Or.inl rfl) (pe_op op_add pe_int (pe_d D__law_draw (hr.mono (by decide)) (by rfl) (pa_cons (pv 1) (pa_cons pe_int pa_nil)))))
      (Evl.pss_cut (ps_if (pt_val (pe_d D__law_rare (hr.mono (by decide)) (by rfl) (pa_cons (pv 1) (pa_cons pe_int pa_nil)))) (pss_one (ps_set (i := 6) sc_law.nd rfl (Or.inl rfl) (pe_op op_add (pe_op op_add (pv 6) pe_int) (pe_d D__law_draw (hr.mono (by decide)) (by rfl) (pa_cons (pv 1) (pa_cons pe_int pa_nil)))))) pss_nil)
      (pss_one (ps_expr (pe_bm PySem.F.plainAttrs_list PySem.F.slot_list_append PySem.F.type_list_append mt_append (pv 5) (pa_cons (pe_d D__law_drawn_web (hr.mono (by decide)) (by rfl) (pa_cons (pv 1) (pa_cons (pv 6) (pa_cons (pv 3) pa_nil)))) pa_nil)))))))
      (pss_cons (ps_set (i := 7) sc_law.nd rfl (Or.inl rfl) (pe_lst pa_nil))
      (pss_cons (ps_for PassesOwn.never rfl (pi_list (pe_d D__law_rows (hr.mono (by decide)) (by rfl) (pa_cons (pv 1) (pa_cons (pv 5) pa_nil)))) (pg_name (i := 8) sc_law.nd rfl (Or.inl rfl)) (pss_one (ps_for PassesOwn.never rfl (pi_list (pv 5)) (pg_name (i := 9) sc_law.nd rfl (Or.inl rfl)) (pss_one (ps_expr (pe_bm PySem.F.plainAttrs_list PySem.F.slot_list_append PySem.F.type_list_append mt_append (pv 7) (pa_cons (pe_tup (pa_cons (pv 9) (pa_cons (pe_callTy (tupOfT (K := K) rfl) (by rfl) T.b_tuple (by decide +kernel) (pa_cons (pv 8) pa_nil)) (pa_cons (pe_d D__law_backwards (hr.mono (by decide)) (by rfl) (pa_cons (pv 9) (pa_cons (pv 8) pa_nil))) pa_nil)))) pa_nil)))))))
      (pss_cons (ps_for PassesOwn.never rfl (pi_list (pe_op op_cat (pv 7) (pe_revL (pe_slice sl_list (pv 7) po_none (po_some pe_int))))) (pg_tup rfl (pgs_cons (pg_name (i := 9) sc_law.nd rfl (Or.inl rfl)) (pgs_cons (pg_name (i := 8) sc_law.nd rfl (Or.inl rfl)) (pgs_cons (pg_name (i := 10) sc_law.nd rfl (Or.inl rfl)) pgs_nil)))) (pss_cons (ps_set (i := 11) sc_law.nd rfl (Or.inl rfl) (pe_d D_chance_of (hr.mono (by decide)) (by rfl) (pa_cons (pv 9) (pa_cons (pv 8) pa_nil))))
      (pss_one (ps_if (PW.pt (pw_or (pt_not (pt_val (pe_d D__law_is_frac (hr.mono (by decide)) (by rfl) (pa_cons (pv 11) pa_nil)))) (pw_or1 (pt_cmpR (op_neD (hr.units)) (pv 11) (pv 10) (nomark _))))) (pss_one (ps_ret pe_bl)) pss_nil))))
      (pss_one (ps_ret pe_bl)))))))))), ?_⟩
    refine ⟨_, rfl, a, ns, rfl, hS, hl, fun S D H1 s1 D0 d => ?_⟩
    refine ⟨rfl, fun Nm hNm => ?_⟩
    have d2 := d.new (o := .lst (POOL.map V.str)) hNm
    have NmD := (d.free hNm).1
    have NmS := (d.free hNm).2
    have hN2 := upd_same (H := H1) (a := Nm) (o := .lst (POOL.map V.str))
    generalize upd H1 Nm (.lst (POOL.map V.str)) = H2 at d2 hN2
    refine ⟨_, rfl, S, D, 4, rfl, divW_of (by decide) (by decide), d2, fun H3 kk k0 k1 g3 => ?_⟩
    have hN3 := g3.2 _ _ hN2 NmD
    have d3 := g3.1
    refine ⟨_, _, rfl, rfl, _, rfl, by omega, by omega, fun Lm hLm => lc_range (lo := 0) (n := (1 + kk).toNat) (fun j H' => ∃ nms ms : List Str, DrawAt S D H' ∧ H' Nm = some (.lst (nms.map V.str)) ∧ H' Lm = some (.lst (ms.map V.str)) ∧ nms.length + j = 60 ∧ ms.length = j ∧ (∀ z ∈ nms, z ∈ POOL) ∧ ∀ z ∈ ms, z ∈ POOL)
      ⟨POOL, [], d3.new hLm, same_new hLm _ _ hN3, upd_same, by rw [pool_len], rfl, fun _ h => h, fun _ h => absurd h List.not_mem_nil⟩ ?_ ?_⟩
    · rintro j H4 hj ⟨nms, ms, d4, hN4, hM4, hl4, hm4, ho1, ho2⟩
      have LmD := (d3.free hLm).1
      have LmS := (d3.free hLm).2
      have LmN : Lm ≠ Nm := (ne_of_none hN3 hLm).symm
      refine ⟨rfl, _, rfl, _, rfl, S, D, Nm, nms.map V.str, rfl, d4, NmD, hN4, by rw [List.length_map]; omega, by rw [List.length_map]; omega, fun H5 jx x g5 hx => ?_⟩
      rw [List.getElem?_map] at hx
      obtain ⟨z, hz, rfl⟩ := Option.map_eq_some_iff.mp hx
      have hjx := (List.getElem?_eq_some_iff.mp hz).1
      have ee : (nms.map V.str).eraseIdx jx = (nms.eraseIdx jx).map V.str := by
        first
          | exact List.eraseIdx_map ..
          | exact (List.map_eraseIdx ..).symm
          | simp [List.eraseIdx_eq_take_drop_succ]
      rw [ee]
      have hM5 := g5.2 _ _ hM4 LmD
      refine ⟨_, by rw [upd_ne LmN]; exact hM5, by rw [List.length_map]; exact line6 (by omega), nms.eraseIdx jx, ms ++ [z], (g5.1.upd NmD NmS).upd LmD LmS, by rw [upd_ne LmN.symm, upd_same], by rw [upd_same, List.map_append]; rfl, ?_, by rw [List.length_append, List.length_singleton, hm4], fun y hy => ho1 y (List.mem_of_mem_eraseIdx hy), fun y hy => ?_⟩
      · rw [List.length_eraseIdx_of_lt hjx]
        omega
      · rcases List.mem_append.mp hy with h | h
        · exact ho2 y h
        · rw [List.mem_singleton.mp h]
          exact ho1 z (List.mem_of_getElem? hz)
    · rintro H4 ⟨nms, ms, d4, hN4, hM4, hl4, hm4, ho1, ho2⟩
      have LmD := (d3.free hLm).1
      have okM : ShOk ms := fun z hz => pool_ok z (ho2 z hz)
      refine ⟨Nat.zero_le _, fun Lw hLw => ?_⟩
      have g5 := Go.new (o := .lst []) d4 hLw
      have LwD := (d4.free hLw).1
      have LwM : Lw ≠ Lm := (ne_of_none hM4 hLw).symm
      refine ⟨_, rfl, by decide, by decide, for_range (lo := 0) (n := 2) (fun i σ H' => ∃ (y4 y6 : Option V) (ws : List V), σ = [some (.ref a), some (.ref D), some (.ref Nm), some (.ref Lm), y4, some (.ref Lw), y6, none, none, none, none, none] ∧ Go S D H4 H' ∧ H' Lw = some (.lst ws) ∧ ws.length = i ∧ ∀ v ∈ ws, ∃ W, Dp K H' v (dWeb W) ∧ WebOk W) ⟨_, _, [], rfl, g5, upd_same, rfl, fun _ h => absurd h List.not_mem_nil⟩ ?_ ?_⟩
      · rintro i σ H5 hi ⟨y4, y6, ws, rfl, g5, hw5, hwl, hws⟩
        refine ⟨_, rfl, S, D, 5, rfl, divW_of (by decide) (by decide), g5.1, fun H6 m m0 m1 g6 => ⟨_, _, rfl, rfl, ?_⟩⟩
        refine ⟨fun σ' H' => ∃ mm : Int, σ' = [some (.ref a), some (.ref D), some (.ref Nm), some (.ref Lm), some (.int (0 + (i : Int))), some (.ref Lw), some (.int mm), none, none, none, none, none] ∧ 1 ≤ mm ∧ mm ≤ 60 ∧ Go S D H5 H', ?_, ?_⟩
        · refine ⟨_, rfl, S, D, 9, rfl, by decide, by decide, g6.1, fun H7 b g7 => ⟨b, rfl, ?_⟩⟩
          refine ite2 (fun _ => ?_) (fun _ => ⟨_, rfl, by omega, by omega, g6.trans g7⟩)
          refine ⟨_, rfl, _, _, rfl, rfl, _, rfl, S, D, 12, rfl, divW_of (by decide) (by decide), g7.1, fun H8 v v0 v1 g8 => ⟨_, _, rfl, rfl, _, rfl, by omega, by omega, (g6.trans g7).trans g8⟩⟩
        · rintro σ' H6 ⟨mm, rfl, mm0, mm1, g6⟩
          have hM6 := (g5.trans g6).2 _ _ hM4 LmD
          refine ⟨_, rfl, .inl ⟨rfl, _, SqL.of (g6.2 _ _ hw5 LwD)⟩, _, rfl, _, rfl, _, rfl, S, D, Lm, mm, ms, rfl, g6.1, LmD, hM6, by omega, by omega, okM, mm0, mm1, fun H7 v W g7 hv okW hWl => ?_⟩
          have hw7 := (g6.trans g7).2 _ _ hw5 LwD
          have kL := keepT_nt (o := .lst (ws ++ [v])) (nt_lst _) hw7
          refine ⟨Lw, ws, _, rfl, rfl, hw7, line6 (by omega), _, _, ws ++ [v], rfl, goU hLw d4 ((g5.trans g6).trans g7), upd_same, by rw [List.length_append, List.length_singleton, hwl], fun u hu => ?_⟩
          rcases List.mem_append.mp hu with h | h
          · obtain ⟨W', h1, h2⟩ := hws u h
            exact ⟨W', dp_keep kL _ _ (dWeb_noL W') (dp_keep (Go.keepT g5.1 (g6.trans g7)) _ _ (dWeb_noL W') h1), h2⟩
          · rw [List.mem_singleton.mp h]
            exact ⟨W, dp_keep kL _ _ (dWeb_noL W) hv, okW⟩
      · rintro σ H5 ⟨y4, y6, ws, rfl, g5, hw5, hwl, hws⟩
        refine ⟨Nat.zero_le _, fun La hLa => ?_⟩
        have s6 := same_new (o := .lst []) hLa
        have hLa6 := upd_same (H := H5) (a := La) (o := .lst [])
        have hw6 := s6 _ _ hw5
        have d6 := (Go.same g5.1 s6).1
        have LaD := (g5.1.free hLa).1
        have hws6 : WebsOk K (upd H5 La (.lst [])) ws := WebsOk.keep ⟨hwl, hws⟩ (KeepT.of_same s6)
        have LwLa : Lw ≠ La := ne_of_none hw5 hLa
        generalize upd H5 La (.lst []) = H6 at s6 hLa6 hw6 d6 hws6
        refine ⟨_, rfl, _, rfl, S, D, Lw, ws, rfl, d6, LwD, hw6, hws6, fun H7 R rws g7 hR0 hR hrow hrl => ?_⟩
        have hLa7 := g7.2 _ _ hLa6 LaD
        have hw7 := g7.2 _ _ hw6 LwD
        have hws7 := hws6.keep (Go.keepT d6 g7)
        have RLa : R ≠ La := fun e => by
          rw [e, hLa6] at hR0
          cases hR0
        have kT : ∀ H' : Hp, (∀ b o, b ≠ La → H7 b = some o → H' b = some o) → KeepT H7 H' := fun H' k p l h => by
          rcases h with h | ⟨ob, h⟩
          · exact .inl (k _ _ (fun e => by rw [e, hLa7] at h; cases h) h)
          · exact .inr ⟨ob, k _ _ (fun e => by rw [e, hLa7] at h; cases h) h⟩
        refine ⟨R, rfl, ⟨_, SqL.of hR⟩, for_list (K := K) (a := R) (xs := rws.map fun e => V.ref e.1) (fun i σ H' => ∃ (y8 y9 : Option V) (asks : List V), σ = [some (.ref a), some (.ref D), some (.ref Nm), some (.ref Lm), y4, some (.ref Lw), y6, some (.ref La), y8, y9, none, none] ∧ (∀ b o, b ≠ La → H7 b = some o → H' b = some o) ∧ H' La = some (.lst asks) ∧ (∀ x ∈ asks, AskAt K H' x) ∧ asks.length ≤ 2 * i) ⟨_, _, [], rfl, fun _ _ _ h => h, hLa7, fun _ h => absurd h List.not_mem_nil, Nat.zero_le _⟩ (fun i σ H' _ ⟨_, _, _, _, k, _⟩ => SqL.of (k _ _ RLa hR)) ?_ ?_⟩
        · rintro i x σ H8 hi ⟨y8, y9, asks, rfl, k8, hLa8, hk8, hl8⟩
          have iz := (List.getElem?_eq_some_iff.mp hi).1
          rw [List.length_map] at iz
          rw [List.getElem?_map] at hi
          obtain ⟨e, he, rfl⟩ := Option.map_eq_some_iff.mp hi
          obtain ⟨⟨⟨xs, hx1, hx2⟩, hx3, hx4, hx5⟩, hx6⟩ := hrow e (List.mem_of_getElem? he)
          have eLa : e.1 ≠ La := fun z => by
            rw [z, hLa6] at hx6
            cases hx6
          refine ⟨_, rfl, Lw, rfl, ⟨_, SqL.of (k8 _ _ LwLa hw7)⟩, for_list (K := K) (a := Lw) (xs := ws) (fun j σ H' => ∃ (y9 : Option V) (asks : List V), σ = [some (.ref a), some (.ref D), some (.ref Nm), some (.ref Lm), y4, some (.ref Lw), y6, some (.ref La), some (.ref e.1), y9, none, none] ∧ (∀ b o, b ≠ La → H7 b = some o → H' b = some o) ∧ H' La = some (.lst asks) ∧ (∀ x ∈ asks, AskAt K H' x) ∧ asks.length ≤ 2 * i + j) ⟨_, asks, rfl, k8, hLa8, hk8, by omega⟩ (fun i σ H' _ ⟨_, _, _, k, _⟩ => SqL.of (k _ _ LwLa hw7)) ?_ ?_⟩
          · rintro j v σ H9 hj ⟨y9', ak9, rfl, k9, hLa9, hk9, hl9⟩
            have jz := (List.getElem?_eq_some_iff.mp hj).1
            obtain ⟨W, hv, okW⟩ := hws7.2 v (List.mem_of_getElem? hj)
            have hv9 := dp_keep (kT _ k9) _ _ (dWeb_noL W) hv
            have hx9 := k9 _ _ eLa hx1
            have hA9 := dpA_keep (kT _ k9) _ _ (noLs_sh e.2) hx2
            refine ⟨_, rfl, .inl ⟨rfl, _, SqL.of hLa9⟩, _, rfl, _, rfl, e.1, xs, rfl, .inl ⟨SqL.of hx9, fun pt hpt => ?_⟩⟩
            have s10 := same_new (o := .tup xs) hpt
            have hpt10 := upd_same (H := H9) (a := pt) (o := .tup xs)
            have k10 := KeepT.of_same s10
            refine ⟨_, rfl, _, rfl, v, W, e.1, xs, e.2, rfl, dp_keep k10 _ _ (dWeb_noL W) hv9, okW, SqL.of (s10 _ _ hx9), dpA_keep k10 _ _ (noLs_sh e.2) hA9, hx3, hx4, fun H11 pd fd s11 hpd hfd => ⟨by show 3 ≤ sizeLine; decide, fun pa hpa => ?_⟩⟩
            have s12 := (s10.trans s11).trans (same_new (o := .tup [v, .ref pt, .ref pd]) hpa)
            have hpa12 := upd_same (H := H11) (a := pa) (o := .tup [v, .ref pt, .ref pd])
            have hpt12 := same_new (o := .tup [v, .ref pt, .ref pd]) hpa _ _ (s11 _ _ hpt10)
            have hpd12 := same_new (o := .tup [v, .ref pt, .ref pd]) hpa _ _ hpd
            generalize upd H11 pa (.tup [v, .ref pt, .ref pd]) = H12 at s12 hpa12 hpt12 hpd12
            have hLa12 := s12 _ _ hLa9
            have k12 := KeepT.of_same s12
            have kL := keepT_nt (o := .lst (ak9 ++ [.ref pa])) (nt_lst _) hLa12
            have ask : AskAt K H12 (.ref pa) := ⟨pa, v, pt, pd, W, xs, e.2, fd, rfl, SqT.of hpa12, dp_keep k12 _ _ (dWeb_noL W) hv9, okW, SqT.of hpt12, dpA_keep k12 _ _ (noLs_sh e.2) hA9, hx3, hx4, SqT.of hpd12, hfd⟩
            refine ⟨La, ak9, _, rfl, rfl, hLa12, line6 (by omega), _, ak9 ++ [.ref pa], rfl, fun b o hb h => by rw [upd_ne hb]; exact s12 _ _ (k9 b o hb h), upd_same, fun x hx => ?_, by rw [List.length_append, List.length_singleton]; omega⟩
            rcases List.mem_append.mp hx with h | h
            · exact ((hk9 x h).keep k12).keep kL
            · rw [List.mem_singleton.mp h]
              exact ask.keep kL
          · rintro σ H9 ⟨y9', ak9, rfl, k9, hLa9, hk9, hl9⟩
            exact ⟨_, _, ak9, rfl, k9, hLa9, hk9, by omega⟩
        · rintro σ H8 ⟨y8, y9, asks, rfl, k8, hLa8, hk8, hl8⟩
          rw [List.length_map] at hl8
          refine ⟨_, rfl, _, rfl, 10, rfl, La, asks, rfl, SqL.of hLa8, fun l1 hl1 => ?_⟩
          have ec : cutV asks none (some 10) = asks.take 10 := cut_k asks 10
          rw [ec]
          have s1 := same_new (o := .lst (asks.take 10)) hl1
          have h11 := upd_same (H := H8) (a := l1) (o := .lst (asks.take 10))
          generalize upd H8 l1 (.lst (asks.take 10)) = H9 at s1 h11
          refine ⟨l1, _, rfl, SqL.of h11, fun l2 hl2 => ?_⟩
          have s2 := s1.trans (same_new (o := .lst (asks.take 10).reverse) hl2)
          have h22 := upd_same (H := H9) (a := l2) (o := .lst (asks.take 10).reverse)
          generalize upd H9 l2 (.lst (asks.take 10).reverse) = H10 at s2 h22
          have al : asks.length ≤ 200 := by omega
          refine ⟨La, l2, asks, _, rfl, rfl, s2 _ _ hLa8, h22, by rw [List.length_reverse, List.length_take]; exact line5 (by omega), fun l3 hl3 => ?_⟩
          have s3 := s2.trans (same_new (o := .lst (asks ++ (asks.take 10).reverse)) hl3)
          have h33 := upd_same (H := H10) (a := l3) (o := .lst (asks ++ (asks.take 10).reverse))
          generalize upd H10 l3 (.lst (asks ++ (asks.take 10).reverse)) = H11 at s3 h33
          have hall : ∀ x ∈ asks ++ (asks.take 10).reverse, AskAt K H11 x := fun x hx => by
            rcases List.mem_append.mp hx with h | h
            · exact (hk8 x h).keep (KeepT.of_same s3)
            · exact (hk8 x (List.mem_of_mem_take (List.mem_reverse.mp h))).keep (KeepT.of_same s3)
          generalize asks ++ (asks.take 10).reverse = all at h33 hall
          refine ⟨l3, rfl, ⟨_, SqL.of h33⟩, for_list (K := K) (a := l3) (xs := all) (fun i σ H' => ∃ (y8 y9 y10 y11 : Option V), σ = [some (.ref a), some (.ref D), some (.ref Nm), some (.ref Lm), y4, some (.ref Lw), y6, some (.ref La), y8, y9, y10, y11] ∧ Same H11 H') ⟨_, _, _, _, rfl, Same.refl _⟩ (fun i σ H' _ ⟨_, _, _, _, _, s⟩ => SqL.of (s _ _ h33)) ?_ ?_⟩
          · rintro i x σ H12 hi ⟨y8, y9, y10, y11, rfl, s12⟩
            obtain ⟨pa, v, pt, pd, W, xs, row, fd, rfl, e1, e2, e3, e4, e5, e6, e7, e8, e9⟩ := ((hall x (List.mem_of_getElem? hi)).keep (KeepT.of_same s12)).ex
            refine ⟨pa, _, rfl, e1, rfl, _, _, rfl, _, _, rfl, _, _, rfl, rfl, ?_⟩
            refine ⟨_, rfl, _, rfl, v, W, pt, xs, row, rfl, e2, e3, e4, e5, e6, e7, fun H13 qt f' s13 hq hf => ?_⟩
            obtain rfl : f' = fd := hf.uniq e9
            have bB := Bk_bd e3 row 0 e3.pos
            have sz := tSz hf bB (Uk_lt (by omega)) (Mk_lt (by omega))
            refine ⟨_, rfl, qt, f', rfl, hq, hf.low, sz_up sz (by decide), fun H14 s14 => ⟨true, rfl, ?_⟩⟩
            refine iteNT ?_
            refine ⟨_, rfl, _, rfl, dF f', dF f', dp_F (SqT.of (s14 _ _ hq)), dp_F (same_t (s13.trans s14) e8), dF_sh f', dF_sh f', _, rfl, ?_⟩
            rw [dF_eqv]
            exact iteNT ⟨_, _, _, _, rfl, s12.trans (s13.trans s14)⟩
          · rintro σ H12 ⟨y8, y9, y10, y11, rfl, s12⟩
            exact q H12
end
end Mt
namespace Mt
open PySem PySem.Spec PyProof.Rows L2
def dd_make_fraction : He.DefD := ⟨("make_fraction", none), "make_fraction", "make_fraction", defArgs s_make_fraction, defBody s_make_fraction, defScope s_make_fraction, [], []⟩
def dd_sum_of : He.DefD := ⟨("sum_of", none), "sum_of", "sum_of", defArgs s_sum_of, defBody s_sum_of, defScope s_sum_of, [], []⟩
def dd_product_of : He.DefD := ⟨("product_of", none), "product_of", "product_of", defArgs s_product_of, defBody s_product_of, defScope s_product_of, [], []⟩
def dd_total_of : He.DefD := ⟨("total_of", none), "total_of", "total_of", defArgs s_total_of, defBody s_total_of, defScope s_total_of, [], []⟩
def dd_chance_of : He.DefD := ⟨("chance_of", none), "chance_of", "chance_of", defArgs s_chance_of, defBody s_chance_of, defScope s_chance_of, [], []⟩
def dd__law_begin : He.DefD := ⟨("_law_begin", none), "_law_begin", "_law_begin", defArgs s__law_begin, defBody s__law_begin, defScope s__law_begin, [], []⟩
def dd__law_draw : He.DefD := ⟨("_law_draw", none), "_law_draw", "_law_draw", defArgs s__law_draw, defBody s__law_draw, defScope s__law_draw, [], []⟩
def dd__law_pick : He.DefD := ⟨("_law_pick", none), "_law_pick", "_law_pick", defArgs s__law_pick, defBody s__law_pick, defScope s__law_pick, [], []⟩
def dd__law_pop : He.DefD := ⟨("_law_pop", none), "_law_pop", "_law_pop", defArgs s__law_pop, defBody s__law_pop, defScope s__law_pop, [], []⟩
def dd__law_rare : He.DefD := ⟨("_law_rare", none), "_law_rare", "_law_rare", defArgs s__law_rare, defBody s__law_rare, defScope s__law_rare, [], []⟩
def dd__law_pool : He.DefD := ⟨("_law_pool", none), "_law_pool", "_law_pool", defArgs s__law_pool, defBody s__law_pool, defScope s__law_pool, [], []⟩
def dd__law_is_int : He.DefD := ⟨("_law_is_int", none), "_law_is_int", "_law_is_int", defArgs s__law_is_int, defBody s__law_is_int, defScope s__law_is_int, [], []⟩
def dd__law_is_ints : He.DefD := ⟨("_law_is_ints", none), "_law_is_ints", "_law_is_ints", defArgs s__law_is_ints, defBody s__law_is_ints, defScope s__law_is_ints, [], []⟩
def dd__law_frac : He.DefD := ⟨("_law_frac", none), "_law_frac", "_law_frac", defArgs s__law_frac, defBody s__law_frac, defScope s__law_frac, [], []⟩
def dd__law_plus : He.DefD := ⟨("_law_plus", none), "_law_plus", "_law_plus", defArgs s__law_plus, defBody s__law_plus, defScope s__law_plus, [], []⟩
def dd__law_times : He.DefD := ⟨("_law_times", none), "_law_times", "_law_times", defArgs s__law_times, defBody s__law_times, defScope s__law_times, [], []⟩
def dd__law_sum : He.DefD := ⟨("_law_sum", none), "_law_sum", "_law_sum", defArgs s__law_sum, defBody s__law_sum, defScope s__law_sum, [], []⟩
def dd__law_is_frac : He.DefD := ⟨("_law_is_frac", none), "_law_is_frac", "_law_is_frac", defArgs s__law_is_frac, defBody s__law_is_frac, defScope s__law_is_frac, [], []⟩
def dd__law_drawn_shown : He.DefD := ⟨("_law_drawn_shown", none), "_law_drawn_shown", "_law_drawn_shown", defArgs s__law_drawn_shown, defBody s__law_drawn_shown, defScope s__law_drawn_shown, [], []⟩
def dd__law_drawn_web : He.DefD := ⟨("_law_drawn_web", none), "_law_drawn_web", "_law_drawn_web", defArgs s__law_drawn_web, defBody s__law_drawn_web, defScope s__law_drawn_web, [], []⟩
def dd__law_backwards : He.DefD := ⟨("_law_backwards", none), "_law_backwards", "_law_backwards", defArgs s__law_backwards, defBody s__law_backwards, defScope s__law_backwards, [], []⟩
def dd__law_walked : He.DefD := ⟨("_law_walked", none), "_law_walked", "_law_walked", defArgs s__law_walked, defBody s__law_walked, defScope s__law_walked, [], []⟩
def dd__law_bent_row : He.DefD := ⟨("_law_bent_row", none), "_law_bent_row", "_law_bent_row", defArgs s__law_bent_row, defBody s__law_bent_row, defScope s__law_bent_row, [], []⟩
def dd__law_rows : He.DefD := ⟨("_law_rows", none), "_law_rows", "_law_rows", defArgs s__law_rows, defBody s__law_rows, defScope s__law_rows, [], []⟩
def dd_law : He.DefD := ⟨("law", none), "law", "law", defArgs s_law, defBody s_law, defScope s_law, [], []⟩
def dds : List He.DefD := [dd_make_fraction, dd_sum_of, dd_product_of, dd_total_of, dd_chance_of, dd__law_begin, dd__law_draw, dd__law_pick, dd__law_pop, dd__law_rare, dd__law_pool, dd__law_is_int, dd__law_is_ints, dd__law_frac, dd__law_plus, dd__law_times, dd__law_sum, dd__law_is_frac, dd__law_drawn_shown, dd__law_drawn_web, dd__law_backwards, dd__law_walked, dd__law_bent_row, dd__law_rows, dd_law]
def fas : List He.Fa := [.glo "make_fraction", .glo "sum_of", .glo "product_of", .glo "total_of", .glo "chance_of", .glo "_law_begin", .glo "_law_draw", .glo "_law_pick", .glo "_law_pop", .glo "_law_rare", .glo "_law_pool", .glo "_law_is_int", .glo "_law_is_ints", .glo "_law_frac", .glo "_law_plus", .glo "_law_times", .glo "_law_sum", .glo "_law_is_frac", .glo "_law_drawn_shown", .glo "_law_drawn_web", .glo "_law_backwards", .glo "_law_walked", .glo "_law_bent_row", .glo "_law_rows", .glo "law", .free "int", .free "abs", .free "len", .free "isinstance", .free "bool", .free "tuple", .free "list", .free "range", .free "sum", .free "all", .free "sorted"]
def exM (K : PySem.W.Frag) : Bool := He.eqO (PySem.W.nsIn K mainGlobals "gcd") (some (some (.builtin "math.gcd")))
abbrev R : PySem.W.OpenRow := PySem.W.OpenLaw.row PySem.Challenge.rw_meantrace_k81_rows_chanced
abbrev hk : PySem.W.Hook := hookM 4 fas dds exM
def ob (s : PySem.W.SharedT) : AlM := obsM 4 fas dds exM (HandSHeadRun.getT s)
theorem ob_eq (s : PySem.W.SharedT) : ob s = hk.obs s.abs := obsM_eq (HandSHeadRun.getT_eq s)
def names : List PySem.Str := ["make_fraction", "sum_of", "product_of", "total_of", "chance_of", "_law_begin", "_law_draw", "_law_pick", "_law_pop", "_law_rare", "_law_pool", "_law_is_int", "_law_is_ints", "_law_frac", "_law_plus", "_law_times", "_law_sum", "_law_is_frac", "_law_drawn_shown", "_law_drawn_web", "_law_backwards", "_law_walked", "_law_bent_row", "_law_rows"]
theorem run (w : World) : HandSHeadRun.RunEqI R (PySem.W.view R.prog [0, 28]) hk ob 3000 names w := by
  unfold HandSHeadRun.RunEqI; kernel_rfl
theorem facts {P : Program} {w : World} {K : PySem.W.Frag} {h : Heap} {mg : Str → Option Value} {f : Addr} (X : K.In h) (G : h.Ns mainGlobals mg) (hfa : mg ("law" : Str) = some (.ref f)) (c : SaysM fas dds exM K) :
    ∃ fd : FuncData, (∀ (s : Shared) (v : Value), BindsTo s fd ⟨[v], []⟩ [("script", v)]) ∧ ∀ base : Heap, K.In base → base.Ns mainGlobals mg → FnOk P w K mg base CX0 5 f fd ["script"] (spLaw K) := by
  obtain ⟨fd, F⟩ := c.1.def_ 24 (d := dd_law) rfl
  have e := hfa.symm.trans (He.glo_ok X G (c.1.fact 24 (f := .glo "law") rfl))
  cases e
  have T : Txt K mg := ⟨He.free_ok X G (c.1.fact 25 (f := .free "int") rfl), He.free_ok X G (c.1.fact 26 (f := .free "abs") rfl), He.free_ok X G (c.1.fact 27 (f := .free "len") rfl), He.free_ok X G (c.1.fact 28 (f := .free "isinstance") rfl), He.free_ok X G (c.1.fact 29 (f := .free "bool") rfl), He.free_ok X G (c.1.fact 30 (f := .free "tuple") rfl), He.free_ok X G (c.1.fact 31 (f := .free "list") rfl), He.free_ok X G (c.1.fact 32 (f := .free "range") rfl), He.free_ok X G (c.1.fact 33 (f := .free "sum") rfl), He.free_ok X G (c.1.fact 34 (f := .free "all") rfl), He.free_ok X G (c.1.fact 35 (f := .free "sorted") rfl), PySem.W.mg_of X G (He.eqO_ok c.2)⟩
  have b := FunD.bindsA (ps := ["script"]) F fun _ _ _ _ _ _ us hl => match us, hl with | [_], _ => rfl
  refine ⟨fd, fun s v => b s [v] rfl, fun base _ _ => ?_⟩
  have D_make_fraction : Kept P w K mg base 1 "make_fraction" ["n", "d"] spFrac := kept_of (st := s_make_fraction) X G (c.1.def_ 0 (d := dd_make_fraction) rfl) (c.1.fact 0 (f := .glo "make_fraction") rfl) (fun _ _ _ _ _ _ us hl => match us, hl with | [_, _], _ => rfl) (fun f fd F => ok_make_fraction T F)
  have D__law_begin : Kept P w K mg base 1 "_law_begin" ["script"] (spBegin K) := kept_of (st := s__law_begin) X G (c.1.def_ 5 (d := dd__law_begin) rfl) (c.1.fact 5 (f := .glo "_law_begin") rfl) (fun _ _ _ _ _ _ us hl => match us, hl with | [_], _ => rfl) (fun f fd F => ok__law_begin T F)
  have D__law_draw : Kept P w K mg base 1 "_law_draw" ["d", "many"] spDraw := kept_of (st := s__law_draw) X G (c.1.def_ 6 (d := dd__law_draw) rfl) (c.1.fact 6 (f := .glo "_law_draw") rfl) (fun _ _ _ _ _ _ us hl => match us, hl with | [_, _], _ => rfl) (fun f fd F => ok__law_draw T F)
  have D__law_pool : Kept P w K mg base 1 "_law_pool" [] spPool := kept_of (st := s__law_pool) X G (c.1.def_ 10 (d := dd__law_pool) rfl) (c.1.fact 10 (f := .glo "_law_pool") rfl) (fun _ _ _ _ _ _ us hl => match us, hl with | [], _ => rfl) (fun f fd F => ok__law_pool T F)
  have D__law_is_int : Kept P w K mg base 1 "_law_is_int" ["thing"] spIsInt := kept_of (st := s__law_is_int) X G (c.1.def_ 11 (d := dd__law_is_int) rfl) (c.1.fact 11 (f := .glo "_law_is_int") rfl) (fun _ _ _ _ _ _ us hl => match us, hl with | [_], _ => rfl) (fun f fd F => ok__law_is_int T F)
  have D__law_frac : Kept P w K mg base 1 "_law_frac" ["n", "d"] spFrac := kept_of (st := s__law_frac) X G (c.1.def_ 13 (d := dd__law_frac) rfl) (c.1.fact 13 (f := .glo "_law_frac") rfl) (fun _ _ _ _ _ _ us hl => match us, hl with | [_, _], _ => rfl) (fun f fd F => ok__law_frac T F)
  have D_sum_of : Kept P w K mg base 2 "sum_of" ["a", "b"] (spBin K add2) := kept_of (st := s_sum_of) X G (c.1.def_ 1 (d := dd_sum_of) rfl) (c.1.fact 1 (f := .glo "sum_of") rfl) (fun _ _ _ _ _ _ us hl => match us, hl with | [_, _], _ => rfl) (fun f fd F => ok_sum_of T D_make_fraction F)
  have D_product_of : Kept P w K mg base 2 "product_of" ["a", "b"] (spBin K mul2) := kept_of (st := s_product_of) X G (c.1.def_ 2 (d := dd_product_of) rfl) (c.1.fact 2 (f := .glo "product_of") rfl) (fun _ _ _ _ _ _ us hl => match us, hl with | [_, _], _ => rfl) (fun f fd F => ok_product_of T D_make_fraction F)
  have D__law_pick : Kept P w K mg base 2 "_law_pick" ["d", "row"] (spPick K) := kept_of (st := s__law_pick) X G (c.1.def_ 7 (d := dd__law_pick) rfl) (c.1.fact 7 (f := .glo "_law_pick") rfl) (fun _ _ _ _ _ _ us hl => match us, hl with | [_, _], _ => rfl) (fun f fd F => ok__law_pick T D__law_draw F)
  have D__law_pop : Kept P w K mg base 2 "_law_pop" ["d", "row"] spPop := kept_of (st := s__law_pop) X G (c.1.def_ 8 (d := dd__law_pop) rfl) (c.1.fact 8 (f := .glo "_law_pop") rfl) (fun _ _ _ _ _ _ us hl => match us, hl with | [_, _], _ => rfl) (fun f fd F => ok__law_pop T D__law_draw F)
  have D__law_rare : Kept P w K mg base 2 "_law_rare" ["d", "many"] spRare := kept_of (st := s__law_rare) X G (c.1.def_ 9 (d := dd__law_rare) rfl) (c.1.fact 9 (f := .glo "_law_rare") rfl) (fun _ _ _ _ _ _ us hl => match us, hl with | [_, _], _ => rfl) (fun f fd F => ok__law_rare T D__law_draw F)
  have D__law_is_ints : Kept P w K mg base 2 "_law_is_ints" ["row"] (spIsInts K) := kept_of (st := s__law_is_ints) X G (c.1.def_ 12 (d := dd__law_is_ints) rfl) (c.1.fact 12 (f := .glo "_law_is_ints") rfl) (fun _ _ _ _ _ _ us hl => match us, hl with | [_], _ => rfl) (fun f fd F => ok__law_is_ints T D__law_is_int F)
  have D__law_plus : Kept P w K mg base 2 "_law_plus" ["a", "b"] (spBin K add2) := kept_of (st := s__law_plus) X G (c.1.def_ 14 (d := dd__law_plus) rfl) (c.1.fact 14 (f := .glo "_law_plus") rfl) (fun _ _ _ _ _ _ us hl => match us, hl with | [_, _], _ => rfl) (fun f fd F => ok__law_plus T D__law_frac F)
  have D__law_times : Kept P w K mg base 2 "_law_times" ["a", "b"] (spBin K mul2) := kept_of (st := s__law_times) X G (c.1.def_ 15 (d := dd__law_times) rfl) (c.1.fact 15 (f := .glo "_law_times") rfl) (fun _ _ _ _ _ _ us hl => match us, hl with | [_, _], _ => rfl) (fun f fd F => ok__law_times T D__law_frac F)
  have D_total_of : Kept P w K mg base 3 "total_of" ["fractions"] (spTot K) := kept_of (st := s_total_of) X G (c.1.def_ 3 (d := dd_total_of) rfl) (c.1.fact 3 (f := .glo "total_of") rfl) (fun _ _ _ _ _ _ us hl => match us, hl with | [_], _ => rfl) (fun f fd F => ok_total_of T D_sum_of F)
  have D__law_sum : Kept P w K mg base 3 "_law_sum" ["row"] (spTot K) := kept_of (st := s__law_sum) X G (c.1.def_ 16 (d := dd__law_sum) rfl) (c.1.fact 16 (f := .glo "_law_sum") rfl) (fun _ _ _ _ _ _ us hl => match us, hl with | [_], _ => rfl) (fun f fd F => ok__law_sum T D__law_plus F)
  have D__law_is_frac : Kept P w K mg base 3 "_law_is_frac" ["thing"] (spIsFrac K) := kept_of (st := s__law_is_frac) X G (c.1.def_ 17 (d := dd__law_is_frac) rfl) (c.1.fact 17 (f := .glo "_law_is_frac") rfl) (fun _ _ _ _ _ _ us hl => match us, hl with | [_], _ => rfl) (fun f fd F => ok__law_is_frac T D__law_is_ints D__law_frac F)
  have D__law_drawn_shown : Kept P w K mg base 3 "_law_drawn_shown" ["d", "marks"] (spShown K) := kept_of (st := s__law_drawn_shown) X G (c.1.def_ 18 (d := dd__law_drawn_shown) rfl) (c.1.fact 18 (f := .glo "_law_drawn_shown") rfl) (fun _ _ _ _ _ _ us hl => match us, hl with | [_, _], _ => rfl) (fun f fd F => ok__law_drawn_shown T D__law_pick F)
  have D__law_walked : Kept P w K mg base 3 "_law_walked" ["d", "web", "many"] (spWalked K) := kept_of (st := s__law_walked) X G (c.1.def_ 21 (d := dd__law_walked) rfl) (c.1.fact 21 (f := .glo "_law_walked") rfl) (fun _ _ _ _ _ _ us hl => match us, hl with | [_, _, _], _ => rfl) (fun f fd F => ok__law_walked T D__law_pick F)
  have D__law_bent_row : Kept P w K mg base 3 "_law_bent_row" ["d", "web", "row"] (spBent K) := kept_of (st := s__law_bent_row) X G (c.1.def_ 22 (d := dd__law_bent_row) rfl) (c.1.fact 22 (f := .glo "_law_bent_row") rfl) (fun _ _ _ _ _ _ us hl => match us, hl with | [_, _, _], _ => rfl) (fun f fd F => ok__law_bent_row T D__law_draw D__law_pick F)
  have D_chance_of : Kept P w K mg base 4 "chance_of" ["web", "row"] (spChance K) := kept_of (st := s_chance_of) X G (c.1.def_ 4 (d := dd_chance_of) rfl) (c.1.fact 4 (f := .glo "chance_of") rfl) (fun _ _ _ _ _ _ us hl => match us, hl with | [_, _], _ => rfl) (fun f fd F => ok_chance_of T D_sum_of D_product_of D_total_of F)
  have D__law_drawn_web : Kept P w K mg base 4 "_law_drawn_web" ["d", "states", "marks"] (spDWeb K) := kept_of (st := s__law_drawn_web) X G (c.1.def_ 19 (d := dd__law_drawn_web) rfl) (c.1.fact 19 (f := .glo "_law_drawn_web") rfl) (fun _ _ _ _ _ _ us hl => match us, hl with | [_, _, _], _ => rfl) (fun f fd F => ok__law_drawn_web T D__law_draw D__law_frac D__law_drawn_shown F)
  have D__law_backwards : Kept P w K mg base 4 "_law_backwards" ["web", "row"] (spBack K) := kept_of (st := s__law_backwards) X G (c.1.def_ 20 (d := dd__law_backwards) rfl) (c.1.fact 20 (f := .glo "_law_backwards") rfl) (fun _ _ _ _ _ _ us hl => match us, hl with | [_, _], _ => rfl) (fun f fd F => ok__law_backwards T D__law_times D__law_sum F)
  have D__law_rows : Kept P w K mg base 4 "_law_rows" ["d", "webs"] (spRows K) := kept_of (st := s__law_rows) X G (c.1.def_ 23 (d := dd__law_rows) rfl) (c.1.fact 23 (f := .glo "_law_rows") rfl) (fun _ _ _ _ _ _ us hl => match us, hl with | [_, _], _ => rfl) (fun f fd F => ok__law_rows T D__law_draw D__law_pick D__law_rare D__law_walked D__law_bent_row F)
  exact ok_law T D_chance_of D__law_begin D__law_draw D__law_pop D__law_rare D__law_pool D__law_is_frac D__law_drawn_web D__law_backwards D__law_rows F
end Mt
open PySem PySem.W PySem.Calls PyProof.Rows
set_option maxHeartbeats 0 in
theorem PySem.Challenge.cw_meantrace_k81_rows_chanced_holds : PySem.Challenge.rw_meantrace_k81_rows_chanced.Holds := by
  w_on; o_law
  refine HandSHeadRun.head_imp (r := OpenLaw.row PySem.Challenge.rw_meantrace_k81_rows_chanced) (q := view (OpenLaw.row PySem.Challenge.rw_meantrace_k81_rows_chanced).prog [0, 28]) (H := Mt.hk) (ob := Mt.ob) (M := 3000) (loose := Mt.names) (d := HandSHeadRun.topDef (OpenLaw.row PySem.Challenge.rw_meantrace_k81_rows_chanced).prog 28) (kwd := []) Mt.ob_eq
     Mt.run (by kernel_rfl) (by kernel_rfl) (by kernel_rfl) (by rfl) (by first | assumption | decide +kernel) (by decide +kernel) ⟨rfl, rfl, rfl, rfl, rfl, by decide +kernel⟩ ?hw ?hc
  case hw => w_witness2
  case hc =>
    refine L2.walk_ofE (l := PySem.Challenge.rw_meantrace_k81_rows_chanced) (n := 63) (k := 5) (x := "script") (CX := L2.CX0) rfl (by decide) (by kernel_rfl) ⟨rfl, by decide, by decide⟩ ?F (fun _ _ _ _ z => z)
    intro w mg fa h Y G hmg0
    obtain ⟨K, KX, c⟩ := Y
    have hmg : mg ("law" : PySem.Str) = some (.ref fa) := by
      have e : (HandSHeadRun.topDef (OpenLaw.row PySem.Challenge.rw_meantrace_k81_rows_chanced).prog 28).name = ("law" : PySem.Str) := by kernel_rfl
      rw [← e]
      exact hmg0
    obtain ⟨fd, hb, hF⟩ := Mt.facts (P := (PySem.Challenge.rw_meantrace_k81_rows_chanced).prog) (w := w) KX G hmg c
    exact ⟨K, fd, Mt.spLaw K, KX, hb, fun H a ns hl hO hS => ⟨a, ns, rfl, hS, hl, fun _ => rfl⟩, hF⟩
