import PyProof.Rows.All
import Wide.All
import OpenK.AllK
import Wide.FinOn
import KE.KStateDown
import HandS.ForMost
import HandS.Wide
import HandS.IsInst
import HandS.Walk
import HandS.Style
import HandS.Evl
import HandS.StrMore
import HandS.Exc
import HandS.WordsExc
import HandS.Defaults
import HandS.Head0
import HandS.Head1
import HandS.Head2
import HandS.HeadEnd
import HandS.HeadHook1
import HandS.HeadHook2
import HandS.Gcd
import HandS.Head3
import HandS.Star
import HandS.RaiseMore
import HandS.AnyAll
import HandS.Conv
import HandS.More
import HandS.Small
import HandS.HeadHook3
import HandS.HeadHook4
import HandS.HeadWalk
import HandS.EndTab
import PyProof.GenCompT
import PyProof.TupleOfGen
import PyProof.WalksPairs
import KE.KTupSum
import KE.DataMinMax
import HandS.SortKw
import HandS.TupAny
import HandS.TupMul
import KE.KDictKeyed
import KE.SortData
import KE.KDictSum
import KE.KDictPairs
import HandS.Zip
import HandS.Codes
import HandS.TryElse
import HandS.HeadNt
import HandS.Property
import HandS.SetBool
import HandS.SetKeys
import HandS.Nested
import HandS.ExcInit
import HandS.ExcField
import HandS.ExcIs
import HandS.FStr
import KE.KExcSuper
import KE.KSuper
import HandS.TupSets
import HandS.ExcCtx
import HandS.Hot
import HandS.HotCalls
import HandS.ExcOwn
import HandS.ExcInitHot
import KE.KIsAll
import KE.GoesMore
import PyProof.EnumMake
import PyProof.Draws
import PyProof.EnumFor
import HandS.GenList
import HandS.GenCall
import HandS.GenBody
import HandS.Comp
import PyProof.CollectWalk
import HandS.Lambda
import PySem.Challenge.RW_meantrace_k67_bends_judged
set_option Elab.async false
set_option linter.all false
set_option maxRecDepth 100000
/-! Our own words over the hand layer: defs of the top by name, the draws' state, heaps that go on. -/
namespace Mt
open PySem PySem.Spec PyProof.Rows L2
section
variable {P : Program} {w : World} {K : PySem.W.Frag} {mg : Str → Option Value} {base : Heap}
abbrev FnP (K : PySem.W.Frag) (x : Str) (st : Stmt) (f : Addr) (fd : FuncData) : Prop := FunD K x x (defArgs st) (defBody st) (defScope st) [] [] f fd
/-- a def that keeps its promise -/
def Kept (P : Program) (w : World) (K : PySem.W.Frag) (mg : Str → Option Value) (base : Heap) (k : Nat) (x : Str) (ps : List Str) (sp : Sp) : Prop :=
  ∃ f fd, FnOk P w K mg base CX0 k f fd ps sp ∧ mg x = some (.ref f) ∧ PySem.W.keepIn K (.ref f) = true ∧ Binds K fd ps []
/-- what the head tells: facts by names, defs, one more word of one's own -/
abbrev AlM : Type := He.AlD × Bool
def obsM (n : Nat) (fa : List He.Fa) (fn : List He.DefD) (ex : PySem.W.Frag → Bool) (g : Addr → Option Obj) : AlM := (He.obsDG n fa fn g, ex (He.frG g (He.asD g n)))
def SaysM (fa : List He.Fa) (fn : List He.DefD) (ex : PySem.W.Frag → Bool) (K : PySem.W.Frag) : Prop := He.SaysD fa fn K ∧ ex K = true
def hookM (n : Nat) (fa : List He.Fa) (fn : List He.DefD) (ex : PySem.W.Frag → Bool) : PySem.W.Hook where
  α := AlM
  obs := fun s => obsM n fa fn ex s.heap.get?
  val := fun _ => (He.valD fn, true)
  says := fun _ h => ∃ K : PySem.W.Frag, K.In h ∧ SaysM fa fn ex K
  of := fun _ _ e => ⟨_, He.frG_in, congrArg (fun z : AlM => z.1) e, congrArg (fun z : AlM => z.2) e⟩
  keeps := fun _ _ _ ⟨K, hK, c⟩ k => ⟨K, PySem.W.Frag.In.keeps hK k, c⟩
theorem obsM_eq {n : Nat} {fa : List He.Fa} {fn : List He.DefD} {ex : PySem.W.Frag → Bool} {g : Addr → Option Obj} {s : Shared} (h : ∀ a, g a = s.heap.get? a) : obsM n fa fn ex g = (hookM n fa fn ex).obs s := by
  have e : g = s.heap.get? := funext h
  rw [e] <;> rfl
theorem kept_of {h : Heap} (X : K.In h) (G : h.Ns mainGlobals mg) {x : Str} {ps : List Str} {st : Stmt} {k : Nat} {sp : Sp}
    (hd : ∃ fd, FnP K x st (He.ga K x) fd) (hg : (He.Fa.glo x).ok K = true)
    (hb : ∀ (kV doc pm : Value) (an : Option Addr) (cdv ct : Value) (us : List Value), us.length = ps.length → bindArgs (PySem.W.fnOf x x (defArgs st) (defBody st) (defScope st) .none kV doc pm an cdv ct) ⟨us, []⟩ = pure (ps.zip us))
    (ok : ∀ f fd, FnP K x st f fd → FnOk P w K mg base CX0 k f fd ps sp) : Kept P w K mg base k x ps sp := by
  obtain ⟨fd, F⟩ := hd
  exact ⟨_, fd, ok _ fd F, He.glo_ok X G hg, F.kp, F.bindsN hb⟩
end
section
variable {X : Cx}
theorem pe_d {k : Nat} {x : Str} {ps : List Str} {sp : Sp} {e : Expr} {es : List Expr} {t : TA} {p pos : Pos} (D : Kept X.prog X.w X.K X.mg X.base k x ps sp) (hr : Room k X.A) (hg : Gl X x) (ha : PA X (e :: es) t)
    (hdb : (x == ("__debug__" : Str)) = false := by decide) (he : starEach (e :: es) X.env = (false, eval e X.env) :: starEach es X.env := by rfl) (hpl : (backTo pos (starEach es X.env)).any (·.1) = false := by rfl) :
    PE X (.Call (.Name x p) (e :: es) [] pos) (tCall sp [] E0 t) := by
  obtain ⟨f, fd, F, g, kp, b⟩ := D
  exact pe_call F hr hg g kp b .nil pass0 ha hdb he hpl
theorem pe_d0 {k : Nat} {x : Str} {ps : List Str} {sp : Sp} {p pos : Pos} (D : Kept X.prog X.w X.K X.mg X.base k x ps sp) (hr : Room k X.A) (hg : Gl X x) (hdb : (x == ("__debug__" : Str)) = false := by decide) :
    PE X (.Call (.Name x p) [] [] pos) (tCall sp [] E0 tNil) := by
  obtain ⟨f, fd, F, g, kp, b⟩ := D
  exact pe_call0 F hr hg g kp b .nil pass0 hdb
/-- a text of the module; an object of the module -/
theorem pe_gs {x z : Str} {pos : Pos} (h : ∃ t, X.mg x = some (.str z t)) (hg : Gl X x) (hd : (x == ("__debug__" : Str)) = false := by decide) : PE X (.Name x pos) (tC (.str z)) := by
  obtain ⟨t, h⟩ := h
  exact pe_glob hg h ⟨_, rfl⟩ hd
/-- xs[i] op= e reads xs[i] -/
theorem get_list : PGet X (rIxL X.K) := by
  intro pins s σ H o i ov iv Q I ro ri h
  obtain ⟨p, xs, i, z, rfl, rfl, hq, he, q⟩ := h
  cases ro
  obtain ⟨t, rfl⟩ := ri
  obtain ⟨its, r, pl, hz⟩ := I.list hq
  obtain ⟨j, h1, h2, h3, h4, h5⟩ := atI_get he
  obtain ⟨w, ew, rw'⟩ := r.get h2
  have hl := r.length
  have hn := line63
  have fin : EP X pins σ Q w s := ⟨z, H, I, rw', q⟩
  by_cases h0 : 0 ≤ i
  · have hj : i.toNat = j := by
      rw [seqIndex_of h0 h5] at h1
      exact Option.some.inj h1
    exact wpAny_mono (wpAny_getItem_list (Q := fun r s' => r = w ∧ EP X pins σ Q r s') pl.isList h0 (by omega) (by rw [hj]; simpa using ew) ⟨rfl, fin⟩) (fun _ _ q => q.2) (fun _ _ q => q)
  · have hj : (i + (its.toArray.size : Int)).toNat = j := by
      rw [seqIndex_neg (by omega) h4] at h1
      rw [List.size_toArray, ← hl]
      exact Option.some.inj h1
    exact wpAny_mono (wpAny_getItem_list_neg (Q := fun r s' => r = w ∧ EP X pins σ Q r s') pl.isList (by omega) (by rw [List.size_toArray] <;> omega) (by omega) (by rw [hj]; simpa using ew) ⟨rfl, fin⟩) (fun _ _ q => q.2) (fun _ _ q => q)
end

/-! ### the draws: [cells, place, rest, seed] at D -/
structure DrawAt (S D : Addr) (H : Hp) : Prop where
  ne : S ≠ D
  cells : ∃ cs : List Int, H S = some (.lst (cs.map V.int))
  at_ : ∃ i r c : Int, 0 ≤ i ∧ H D = some (.lst [.ref S, .int i, .int r, .int c])
/-- all else that is tracked stays -/
def Keep (D : Addr) (H H' : Hp) : Prop := ∀ b o, H b = some o → b ≠ D → H' b = some o
def Go (S D : Addr) (H H' : Hp) : Prop := DrawAt S D H' ∧ Keep D H H'
theorem Keep.refl {D : Addr} {H : Hp} : Keep D H H := fun _ _ h _ => h
theorem Keep.trans {D : Addr} {H H1 H2 : Hp} (a : Keep D H H1) (b : Keep D H1 H2) : Keep D H H2 := fun x o h n => b x o (a x o h n) n
theorem Go.trans {S D : Addr} {H H1 H2 : Hp} (a : Go S D H H1) (b : Go S D H1 H2) : Go S D H H2 := ⟨b.1, a.2.trans b.2⟩
theorem Keep.set {D : Addr} {H H' : Hp} {o : HO} (k : Keep D H H') : Keep D H (upd H' D o) := fun b u h n => by
  rw [upd_ne n]
  exact k b u h n
theorem DrawAt.set {S D : Addr} {H : Hp} (d : DrawAt S D H) {i r c : Int} (h : 0 ≤ i) : DrawAt S D (upd H D (.lst [.ref S, .int i, .int r, .int c])) :=
  ⟨d.ne, d.cells.imp fun cs h => by rw [upd_ne d.ne]; exact h, ⟨i, r, c, h, upd_same⟩⟩
theorem DrawAt.new {S D p : Addr} {H : Hp} {o : HO} (d : DrawAt S D H) (h : H p = none) : DrawAt S D (upd H p o) := by
  obtain ⟨cs, h1⟩ := d.cells
  obtain ⟨i, r, c, h0, h2⟩ := d.at_
  exact ⟨d.ne, ⟨cs, by rw [upd_ne (ne_of_none h1 h)]; exact h1⟩, ⟨i, r, c, h0, by rw [upd_ne (ne_of_none h2 h)]; exact h2⟩⟩
theorem Keep.new {D p : Addr} {H : Hp} {o : HO} (h : H p = none) : Keep D H (upd H p o) := fun b u e _ => by
  rw [upd_ne (ne_of_none e h)]
  exact e
theorem Go.new {S D p : Addr} {H : Hp} {o : HO} (d : DrawAt S D H) (h : H p = none) : Go S D H (upd H p o) := ⟨d.new h, Keep.new h⟩
theorem Go.same {S D : Addr} {H H' : Hp} (d : DrawAt S D H) (h : Same H H') : Go S D H H' := by
  obtain ⟨cs, h1⟩ := d.cells
  obtain ⟨i, r, c, h0, h2⟩ := d.at_
  exact ⟨⟨d.ne, ⟨cs, h _ _ h1⟩, ⟨i, r, c, h0, h _ _ h2⟩⟩, fun b o e _ => h b o e⟩
theorem Go.refl {S D : Addr} {H : Hp} (d : DrawAt S D H) : Go S D H H := ⟨d, Keep.refl⟩
/-- a fresh place stays fresh when looked at from behind -/
theorem DrawAt.free {S D p : Addr} {H : Hp} (d : DrawAt S D H) (h : H p = none) : p ≠ D ∧ p ≠ S := by
  obtain ⟨cs, h1⟩ := d.cells
  obtain ⟨i, r, c, h0, h2⟩ := d.at_
  exact ⟨(ne_of_none h2 h).symm, (ne_of_none h1 h).symm⟩
theorem Go.free {S D p : Addr} {H H' : Hp} (g : Go S D H H') (d : DrawAt S D H) (h : H' p = none) : H p = none := by
  cases q : H p with
  | none => rfl
  | some o =>
    by_cases e : p = D
    · exact absurd e (g.1.free h).1
    · rw [g.2 p o q e] at h
      cases h
def spDraw : Sp := fun vs H Q _ => ∃ (S D : Addr) (many : Int), vs = [.ref D, .int many] ∧ CDivW 0 many ∧ DrawAt S D H ∧ ∀ H' v, 0 ≤ v → v < many → Go S D H H' → Q (.int v) H'
end Mt
/-! ### dicts whose keys are (tuple of texts, int), at the library's level, told in our heap -/
namespace ND
open PySem PySem.Spec PyProof.Rows L2
abbrev KN : Type := List Str × Int
def nk (k : KN) : NestedKey := .tup [.tup (k.1.map .text), .num k.2]
theorem texts_inj : ∀ {a b : List Str}, a.map NestedKey.text = b.map NestedKey.text → a = b
  | [], [], _ => rfl
  | x :: a, y :: b, h => by
    obtain ⟨h1, h2⟩ := List.cons.inj (show NestedKey.text x :: a.map .text = .text y :: b.map .text from h)
    rw [NestedKey.text.inj h1, texts_inj h2]
  | [], _ :: _, h => by cases h
  | _ :: _, [], h => by cases h
theorem nk_inj {a b : KN} (h : nk a = nk b) : a = b := by
  unfold nk at h
  obtain ⟨h1, h2⟩ := List.cons.inj (NestedKey.tup.inj h)
  exact Prod.ext (texts_inj (NestedKey.tup.inj h1)) (NestedKey.num.inj (List.cons.inj h2).1)
/-- an entry: the key, where its tuple stands, the value -/
abbrev En : Type := KN × Addr × V
abbrev EnV : Type := NestedKey × Addr × Value
def RelE (p : En) (q : EnV) : Prop := q.1 = nk p.1 ∧ p.2.1 = q.2.1 ∧ RelV p.2.2 q.2.2
def NdP (P : Program) (w : World) (a : Addr) (xs : List En) (h : Heap) : Prop := xs.length ≤ sizeLine ∧ (a == sysModules) = false ∧ ∃ ys : List EnV, Paired RelE xs ys ∧
  ∃ o es ep, h.get? a = some o ∧ o.ExactDict ∧ o.data = .dict es ep ∧ es.toList = ys.map (entryOfKey (nestedKind P w)) ∧ (ys.map (·.1)).Nodup
def ND (P : Program) (w : World) (a : Addr) (xs : List En) : HO := .ext (NdP P w a xs)
theorem nd_ok {P : Program} {w : World} {H : Hp} {h : Heap} {a : Addr} {xs : List En} (x : NdP P w a xs h) : ObjOk P w H h a (ND P w a xs) := by
  refine ⟨x, ?_, fun h1 h2 y k => ?_⟩
  · obtain ⟨_, _, _, _, o, _, _, e, _⟩ := x
    exact ⟨o, e⟩
  · obtain ⟨y1, y2, ys, y3, o, es, ep, e, r⟩ := y
    exact ⟨y1, y2, ys, y3, o, es, ep, k o e, r⟩
/-- the key's tuples stand -/
def NkT (K : PySem.W.Frag) (H : Hp) (k : KN) (a : Addr) : Prop := ∃ b, SqT K H a [.ref b, .int k.2] ∧ SqT K H b (k.1.map V.str)
def KeysOk (K : PySem.W.Frag) (H : Hp) (xs : List En) : Prop := ∀ x ∈ xs, NkT K H x.1 x.2.1
theorem all_texts {h : Heap} : ∀ {ss : List Str} {us : List Value}, Vals (ss.map V.str) us → NestedAll h (ss.map .text) us
  | [], _, .nil => .nil
  | s :: r, _, .cons e t => by
    obtain ⟨tk, rfl⟩ := e
    exact .cons (.text s tk) (all_texts t)
theorem dep_texts : ∀ ss : List Str, NestedKey.depthAll (ss.map .text) = 0
  | [] => by simp [NestedKey.depthAll]
  | s :: r => by
    show NestedKey.depthAll (.text s :: r.map .text) = 0
    rw [NestedKey.depthAll, dep_texts r]
    simp [NestedKey.depth]
section
variable {X : Cx} {pins : List (Addr × Obj)} {σ : L2.St} {H : Hp} {s : Shared} {a b : Addr} {xs : List En} {k : KN}
theorem key_is (I : Inv X pins σ H s) (h : NkT X.K H k a) : (nestedKind X.prog X.w).is s.heap (nk k) a := by
  obtain ⟨b, h1, h2⟩ := h
  obtain ⟨its, rv, ⟨o, e1, e2, n, e3⟩, _⟩ := I.tuple h1
  obtain ⟨its2, rv2, ⟨o2, f1, f2, n2, f3⟩, _⟩ := I.tuple h2
  obtain ⟨u1, u2, rfl, r1, r2⟩ := Vals.two rv
  obtain rfl : u1 = Value.ref b := r1
  obtain ⟨t, rfl⟩ := r2
  refine ⟨.tup e1 e2 e3 (.cons (.tup f1 f2 f3 ?_) (.cons (.int _ _) .nil)), ?_⟩
  · exact all_texts rv2
  · show NestedKey.depth (.tup [.tup (k.1.map .text), .num k.2]) ≤ 8
    simp [NestedKey.depth, NestedKey.depthAll, dep_texts]
theorem rel_mem {xs : List En} {ys : List EnV} (r : Paired RelE xs ys) : ∀ y ∈ ys, ∃ x ∈ xs, RelE x y := by
  induction r with
  | nil => intro y hy; cases hy
  | cons e t ih =>
    intro y hy
    rcases List.mem_cons.mp hy with h | h
    · subst h
      exact ⟨_, List.mem_cons_self, e⟩
    · obtain ⟨x, h1, h2⟩ := ih y h
      exact ⟨x, List.mem_cons_of_mem _ h1, h2⟩
theorem nd_rd (I : Inv X pins σ H s) (h : Rd H a (ND X.prog X.w a xs)) (hk : KeysOk X.K H xs) : (a == sysModules) = false ∧ xs.length ≤ sizeLine ∧ ∃ ys : List EnV, Paired RelE xs ys ∧ s.heap.DictOfH (nestedKind X.prog X.w) a ys := by
  obtain ⟨⟨h1, h2, ys, h3, o, es, ep, h4, h5, h6, h7, h8⟩, _⟩ := h.ok I.hok
  refine ⟨h2, h1, ys, h3, o, es, ep, h4, h5, h6, h7, fun y hy => ?_, h8⟩
  obtain ⟨x, hx, e1, e2, _⟩ := rel_mem h3 y hy
  rw [e1, ← e2]
  exact key_is I (hk x hx)
end
/-- what stands at a key; the entries behind a store -/
def atN (xs : List En) (k : KN) : Option (Addr × V) := (xs.find? fun x => decide (x.1 = k)).map (·.2)
def putN (xs : List En) (k : KN) (a : Addr) (v : V) : List En := if (atN xs k).isSome then xs.map (fun x => if x.1 = k then (x.1, x.2.1, v) else x) else xs ++ [(k, a, v)]
theorem rel_at {xs : List En} {ys : List EnV} (r : Paired RelE xs ys) (k : KN) : (atN xs k = none ∧ atKey ys (nk k) = none) ∨ ∃ p q, atN xs k = some p ∧ atKey ys (nk k) = some q ∧ p.1 = q.1 ∧ RelV p.2 q.2 := by
  induction r with
  | nil => exact .inl ⟨rfl, rfl⟩
  | @cons x y xs ys e t ih =>
    obtain ⟨e1, e2, e3⟩ := e
    by_cases h : x.1 = k
    · refine .inr ⟨x.2, y.2, ?_, ?_, e2, e3⟩
      · unfold atN
        rw [List.find?_cons, decide_eq_true h]
        rfl
      · unfold atKey
        rw [List.find?_cons, decide_eq_true (by rw [e1, h])]
        rfl
    · have hn : ¬ y.1 = nk k := fun e => h (nk_inj (by rw [← e1, e]))
      have a1 : atN (x :: xs) k = atN xs k := by
        unfold atN
        rw [List.find?_cons, decide_eq_false h]
      have a2 : atKey (y :: ys) (nk k) = atKey ys (nk k) := by
        unfold atKey
        rw [List.find?_cons, decide_eq_false hn]
      rw [a1, a2]
      exact ih
theorem rel_app {xs : List En} {ys : List EnV} (r : Paired RelE xs ys) {x : En} {y : EnV} (e : RelE x y) : Paired RelE (xs ++ [x]) (ys ++ [y]) := by
  induction r with
  | nil => exact .cons e .nil
  | cons e' t ih => exact .cons e' ih
theorem rel_map {xs : List En} {ys : List EnV} (r : Paired RelE xs ys) {k : KN} {v : V} {u : Value} (rv : RelV v u) : Paired RelE (xs.map (fun x => if x.1 = k then (x.1, x.2.1, v) else x)) (ys.map (putAt (nk k) u)) := by
  induction r with
  | nil => exact .nil
  | @cons x y xs ys e t ih =>
    obtain ⟨e1, e2, e3⟩ := e
    rw [List.map_cons, List.map_cons]
    refine .cons ?_ ih
    by_cases h : x.1 = k
    · rw [if_pos h, show putAt (nk k) u y = (y.1, y.2.1, u) from if_pos (by rw [e1, h])]
      exact ⟨e1, e2, rv⟩
    · rw [if_neg h, show putAt (nk k) u y = y from if_neg fun e => h (nk_inj (by rw [← e1, e]))]
      exact ⟨e1, e2, e3⟩
theorem rel_put {xs : List En} {ys : List EnV} (r : Paired RelE xs ys) {k : KN} {a : Addr} {v : V} {u : Value} (rv : RelV v u) : Paired RelE (putN xs k a v) (storedH ys (nk k) a u) := by
  rcases rel_at r k with ⟨h1, h2⟩ | ⟨p, q, h1, h2, _, _⟩
  · rw [storedH_new h2]
    unfold putN
    rw [h1]
    exact rel_app r ⟨rfl, rfl, rv⟩
  · rw [storedH_old h2]
    unfold putN
    rw [h1]
    exact rel_map r rv
theorem len_put (xs : List En) (k : KN) (a : Addr) (v : V) : (putN xs k a v).length ≤ xs.length + 1 := by
  unfold putN
  split
  · rw [List.length_map]
    exact Nat.le_succ _
  · rw [List.length_append]
    exact Nat.le_refl _
theorem keys_put {K : PySem.W.Frag} {H H' : Hp} {xs : List En} {k : KN} {a : Addr} {v : V} (h : KeysOk K H xs) (hk : NkT K H k a) : KeysOk K H (putN xs k a v) := by
  unfold putN
  split
  · intro x hx
    obtain ⟨y, hy, rfl⟩ := List.mem_map.mp hx
    have := h y hy
    split
    · exact this
    · exact this
  · intro x hx
    rcases List.mem_append.mp hx with h1 | h1
    · exact h x h1
    · rw [List.mem_singleton.mp h1]
      exact hk
section
variable {X : Cx} {o i value : Expr} {pos pos' : Pos} {td ty tv : TE}
def tNNew (P : Program) (w : World) : TE := fun _ H Q => ∀ p, H p = none → Q (.ref p) (upd H p (ND P w p []))
theorem pe_nnew : PE X (.Dict [] [] pos) (tNNew X.prog X.w) := ⟨fun pins s σ H Q I h =>
  wpAny_Dict_empty ⟨.ref s.heap.objs.size, _, I.laid (a := s.heap.objs.size) (o := ND X.prog X.w s.heap.objs.size []) (t' := s.toks) (fun _ _ q => Heap.get?_push_of_some _ q) (Nat.le_refl _)
    (nd_ok ⟨Nat.zero_le _, beq_eq_false_iff_ne.mpr (Ne.symm (Nat.ne_of_lt I.big)), [], .nil, _, #[], 0, Heap.get?_push_size _ rfl, ⟨rfl, rfl, rfl⟩, rfl, rfl, List.nodup_nil⟩), rfl, h _ (I.hok.fresh (Nat.le_refl _))⟩⟩
/-- d[y] = v -/
def sNPut (P : Program) (w : World) (K : PySem.W.Frag) (td ty tv : TE) : TS := fun D σ H => tv σ H fun v H1 => td σ H1 fun x H2 => ty σ H2 fun y H3 => ∃ (a b : Addr) (xs : List En) (k : KN), x = .ref a ∧ y = .ref b ∧ H3 a = some (ND P w a xs) ∧ KeysOk K H3 xs ∧ NkT K H3 k b ∧ xs.length < sizeLine ∧
  D.nx σ (upd H3 a (ND P w a (putN xs k b v)))
theorem ps_nput (hu : X.A.units + 64 < cLine) (ho : PE X o td) (hi : PE X i ty) (hv : PE X value tv) (hs : swapsWith value (some (.Subscript o i pos')) pos.line X.env = pure false) :
    PS X (.Assign [.Subscript o i pos'] value pos) (sNPut X.prog X.w X.K td ty tv) := by
  refine ⟨fun pins s σ H D I h => ?_⟩
  refine wpAny_Assign_Subscript (thn (hv.run pins s σ H _ I h) fun r s1 ⟨v, H1, I1, rv, q1⟩ => thn (ho.run pins s1 σ H1 _ I1 q1) fun u s2 ⟨x, H2, I2, rx, q2⟩ => thn (hi.run pins s2 σ H2 _ I2 q2) fun iv s3 ⟨y, H3, I3, ry, a, b, xs, k, ex, ey, hd, hk, hb, hl, q3⟩ => ?_) hs
  subst ex ey
  obtain rfl : u = Value.ref a := rx
  obtain rfl : iv = Value.ref b := ry
  obtain ⟨h1, h2, ys, h3, hm⟩ := nd_rd I3 (.inl hd) hk
  have hz : ys.length ≤ sizeLine := by
    have := Paired.length h3
    omega
  refine wpAny_setItem_heap (hsz := hz) (show X.A.units + 1 + 8 < cLine by omega) (key_is I3 hb) hm fun h' dd' hsb => ⟨σ, _, ?_, q3⟩
  obtain ⟨q, es, ep, g1, g2, g3, g4, _, g5⟩ := dd'
  refine d_write I3 (by rw [hd]; exact True.intro) hsb ⟨q, g1⟩ (nd_ok ⟨?_, h1, _, rel_put h3 rv, q, es, ep, g1, g2, g3, g4, g5⟩)
  have := len_put xs k b v
  omega
/-- d[y] -/
def tNGet (P : Program) (w : World) (K : PySem.W.Frag) (td ty : TE) : TE := fun σ H Q => td σ H fun x H1 => ty σ H1 fun y H2 => ∃ (a b : Addr) (xs : List En) (k : KN) (p : Addr × V), x = .ref a ∧ y = .ref b ∧ Rd H2 a (ND P w a xs) ∧ KeysOk K H2 xs ∧ NkT K H2 k b ∧ atN xs k = some p ∧ Q p.2 H2
theorem pe_nget (hu : X.A.units + 64 < cLine) (ho : PE X o td) (hi : PE X i ty) (hs : NoSl i) : PE X (.Subscript o i pos) (tNGet X.prog X.w X.K td ty) := by
  refine ⟨fun pins s σ H Q I h => ?_⟩
  refine subD_of PySem.F.slot_dict_getitem.lookup hs (thn (ho.run pins s σ H _ I h) fun u s1 ⟨x, H1, I1, rx, q1⟩ => thn (hi.run pins s1 σ H1 _ I1 q1) fun iv s2 ⟨y, H2, I2, ry, a, b, xs, k, p, ex, ey, hd, hk, hb, hat, q2⟩ => ?_)
  subst ex ey
  obtain rfl : u = Value.ref a := rx
  obtain rfl : iv = Value.ref b := ry
  obtain ⟨h1, h2, ys, h3, hm⟩ := nd_rd I2 hd hk
  rcases rel_at h3 k with ⟨z, _⟩ | ⟨p', q', e1, e2, e3, e4⟩
  · rw [hat] at z
    cases z
  · rw [hat] at e1
    cases e1
    exact ⟨hm.typeIs, wpAny_getItem_heap (show X.A.units + 1 + 8 < cLine by omega) (key_is I2 hb) hm e2 ⟨p.2, H2, I2.tok _, e4, q2⟩⟩
end
end ND
namespace ND
open PySem PySem.Spec PyProof.Rows L2
section
variable {X : Cx} {pins : List (Addr × Obj)} {σ : L2.St} {H : Hp} {s : Shared} {d : Addr} {o : Obj} {xs : List En}
theorem frzN (I : Inv X pins σ H s) (h : H d = some (.frz o (ND X.prog X.w d xs))) :
    (d == sysModules) = false ∧ s.heap.get? d = some o ∧ o.ExactDict ∧ xs.length ≤ sizeLine ∧ ∃ (es : Array DictEntry) (ep : Nat), o.data = .dict es ep ∧ es.size = xs.length ∧
      ∀ (i : Nat) (e : En), xs[i]? = some e → ∃ en : DictEntry, es[i]? = some en ∧ en.key = .ref e.2.1 := by
  obtain ⟨hd, ⟨hz, hs, ys, pr, o', es, ep, ho, hx, hdt, he, _⟩, _⟩ := I.hok d _ h
  rw [hd] at ho
  cases ho
  refine ⟨hs, hd, hx, hz, es, ep, hdt, ?_, fun i e hi => ?_⟩
  · have l1 : es.size = ys.length := by
      have := congrArg List.length he
      rw [List.length_map, Array.length_toList] at this
      exact this
    have l2 : xs.length = ys.length := Paired.length pr
    omega
  · obtain ⟨y, hy, e1, e2, _⟩ := paired_get pr hi
    have q := entry_at he i
    rw [hy] at q
    exact ⟨_, q, congrArg Value.ref e2.symm⟩
end
def Itn (P : Program) (w : World) (d : Addr) (o : Obj) (xs : List En) : It :=
  ⟨fun i H => H d = some (.frz o (ND P w d xs)) ∧ i < xs.length, fun i H x H' => H' = H ∧ ∃ e : En, xs[i]? = some e ∧ x = .ref e.2.1, fun i H => H d = some (.frz o (ND P w d xs)) ∧ xs.length ≤ i⟩
section
variable {P : Program} {w : World} {K : PySem.W.Frag} {tg : Expr} {d : Addr} {o : Obj} {es : Array DictEntry} {ep : Nat} {xs : List En}
theorem turn_n (it : Addr) (hod : o.data = .dict es ep) : Turn P w K tg (Itn P w d o xs) [it] it (fun i h => h.IsKeyIter it d i xs.length ep) where
  mem := by simp
  obj := fun i h st b hb => by
    have e : b = it := by simpa using hb
    subst e
    obtain ⟨oi, e, c, dd⟩ := st
    exact ⟨oi, e, fun v z => by rw [dd] at z; cases z⟩
  keep := fun i h h' st k => st.at fun oi e => k it (by simp) oi e
  item := by
    intro X hP hw hK hc i pins s σ H E I hf st hg
    subst hP hw hK
    obtain ⟨hd, hi⟩ := hg
    obtain ⟨f0, f1, f2, f3, f4, f5⟩ := hf it (by simp)
    obtain ⟨hs, hgd, hx, hz, es', ep', hdt, hsz, ent⟩ := frzN I hd
    obtain ⟨rfl, rfl⟩ := dict_ep hod hdt
    obtain ⟨e, he⟩ : ∃ p, xs[i]? = some p := ⟨xs[i], List.getElem?_eq_getElem hi⟩
    obtain ⟨en, hen, hkey⟩ := ent i e he
    refine next_key_item st hgd hdt hsz hen fun h' st' sb => ?_
    have I1 : Inv X pins σ H { s with heap := h' } := I.turned (t' := s.toks) (fun b ob hb e => (sb.2 b hb).trans e) f0 f1 f3 f4 f5
    obtain ⟨oi, eo, c, dd⟩ := id st'
    exact ⟨en.key, rfl, go_of (s := { s with heap := h' }) eo c dd (by decide) ⟨.ref e.2.1, H, I1, hkey, ⟨rfl, e, he, rfl⟩, st', fun b hb => (hf b hb).1⟩⟩
  done := by
    intro X hP hw hK hc i pins s σ H E I hf st hg
    subst hP hw hK
    obtain ⟨hd, hi⟩ := hg
    obtain ⟨f0, f1, f2, f3, f4, f5⟩ := hf it (by simp)
    obtain ⟨hs, hgd, hx, hz, es', ep', hdt, hsz, ent⟩ := frzN I hd
    obtain ⟨rfl, rfl⟩ := dict_ep hod hdt
    exact next_key_end (I.ok.hd hc) st hgd hdt hsz hi fun h' eb => ⟨rfl, I.turned (t' := s.toks) (fun b ob hb e => eb b ob hb e) f0 f1 f3 f4 f5⟩
  self := fun A i s Q E st h => by
    refine wpAny_pyIter_slot st.typeIs F.slot_dict_keyiterator_iter (wpAny_call_entry F.slot_dict_keyiterator_iter st.typeIs F.entry_dict_keyiterator_iter ?_ (F.args_dict_keyiterator_iter_1 _))
    show wpAny _ _ (ret (.ref it)) _ _ s
    exact wpAny_pure ⟨_, rfl, "dict_keyiterator", _, st.typeIs, F.slot_dict_keyiterator_next.lookup, h⟩
end
/-- for key in d: the dict locked -/
def iKeysN (P : Program) (w : World) (td : TE) : TI := fun σ H R => td σ H fun x H1 => ∃ d o xs, x = .ref d ∧ H1 d = some (.frz o (ND P w d xs)) ∧ R (Itn P w d o xs) H1
theorem pi_keysN {X : Cx} {tg e : Expr} {td : TE} (he : PE X e td) : PI X tg e (iKeysN X.prog X.w td) := by
  refine ⟨fun pins s σ H R I h => ?_⟩
  refine thn (he.run pins s σ H _ I h) fun u s1 ⟨x, H1, I1, rx, d, o, xs, ex, hd, q⟩ => ?_
  subst ex
  obtain rfl : u = Value.ref d := rx
  obtain ⟨hs, hgd, hx, hz, es, ep, hdt, hsz, ent⟩ := frzN I1 hd
  refine iter_keys hs hgd hx hdt (pi_one (tk := s1.toks) I1 _ (turn_n _ hdt) ⟨_, Heap.get?_push_size _ rfl, rfl, ?_⟩ q)
  rw [hsz] <;> rfl
theorem walk_keysN {P : Program} {w : World} {d : Addr} {o : Obj} {xs : List En} : Walk (Itn P w d o xs) xs.length (fun H => H d = some (.frz o (ND P w d xs))) (fun i H x H' => H' = H ∧ ∃ e : En, xs[i]? = some e ∧ x = .ref e.2.1) :=
  ⟨fun _ _ hi q => ⟨q, hi⟩, fun _ q => ⟨q, Nat.le_refl _⟩, fun _ _ _ _ _ _ y => y⟩
end ND
namespace ND
open PySem PySem.Spec PyProof.Rows L2
/-- over the keys -/
theorem lc_keysN {P : Program} {w : World} {d : Addr} {o : Obj} {xs : List En} {g : TG} {tt : TT} {te : TE} {vs : List Nat} {σ : L2.St} {H1 : Hp} {D : Addr} {Qd : Hp → Prop} (Pv : Nat → Hp → Prop) (h0 : Pv 0 (upd H1 D (.lst []))) (hl : ∀ i H, i ≤ xs.length → Pv i H → H d = some (.frz o (ND P w d xs)))
    (hs : ∀ (i : Nat) (e : En) H, xs[i]? = some e → Pv i H → g (.ref e.2.1) (wipe σ vs) H fun σ2 H2 => wipe σ2 vs = wipe σ vs ∧ tt σ2 H2 fun b H3 =>
      if b = true then te σ2 H3 fun y H4 => ∃ acc, H4 D = some (.lst acc) ∧ acc.length < sizeLine ∧ Pv (i + 1) (upd H4 D (.lst (acc ++ [y]))) else Pv (i + 1) H3) (hd : ∀ H, Pv xs.length H → Qd H) :
    ∃ W : Nat → Nat → Hp → Prop, (∃ m, W 0 m (upd H1 D (.lst []))) ∧ ∀ i m H, W i m H →
      ((Itn P w d o xs).stop i H ∧ Qd H) ∨ ((Itn P w d o xs).go i H ∧ ∃ Nx : Hp → Prop, (∀ H', Nx H' → ∃ m', m' < m ∧ W (i + 1) m' H') ∧ ∀ x H', (Itn P w d o xs).yld i H x H' → g x (wipe σ vs) H' fun σ2 H2 => wipe σ2 vs = wipe σ vs ∧ tt σ2 H2 fun b H3 =>
        if b = true then te σ2 H3 fun y H4 => ∃ acc, H4 D = some (.lst acc) ∧ acc.length < sizeLine ∧ Nx (upd H4 D (.lst (acc ++ [y]))) else Nx H3) := by
  refine ⟨fun i m H => m = xs.length - i ∧ i ≤ xs.length ∧ Pv i H, ⟨xs.length, by simp, Nat.zero_le _, h0⟩, ?_⟩
  rintro i m H ⟨rfl, hi, p⟩
  have q := hl i H hi p
  by_cases hlt : i < xs.length
  · refine .inr ⟨⟨q, hlt⟩, Pv (i + 1), fun H' p' => ⟨xs.length - (i + 1), by omega, rfl, hlt, p'⟩, fun x H' y => ?_⟩
    obtain ⟨e, z, hz, rfl⟩ := y
    subst e
    exact hs i z _ hz p
  · have e : i = xs.length := by omega
    subst e
    exact .inl ⟨⟨q, Nat.le_refl _⟩, hd H p⟩
def encN (e : En) : PyData := .tuple [.tuple (e.1.1.map .str), .int e.1.2]
theorem alike_strs : ∀ xs ys : List Str, PySem.W.alikeAll (xs.map .str) (ys.map .str) = true
  | [], _ => by simp [PySem.W.alikeAll]
  | _ :: _, [] => by simp [PySem.W.alikeAll]
  | x :: xs, y :: ys => by
    show PySem.W.alikeAll (.str x :: xs.map .str) (.str y :: ys.map .str) = true
    rw [PySem.W.alikeAll, alike_strs xs ys]
    simp [PySem.W.alike]
theorem depth_strs : ∀ xs : List Str, PyData.depthAll (xs.map .str) = 0
  | [] => by simp [PyData.depthAll]
  | x :: xs => by
    show PyData.depthAll (.str x :: xs.map .str) = 0
    rw [PyData.depthAll, depth_strs xs]
    simp [PyData.depth]
theorem alike_n (a b : En) : PySem.W.alike (encN a) (encN b) = true := by
  unfold encN
  simp [PySem.W.alike, PySem.W.alikeAll, alike_strs]
theorem depth_n (a : En) : (encN a).depth ≤ 2 := by
  unfold encN
  simp [PyData.depth, PyData.depthAll, depth_strs]
theorem reads_strs {h : Heap} : ∀ {ss : List Str} {us : List Value}, Vals (ss.map V.str) us → ReadsAll h us (ss.map .str) []
  | [], _, .nil => .nil
  | s :: r, _, .cons e t => by
    obtain ⟨tk, rfl⟩ := e
    exact .cons (.str s tk) (reads_strs t)
section
variable {X : Cx} {pins : List (Addr × Obj)} {σ : L2.St} {H : Hp} {s : Shared} {xs : List En}
theorem key_reads {e : En} (I : Inv X pins σ H s) (h : NkT X.K H e.1 e.2.1) : Reads s.heap (.ref e.2.1) (encN e) [] := by
  obtain ⟨b, h1, h2⟩ := h
  obtain ⟨its, rv, ⟨o, e1, e2, n, e3⟩, _⟩ := I.tuple h1
  obtain ⟨its2, rv2, ⟨o2, f1, f2, n2, f3⟩, _⟩ := I.tuple h2
  obtain ⟨u1, u2, rfl, r1, r2⟩ := Vals.two rv
  obtain rfl : u1 = Value.ref b := r1
  obtain ⟨t, rfl⟩ := r2
  exact .tuple e1 e2 e3 (.cons (as := []) (bs := []) (.tuple f1 f2 f3 (reads_strs rv2)) (.cons (as := []) (bs := []) (.int _ _) .nil))
theorem each_at {R : Value → En → Prop} : ∀ {us : List Value} {xs : List En}, us.length = xs.length → (∀ (i : Nat) (u : Value), us[i]? = some u → ∃ e, xs[i]? = some e ∧ R u e) → PySem.W.EachIs R us xs
  | [], [], _, _ => .nil
  | u :: us, x :: xs, hl, h => by
    obtain ⟨e, e1, e2⟩ := h 0 u rfl
    obtain rfl : x = e := Option.some.inj e1
    exact .cons e2 (each_at (by simpa using hl) fun i v hv => by
      obtain ⟨e, a, b⟩ := h (i + 1) v (by simpa using hv)
      exact ⟨e, by simpa using a, b⟩)
  | [], _ :: _, hl, _ => by simp at hl
  | _ :: _, [], hl, _ => by simp at hl
theorem each_refs {us : List Value} {xs : List En} (e : PySem.W.EachIs (fun v (b : En) => v = Value.ref b.2.1) us xs) : Vals (xs.map fun b => V.ref b.2.1) us := by
  induction e with
  | nil => exact .nil
  | cons h t ih => exact .cons h ih
/-- sorted(d) -/
theorem cr_sortedN (hcalm : X.calm = true) (hu : X.A.units + 64 < cLine) : CallR X (.builtin "sorted") (fun vs H Q => ∃ (a : Addr) (xs : List En), vs = [V.ref a] ∧ Rd H a (ND X.prog X.w a xs) ∧ KeysOk X.K H xs ∧
    ∀ (ys : List En) p, ys.Perm xs → H p = none → Q (.ref p) (upd H p (.lst (ys.map fun e => V.ref e.2.1)))) := by
  intro pins s σ H vs us Q I r q
  obtain ⟨a, xs, rfl, hd, hk, q⟩ := q
  rw [Vals.ref1 r]
  obtain ⟨lo, hz, ys, rel, hm⟩ := nd_rd I hd hk
  obtain ⟨es, ep, hraw, hsz, hent⟩ := hm.raw
  have hl : xs.length = ys.length := Paired.length rel
  refine Calls.call_function_entry PyProof.Rows.kind_sorted PyProof.Rows.plain_sorted PyProof.Rows.entry_sorted (PyProof.Rows.args_sorted1 _) ?_
  unfold Builtin.«sorted»
  refine wpAny_bind (m := checkCount "sorted" 1 1 _) (wpAny_pure ?_)
  refine wpAny_bind (PySem.W.kdu_collect (A := X.A.in1) (KdlSrc.rawDict lo) (I.ok.hd hcalm) hraw (by omega) fun h' tk acc hk' hacc => ?_)
  have I1 : Inv X pins σ H { s with heap := h', toks := tk } := I.kept hk'
  have hal : acc.toList.length = xs.length := by rw [Array.length_toList, hacc.1, hsz, hl]
  have hE : PySem.W.EachIs (fun v (b : En) => v = Value.ref b.2.1) acc.toList xs := each_at hal fun i u hiu => by
    obtain ⟨hi, e1⟩ := hacc.2 i u (by rw [← Array.getElem?_toList]; exact hiu)
    obtain ⟨y, g1, g2, _⟩ := hent i hi
    obtain ⟨x, hx⟩ : ∃ x, xs[i]? = some x := ⟨xs[i]'(by omega), List.getElem?_eq_getElem _⟩
    obtain ⟨y', g3, _, g4, _⟩ := paired_get rel hx
    rw [g1] at g3
    obtain rfl : y = y' := Option.some.inj g3
    exact ⟨x, hx, by rw [e1, g2, g4]⟩
  refine wpAny_bind (wpAny_newList ?_ (by rw [hal]; exact hz))
  have hoL : (h'.push (seqObj "list" acc.toList.toArray 0)).get? h'.objs.size = some (seqObj "list" acc.toList.toArray 0) := Heap.get?_push_size _ rfl
  show wpAny _ _ _ _ _ { s with heap := h'.push (seqObj "list" acc.toList.toArray 0), toks := tk }
  have hkp : ∀ b o, h'.get? b = some o → (h'.push (seqObj "list" acc.toList.toArray 0)).get? b = some o := fun b o e => Heap.get?_push_of_some _ e
  have I2 : Inv X pins σ H { s with heap := h'.push (seqObj "list" acc.toList.toArray 0), toks := tk } := I1.kept (t' := tk) hkp
  refine wpAny_bind (wpAny_holding (PySem.W.list_sort_data (s := { s with heap := h'.push (seqObj "list" acc.toList.toArray 0), toks := tk }) (bs := xs) (enc := encN) (R := fun v b => v = Value.ref b.2.1) hoL hE ?_ (PySem.W.AllAlike.of alike_n) (PySem.W.Sortable.tuples fun b => ⟨_, _, rfl⟩) hz (fun b _ => ?_) fun out ho1 ho2 => ?_))
  · have : ∀ {us : List Value} {zs : List En}, (∀ z ∈ zs, z ∈ xs) → PySem.W.EachIs (fun v (b : En) => v = Value.ref b.2.1) us zs → PySem.W.EachIs (fun v (b : En) => ∃ as, Reads (h'.push (seqObj "list" acc.toList.toArray 0)) v (encN b) as ∧ h'.objs.size ∉ as) us zs := fun {us zs} hz e => by
      induction e with
      | nil => exact .nil
      | cons h t ih =>
        refine .cons ?_ (ih fun z hz' => hz z (List.mem_cons_of_mem _ hz'))
        subst h
        exact ⟨[], key_reads I2 (hk _ (hz _ List.mem_cons_self)), List.not_mem_nil⟩
    exact this (fun z hz => hz) hE
  · show X.A.units + 1 + 1 + (encN b).depth < cLine
    have := depth_n b
    omega
  · obtain ⟨e', he'⟩ := PyProof.Rows.sortedHeap_at (vs := acc.toList) (out := out.toArray) hoL
    have hp : (xs.mergeSort (PySem.W.dataLe false encN)).Perm xs := List.mergeSort_perm _ _
    refine wpAny_pure ⟨_, rfl, .ref h'.objs.size, upd H h'.objs.size (.lst ((xs.mergeSort (PySem.W.dataLe false encN)).map fun e => V.ref e.2.1)), I1.laid (t' := tk) (fun b u e => ?_) (Nat.le_refl _)
      (show ObjOk X.prog X.w _ _ _ (.lst _) from ⟨?_, out, e', each_refs ho2, he'⟩), rfl, q _ _ hp (I1.hok.fresh (Nat.le_refl _))⟩
    · have hb : b < h'.objs.size := Heap.lt_size e
      rw [PyProof.Rows.sortedHeap_old (Nat.ne_of_lt hb) (by rw [size_push']; exact Nat.lt_succ_of_lt hb)]
      exact Heap.get?_push_of_some _ e
    · rw [List.length_map, hp.length_eq]
      exact hz
end
end ND
namespace ND
open PySem PySem.Spec PyProof.Rows L2
theorem pe_ngetK {X : Cx} {P : Program} {w : World} {K : PySem.W.Frag} {o i : Expr} {pos : Pos} {td ty : TE} (hP : X.prog = P) (hw : X.w = w) (hK : X.K = K) (hu : X.A.units + 64 < cLine) (ho : PE X o td) (hi : PE X i ty) (hs : NoSl i) : PE X (.Subscript o i pos) (tNGet P w K td ty) := by
  subst hP hw hK
  exact pe_nget hu ho hi hs
section
variable {X : Cx} {P : Program} {w : World} {K : PySem.W.Frag}
theorem pe_nnewK {pos : Pos} (hP : X.prog = P) (hw : X.w = w) : PE X (.Dict [] [] pos) (tNNew P w) := by
  subst hP hw
  exact pe_nnew
theorem ps_nputK {o i value : Expr} {pos pos' : Pos} {td ty tv : TE} (hP : X.prog = P) (hw : X.w = w) (hK : X.K = K) (hu : X.A.units + 64 < cLine) (ho : PE X o td) (hi : PE X i ty) (hv : PE X value tv) (hs : swapsWith value (some (.Subscript o i pos')) pos.line X.env = pure false) :
    PS X (.Assign [.Subscript o i pos'] value pos) (sNPut P w K td ty tv) := by
  subst hP hw hK
  exact ps_nput hu ho hi hv hs
theorem pi_keysNK {tg e : Expr} {td : TE} (hP : X.prog = P) (hw : X.w = w) (he : PE X e td) : PI X tg e (iKeysN P w td) := by
  subst hP hw
  exact pi_keysN he
theorem cr_sortedNK (hP : X.prog = P) (hw : X.w = w) (hK : X.K = K) (hcalm : X.calm = true) (hu : X.A.units + 64 < cLine) : CallR X (.builtin "sorted") (fun vs H Q => ∃ (a : Addr) (xs : List En), vs = [V.ref a] ∧ Rd H a (ND P w a xs) ∧ KeysOk K H xs ∧
    ∀ (ys : List En) p, ys.Perm xs → H p = none → Q (.ref p) (upd H p (.lst (ys.map fun e => V.ref e.2.1)))) := by
  subst hP hw hK
  exact cr_sortedN hcalm hu
end
end ND
/-! ### t[::-1] of a tuple; list(d.values()) -/
namespace RV
open PySem PySem.Spec PyProof.Rows L2
theorem rev_pick {α : Type} (l : List α) : (List.range l.length).filterMap (fun m => l[l.length - 1 - m]?) = l.reverse := by
  apply List.ext_getElem?
  intro i
  have key : ∀ (n : Nat), n ≤ l.length → ∀ i, ((List.range n).filterMap (fun m => l[l.length - 1 - m]?))[i]? = if i < n then l[l.length - 1 - i]? else none := by
    intro n
    induction n with
    | zero => intro _ i; simp
    | succ n ih =>
      intro hn i
      have hs : l[l.length - 1 - n]? = some (l[l.length - 1 - n]'(by omega)) := List.getElem?_eq_getElem _
      have hlen : ((List.range n).filterMap (fun m => l[l.length - 1 - m]?)).length = n := by
        have h0 : ∀ j, j < n → ((List.range n).filterMap (fun m => l[l.length - 1 - m]?))[j]? ≠ none := fun j hj => by
          rw [ih (by omega) j, if_pos hj]
          rw [List.getElem?_eq_getElem (by omega)]
          exact fun e => by cases e
        have h2 : ((List.range n).filterMap (fun m => l[l.length - 1 - m]?))[n]? = none := by
          rw [ih (by omega) n, if_neg (Nat.lt_irrefl _)]
        have h3 := List.getElem?_eq_none_iff.mp h2
        rcases Nat.lt_or_ge ((List.range n).filterMap (fun m => l[l.length - 1 - m]?)).length n with h4 | h4
        · exact absurd (List.getElem?_eq_none_iff.mpr (Nat.le_refl _)) (h0 _ h4)
        · omega
      rw [List.range_succ, List.filterMap_append]
      by_cases h : i < n
      · rw [List.getElem?_append_left (by omega), ih (by omega), if_pos h, if_pos (by omega)]
      · rw [List.getElem?_append_right (by omega), hlen]
        simp only [List.filterMap_cons, List.filterMap_nil, hs]
        by_cases h2 : i = n
        · subst h2
          rw [Nat.sub_self, if_pos (Nat.lt_succ_self _), hs]
          rfl
        · rw [if_neg (by omega), show i - n = (i - n - 1) + 1 by omega]
          rfl
  rw [key _ (Nat.le_refl _)]
  by_cases h : i < l.length
  · rw [if_pos h, List.getElem?_reverse h]
  · rw [if_neg h, List.getElem?_eq_none (by rw [List.length_reverse]; omega)]
section
variable {prog : Program} {w : World} {A : Around} {E : Value → Shared → Prop} {s : Shared}
theorem getItem_tuple_rev {t sl : Addr} {items : Array Value} {vs : Value} {Q : Value → Shared → Prop} (ht : IsTup s.heap t items) (hs : s.heap.IsSliceOf sl .none .none vs) (ps : IsPart vs (some (-1)))
    (h : Q (.ref s.heap.objs.size) { s with heap := s.heap.push { cls := .type "tuple", data := .seq items.toList.reverse.toArray } })
    (hsz : items.size ≤ sizeLine) : wpAny (model prog w) A (getItem (.ref t) (.ref sl)) Q E s := by
  have htake : sizeOk (.seq items.toList.reverse.toArray) := by
    show items.toList.reverse.toArray.size ≤ sizeLine
    rw [List.size_toArray, List.length_reverse, Array.length_toList]
    exact hsz
  obtain ⟨os, hos, hcs, hds⟩ := id hs
  have hTs : s.TypeIs (.ref sl) "slice" := ⟨os, hos, hcs⟩
  unfold getItem
  try with_reducible refine wpAny_holding ?_
  first | refine wpAny_bind (wpAny_pure ?_) | skip
  refine wpAny_bind (wpAny_sequenceKey ht.typeIs (by decide) ?_)
  refine wpAny_bind (wpAny_callSpecial?_slot (name := Str.ofString "__getitem__") ht.typeIs PyProof.Rows.slot_tuple_getitem
    (wpAny_call_entry PyProof.Rows.slot_tuple_getitem ht.typeIs entry_tuple_getitem ?_ (args_tuple_getitem _ _)))
  show wpAny _ _ (Builtin.Tuple.tupleItemsOf (.ref t) >>= _) _ _ s
  refine wpAny_bind (tupleItemsOf_ ht ?_)
  refine wpAny_bind (wpAny_typeOf hTs ?_)
  rw [if_pos (by decide)]
  have ap : ∀ {A' : Around} {E' : Value → Shared → Prop} {Q' : Int × Int × Nat → Shared → Prop}, Q' ((items.size : Int) - 1, -1, items.size) s → wpAny (model prog w) A' (Builtin.Slice.sliceApplied (.ref sl) (pure (items.size : Int))) Q' E' s := fun {A' E' Q'} hQ => by
    unfold Builtin.Slice.sliceApplied Builtin.Slice.sliceFields
    refine wpAny_bind (wpAny_bind (wpAny_field hos hds (x := .none) rfl (wpAny_bind (wpAny_field hos hds (x := .none) rfl (wpAny_bind (wpAny_field hos hds (x := vs) rfl (wpAny_pure ?_)))))))
    refine wpAny_bind (HT.slicePart_ ps ?_)
    show wpAny _ _ (if ((-1 : Int) == 0) = true then _ else _) _ _ s
    rw [if_neg (by decide)]
    refine wpAny_bind (slicePart_none (wpAny_bind (slicePart_none (wpAny_bind (wpAny_pure ?_)))))
    show wpAny _ _ (match Builtin.Slice.sliceAdjust none none (-1) (items.size : Int) with | (lo, hi) => pure (lo, (-1 : Int), Builtin.Slice.slicePlaces lo hi (-1))) _ _ s
    have e1 : Builtin.Slice.sliceAdjust none none (-1) (items.size : Int) = ((items.size : Int) - 1, -1) := rfl
    rw [e1]
    show wpAny _ _ (pure ((items.size : Int) - 1, (-1 : Int), Builtin.Slice.slicePlaces ((items.size : Int) - 1) (-1) (-1))) _ _ s
    have e2 : Builtin.Slice.slicePlaces ((items.size : Int) - 1) (-1) (-1) = items.size := by
      unfold Builtin.Slice.slicePlaces
      rw [if_neg (by decide)]
      show (if (items.size : Int) - 1 > -1 then ((items.size : Int) - 1 - -1 - 1) / 1 + 1 else 0).toNat = items.size
      rw [Int.ediv_one]
      split <;> omega
    rw [e2]
    exact wpAny_pure hQ
  refine wpAny_bind (ap ?_)
  have hno : ¬ ((((items.size : Int) - 1) == 0 && (-1 : Int) == 1 && items.size == items.size) = true) := by simp
  show wpAny _ _ (if (((items.size : Int) - 1) == 0 && (-1 : Int) == 1 && items.size == items.size) = true then _ else _) _ _ s
  have pk : ((List.range items.size).filterMap fun (m : Nat) => items[(((items.size : Int) - 1) + (m : Int) * -1).toNat]?).toArray = items.toList.reverse.toArray := by
    rw [← rev_pick items.toList, Array.length_toList]
    congr 2
    funext m
    rw [Array.getElem?_toList]
    congr 1
    omega
  rw [if_neg hno, pk]
  first
    | exact wpAny_bind (m := Builtin.Tuple.tupleExact _) (wpAny_newObj_type (wpAny_pure ⟨_, rfl, wpAny_pure h⟩) htake)
    | exact wpAny_bind (m := Builtin.Tuple.tupleExact _) (wpAny_newObj_type (wpAny_bind (wpAny_pure (wpAny_pure ⟨_, rfl, wpAny_pure h⟩))) htake)
    | exact wpAny_bind (wpAny_bind (m := Builtin.Tuple.tupleExact _) (wpAny_newObj_type (wpAny_pure (wpAny_pure ⟨_, rfl, wpAny_pure h⟩)) htake))
    | exact wpAny_bind (wpAny_bind (m := Builtin.Tuple.tupleExact _) (wpAny_newObj_type (wpAny_pure ⟨_, rfl, wpAny_pure h⟩) htake))
end
section
variable {X : Cx}
def tRevT (K : PySem.W.Frag) (te : TE) : TE := fun σ H Q => te σ H fun x H1 => ∃ a xs, x = .ref a ∧ SqT K H1 a xs ∧ ∀ p, H1 p = none → Q (.ref p) (upd H1 p (.tup xs.reverse))
theorem pe_revT {e : Expr} {te : TE} {k : Nat} {p1 p2 p3 pos : Pos} (he : PE X e te) : PE X (.Subscript e (.Slice none none (some (.UnaryOp .USub (.Constant (.int 1) k p1) p2)) p3) pos) (tRevT X.K te) := by
  refine ⟨fun pins s σ H Q I h => ?_⟩
  refine Subscript_ (thn (he.run pins s σ H _ I h) fun v s1 ⟨x, H1, I1, r1, q1⟩ => ?_)
  obtain ⟨a, xs, ex, hx, q⟩ := q1
  subst ex
  cases r1
  have hst : PO X (some (.UnaryOp .USub (.Constant (.int 1) k p1) p2)) (tPart (tUn (rU fun i => .int (-i)) (tC (.int 1)))) := po_some (pe_un un_neg pe_int)
  refine wpAny_Slice (thn (po_none.run pins s1 σ H1 (fun o H2 => o = none ∧ H2 = H1) I1 ⟨rfl, rfl⟩) fun vl s2 ⟨l, H2, I2, pl, el, e2⟩ => ?_)
  subst el e2
  refine thn (po_none.run pins s2 σ H2 (fun o H3 => o = none ∧ H3 = H2) I2 ⟨rfl, rfl⟩) fun vu s3 ⟨u, H3, I3, pu, eu, e3⟩ => ?_
  subst eu e3
  refine thn (hst.run pins s3 σ H3 (fun o H4 => o = some (-1) ∧ H4 = H3) I3 ⟨1, rfl, -1, rfl, rfl, rfl⟩) fun vs s4 ⟨o, H4, I4, ps, eo, e4⟩ => ?_
  subst eo e4
  have evl : vl = .none := by cases pl; rfl
  have evu : vu = .none := by cases pu; rfl
  subst evl evu
  have I5 : Inv X pins σ H4 { s4 with heap := s4.heap.push { cls := .type "slice", data := .fields #[.none, .none, vs] } } := I4.kept (t' := s4.toks) fun b ob q => Heap.get?_push_of_some _ q
  obtain ⟨its, r, ht, hz⟩ := I5.tuple hx
  have hlen := r.length
  show wpAny (model X.prog X.w) X.A (subscriptTail e (.Slice none none (some (.UnaryOp .USub (.Constant (.int 1) k p1) p2)) p3) (.ref a) (.ref s4.heap.objs.size)) (EP X pins σ Q) X.xe { s4 with heap := s4.heap.push { cls := .type "slice", data := .fields #[.none, .none, vs] } }
  refine tail_any (ops := [.ref a, .ref s4.heap.objs.size]) ht.typeIs (PyProof.Rows.slot_tuple_getitem.lookup) ?_ (by with_unfolding_all rfl)
  refine getItem_tuple_rev ht (Heap.IsSliceOf.new _ .none .none vs) ps ?_ (by rw [List.size_toArray]; omega)
  refine ⟨.ref _, _, I5.laid (t' := s4.toks) (o := .tup xs.reverse) (fun b ob q => Heap.get?_push_of_some _ q) (Nat.le_refl _) ?_, rfl, q _ (I5.hok.fresh (Nat.le_refl _))⟩
  exact ⟨by rw [List.length_reverse]; exact hz, _, r.reverse, IsTup.new (s4.heap.push { cls := .type "slice", data := .fields #[.none, .none, vs] }) _⟩
def tListVals (td : TE) : TE := fun σ H Q => td σ H fun x H1 => ∃ d kvs, x = .ref d ∧ Rd H1 d (.dK kvs) ∧ ∀ p, H1 p = none → Q (.ref p) (upd H1 p (.lst (kvs.map (·.2))))
theorem kv_vals {kvs : List (L2.Key × V)} {vs : List (L2.Key × Value)} (r : KV kvs vs) {us : List Value} (hl : us.length = vs.length) (h : ∀ (i : Nat) (u : Value), us[i]? = some u → ∃ k, vs[i]? = some (k, u)) : Vals (kvs.map (·.2)) us := by
  unfold KV at r
  induction r generalizing us with
  | nil =>
    cases us with
    | nil => exact .nil
    | cons u t => cases hl
  | @cons p q ps qs e t ih =>
    cases us with
    | nil => cases hl
    | cons u us =>
      obtain ⟨k, hk⟩ := h 0 u rfl
      obtain rfl : q = (k, u) := Option.some.inj hk
      exact .cons e.2 (ih (by simpa using hl) fun i v hv => by
        obtain ⟨k, hk⟩ := h (i + 1) v (by simpa using hv)
        exact ⟨k, by simpa using hk⟩)
theorem pe_listVals {p pos apos cpos : Pos} {e : Expr} {td : TE} (hc : X.calm = true) (hg : Gl X "list") (hm : X.mg "list" = none) (he : PE X e td) (hbase : attributeBase e "values" X.env (eval e X.env) = eval e X.env := by rfl) (hline : (apos.endLine == cpos.line) = true := by rfl)
    (na : starEach [.Call (.Attribute e "values" apos) [] [] cpos] X.env = (false, eval (.Call (.Attribute e "values" apos) [] [] cpos) X.env) :: starEach [] X.env := by rfl) :
    PE X (.Call (.Name "list" p) [.Call (.Attribute e "values" apos) [] [] cpos] [] pos) (tListVals td) := by
  refine ⟨fun pins s σ H Q I h => ?_⟩
  refine Call_ (ld_blt I hg hm boot_list (PyProof.Rows.callWith_type1 (args_cons ?_ na) na))
  refine wpAny_Call_method (T := "dict") (id := "dict.values") hbase rfl hline F.plainAttrs_dict F.slot_dict_values F.type_dict_values (thn (he.run pins s σ H _ I h) fun u s1 ⟨x, H1, I1, rx, d, kvs, ex, hd, q⟩ => ?_)
  subst ex
  obtain rfl : u = Value.ref d := rx
  obtain ⟨z, lo, vs, rel, dd⟩ := dk_rd I1.hok hd
  obtain ⟨ep, hat⟩ := dd.dictAt
  have hl : kvs.length = vs.length := Paired.length rel
  refine ⟨dd.typeIs, dd.mapOf.noDict, ?_⟩
  have I2 : Inv X pins σ H1 { s1 with heap := s1.heap.push { cls := .type "dict_values", data := .fields #[.ref d] } } := I1.kept (t' := s1.toks) fun b ob q => Heap.get?_push_of_some _ q
  show wpAny _ _ (callWith cpos (.builtin "dict.values") [.ref d] [] []) _ X.xe s1
  refine method_meetsIn F.slot_dict_values F.entry_dict_values rfl (PySem.evalArgs_none ⟨rfl, dd.typeIs, F.args_dict_values_1 _, _, meets_dict_values (mixKind X.prog X.w) d lo, ⟨vs, dd⟩, ?_⟩)
  refine args_nil ?_
  refine PySem.W.kdl_call (s := { s1 with heap := s1.heap.push { cls := .type "dict_values", data := .fields #[.ref d] } }) (PySem.W.kdl_values (knd := mixKind X.prog X.w) (kvs := vs) (ep := ep)) (I2.ok.hd hc) ⟨⟨_, Heap.get?_push_size _ rfl, rfl, rfl⟩, hat.push _⟩ (by rw [← hl]; exact z) fun h' tk acc c' hk hD hacc => ?_
  have hv : Vals (kvs.map (·.2)) acc.toList := kv_vals rel (by rw [Array.length_toList]; exact hacc.1) fun j v e => hacc.2 j v (by rw [← Array.getElem?_toList]; exact e)
  refine ⟨.ref _, upd H1 (s1.heap.push { cls := .type "dict_values", data := .fields #[.ref d] }).objs.size (.lst (kvs.map (·.2))), I2.laid (t' := tk) hk (Nat.le_refl _)
    (show ObjOk X.prog X.w _ _ _ (.lst (kvs.map (·.2))) from ⟨by rw [List.length_map]; exact z, acc.toList, c', hv, by rw [Array.toArray_toList]; exact hD⟩), rfl, q _ (I2.hok.fresh (Nat.le_refl _))⟩
end
end RV
/-! ### enumerate(t), sum(t) of a tuple -/
namespace EnT
open PySem PySem.Spec PyProof.Rows L2
theorem meets_new (l : Addr) (items : Array Value) (n : Nat) (dct : Option Addr) (sl : Array (Option Value)) :
    Meets (Builtin.«enumerate.__new__» ⟨[.type "enumerate", .ref l], []⟩) (fun _ R s => s.heap.get? l = some { cls := .type "tuple", dict := dct, data := .seq items n, slots := sl } ∧
      R (.ok (.ret (.ref (s.heap.push { cls := .type "tuple_iterator", data := .fields #[.ref l, .int 0 0] }).objs.size)))
        { s with heap := (s.heap.push { cls := .type "tuple_iterator", data := .fields #[.ref l, .int 0 0] }).push { cls := .type "enumerate", data := .fields #[.none, .bool false, .ref s.heap.objs.size, rawInt 0, .none, .none] } }) :=
  .of_wp fun prog w A R s h => by
    obtain ⟨hp, g, d, tk, os⟩ := s; obtain ⟨hl, h⟩ := h
    have hsub := sub_enumerate
    have hL : Heap.IsTuple (Shared.heap ⟨hp, g, d, tk, os⟩) l items := ⟨_, hl, rfl, n, rfl⟩
    wp_walk using AutoSeq1.wpAny_loadPart' hl
    refine wpAny_stack_any fun st => wpAny_pure ?_
    split
    · rename_i c _ _ _ _ _
      cases (c == Value.type "enumerate")
      · wp_walk using AutoSeq1.wpAny_loadPart' hl, wpAny_pyIter_tuple hL
        exact ⟨_, rfl, h⟩
      · wp_walk using AutoSeq1.wpAny_loadPart' hl, wpAny_pyIter_tuple hL
        exact ⟨_, rfl, h⟩
    · wp_walk using AutoSeq1.wpAny_loadPart' hl, wpAny_pyIter_tuple hL
      exact ⟨_, rfl, h⟩
section
variable {prog : Program} {w : World} {A : Around} {E : Value → Shared → Prop} {s : Shared}
theorem call_new {l : Addr} {items : Array Value} {Q : Value → Shared → Prop} (hL : s.heap.IsTuple l items)
    (h : ∀ h', IsEnum h' (s.heap.objs.size + 1) s.heap.objs.size 0 .none → h'.IsTupleIter s.heap.objs.size l 0 → h'.objs.size = s.heap.objs.size + 2 →
      (∀ b o, s.heap.get? b = some o → h'.get? b = some o) → Q (.ref (s.heap.objs.size + 1)) { s with heap := h' }) :
    wpAny (model prog w) A (call (.type "enumerate") [.ref l]) Q E s := by
  obtain ⟨⟨c, dct, dt, sl⟩, hl, hc, n, hd⟩ := hL
  replace hc : c = .type "tuple" := hc
  replace hd : dt = .seq items n := hd
  subst hc hd
  refine callType_new F.called_enumerate (by decide) (F.typeCall_enumerate_1 _) (F.newCall_enumerate_1 _) (fun obj => F.args_object_init_2 obj _) F.entry_enumerate_new
    (meets_new l items n dct sl) ⟨hl, ?_⟩
  have hz : (s.heap.push { cls := .type "tuple_iterator", data := .fields #[.ref l, .int 0 0] }).objs.size = s.heap.objs.size + 1 := Heap.size_push ..
  show _ ∧ _
  rw [hz]
  have he : IsEnum ((s.heap.push { cls := .type "tuple_iterator", data := .fields #[.ref l, .int 0 0] }).push
      { cls := .type "enumerate", data := .fields #[.none, .bool false, .ref s.heap.objs.size, rawInt 0, .none, .none] }) (s.heap.objs.size + 1) s.heap.objs.size 0 .none := by
    have := Heap.get?_push_size (s.heap.push { cls := .type "tuple_iterator", data := .fields #[.ref l, .int 0 0] })
      (o := { cls := .type "enumerate", data := .fields #[.none, .bool false, .ref s.heap.objs.size, rawInt 0, .none, .none] }) rfl
    rw [hz] at this; exact this
  refine ⟨⟨_, he, rfl⟩, h _ he ⟨_, Heap.get?_push_of_some _ (Heap.get?_push_size _ rfl), rfl, rfl⟩ (by rw [Heap.size_push, hz]) fun b o x => Heap.get?_push_of_some _ (Heap.get?_push_of_some _ x)⟩
end
/-- the tuple at a, each item in a new pair -/
def Itu (K : PySem.W.Frag) (a : Addr) : It :=
  ⟨fun i H => ∃ (xs : List V) (x : V), SqT K H a xs ∧ xs[i]? = some x, fun i H v H' => ∃ T x, v = .ref T ∧ H T = none ∧ H' = upd H T (.tup [.int (i : Nat), x]) ∧ ∀ xs, SqT K H a xs → xs[i]? = some x, fun i H => ∃ xs : List V, SqT K H a xs ∧ xs.length ≤ i⟩
theorem vals_inj {xs ys : List V} {its : List Value} (h1 : Vals xs its) (h2 : Vals ys its) : xs = ys := h1.inj h2
theorem turn_enumT {P : Program} {w : World} {K : PySem.W.Frag} {elts : List Expr} {kk : Nat} {tpos : Pos} (a e it : Addr) :
    Turn P w K (.Tuple elts kk tpos) (Itu K a) [e, it] e (fun i h => (∃ old, IsEnum h e it ((i : Nat) : Int) old) ∧ h.IsTupleIter it a i ∧ e ≠ it ∧ e ≠ a ∧ a ≠ it) where
  mem := by simp
  obj := fun i h st b hb => by
    obtain ⟨⟨old, he⟩, ⟨o, ho, hc, hd⟩, _⟩ := st
    have e' : b = e ∨ b = it := by simpa using hb
    rcases e' with z | z
    · rw [z]; exact ⟨_, he, fun v q => nomatch q⟩
    · rw [z]; exact ⟨o, ho, fun v q => by rw [hd] at q; cases q⟩
  keep := fun i h h' st k => let ⟨⟨old, he⟩, hi, hne⟩ := st; ⟨⟨old, k e (by simp) _ he⟩, hi.at fun o q => k it (by simp) o q, hne⟩
  item := by
    intro X hP hw hK hc i pins s σ H E I hf st hg
    subst hP hw hK
    obtain ⟨⟨old, he⟩, hit, hne, hea, hai⟩ := st
    obtain ⟨xs, x, hq, hx⟩ := hg
    obtain ⟨its, rv, hT0, hz⟩ := I.tuple hq
    obtain ⟨u, hu, ru⟩ := rv.get hx
    have hel : e < s.heap.objs.size := Heap.lt_size he
    have hil : it < s.heap.objs.size := by obtain ⟨_, q, _⟩ := hit; exact Heap.lt_size q
    have hlt : i < its.toArray.size := by rw [List.size_toArray]; exact (List.getElem?_eq_some_iff.mp hu).1
    refine wpAny_pyNext_enum_itemD (Draws.tuple (A := X.A.in1) (I.ok.hd hc) it a hai its.toArray) he ⟨hit, hT0⟩ hlt hne (by simp [hne, hea]) fun x' h' tk hP ho hs' hT hsz hk => ?_
    obtain rfl : x' = u := by
      have hP : its[i]? = some x' := by simpa using hP
      rw [hu] at hP
      exact (Option.some.inj hP).symm
    refine ⟨_, rfl, wpAny_letOwnedTupleGo_enum (s := { s with heap := h', toks := tk + 1 }) ho fun h'' he' sb => ?_⟩
    have hT2 : h''.get? s.heap.objs.size = some { cls := .type "tuple", data := .seq #[.int i tk, x'] } := (sb.2 _ (Nat.ne_of_gt hel)).trans hT
    have new : ObjOk X.prog X.w (upd H s.heap.objs.size (.tup [.int (i : Nat), x])) h'' s.heap.objs.size (.tup [.int (i : Nat), x]) :=
      ⟨by show 2 ≤ sizeLine; decide, [.int i tk, x'], .cons ⟨_, rfl⟩ (.cons ru .nil), ⟨_, hT2, rfl, _, rfl⟩⟩
    have I1 : Inv X pins σ (upd H s.heap.objs.size (.tup [.int (i : Nat), x])) { s with heap := h'', toks := tk + 1 } :=
      I.turnedNew (ch := [e, it]) (fun b ob hb q => (sb.2 b (fun z => hb (by simp [z]))).trans (hk b ob (fun z => hb (by simp [z])) (fun z => hb (by simp [z])) q)) hf (Nat.le_refl _) new
    refine ⟨.ref s.heap.objs.size, _, I1, rfl, ⟨_, x, rfl, I.hok.fresh (Nat.le_refl _), rfl, fun ys hy => ?_⟩, ⟨⟨x', ?_⟩, hs'.1.at fun o q => (sb.2 it (Ne.symm hne)).trans q, hne, hea, hai⟩, fun b hb => ?_⟩
    · obtain ⟨its2, rv2, ⟨o2, g2, c2, n2, d2⟩, _⟩ := I.tuple hy
      obtain ⟨o1, g1, c1, n1, d1⟩ := hT0
      rw [g1] at g2
      cases g2
      rw [d1] at d2
      cases d2
      rw [vals_inj rv2 rv]
      exact hx
    · have e1 : ((i + 1 : Nat) : Int) = (i : Int) + 1 := by omega
      rw [e1]; exact he'
    · have hb' : b < s.heap.objs.size := by
        have e' : b = e ∨ b = it := by simpa using hb
        rcases e' with z | z
        · rw [z]; exact hel
        · rw [z]; exact hil
      rw [upd_ne (Nat.ne_of_lt hb')]
      exact (hf b hb).1
  done := by
    intro X hP hw hK hc i pins s σ H E I hf st hg
    subst hP hw hK
    obtain ⟨⟨old, he⟩, hit, hne, hea, hai⟩ := st
    obtain ⟨xs, hq, hx⟩ := hg
    obtain ⟨its, rv, hT0, hz⟩ := I.tuple hq
    obtain ⟨f0, f1, f2, f3, f4, f5⟩ := hf it (by simp)
    have hl := rv.length
    have D : Draws X.prog X.w X.A.in1 it [it, a] 0 (fun _ _ => True) (fun _ h => h.IsTupleIter it a i ∧ h.IsTuple a its.toArray) :=
      { live := fun _ _ st => let ⟨o, ho, _⟩ := st.1; ⟨o, ho⟩
        frame := fun _ _ _ st hk => ⟨st.1.at fun o e => hk it (by simp) o e, st.2.at fun o e => hk a (by simp) o e⟩
        item := fun i s Q E hi => absurd hi (Nat.not_lt_zero _)
        done := fun s Q E st hE => wpAny_nextOf_tuple_end (I.ok.hd hc) st.1 st.2 (by simp; omega) hE }
    exact wpAny_pyNext_enum_endD D he ⟨hit, hT0⟩ fun h' eb => ⟨rfl, I.turned (t' := s.toks) (fun b o hb q => eb b o hb q) f0 f1 f3 f4 f5⟩
  self := fun A i s Q E st h => let ⟨⟨_, he⟩, _⟩ := st; wpAny_pyIter_enum he h
def iEnumT (K : PySem.W.Frag) (ta : TA) : TI := fun σ H R => ta σ H fun vs H1 => ∃ a xs, vs = [.ref a] ∧ SqT K H1 a xs ∧ R (Itu K a) H1
theorem pi_enumT {X : Cx} {e : Expr} {ta : TA} {p pos tpos : Pos} {elts : List Expr} {kk : Nat} (hg : Gl X "enumerate") (hm : X.mg "enumerate" = none) (ha : PA X [e] ta) (hs : starEach [e] X.env = [(false, eval e X.env)] := by rfl) :
    PI X (.Tuple elts kk tpos) (.Call (.Name "enumerate" p) [e] [] pos) (iEnumT X.K ta) := by
  refine ⟨fun pins s σ H R I h => ?_⟩
  refine Call_ (ld_blt I hg hm boot_enumerate (PyProof.Rows.callWith_type1 (thn (ha.run pos pins s σ H _ I h) fun us s1 ⟨vs, H1, I1, r1, q1⟩ => ?_) hs rfl))
  obtain ⟨a, xs, ex, hq, q⟩ := q1
  subst ex
  cases r1 with
  | cons r rr =>
    cases rr
    cases r
    obtain ⟨its, rv, hT, hz⟩ := I1.tuple hq
    have hlt : a < s1.heap.objs.size := by obtain ⟨_, q, _⟩ := _root_.id hT; exact Heap.lt_size q
    refine call_new hT fun h' he hit hsz hk => wpAny_pyIter_enum he ?_
    have I2 : Inv X pins σ H1 { s1 with heap := h' } := I1.kept (t' := s1.toks) hk
    refine ⟨s1.heap.objs.size + 1, [s1.heap.objs.size + 1, s1.heap.objs.size], _, _, H1, rfl, I2, turn_enumT a (s1.heap.objs.size + 1) s1.heap.objs.size, ⟨⟨.none, he⟩, hit, Nat.succ_ne_self _, Nat.ne_of_gt (Nat.lt_succ_of_lt hlt), Nat.ne_of_lt hlt⟩, fun b hb => ?_, q⟩
    have e' : b = s1.heap.objs.size + 1 ∨ b = s1.heap.objs.size := by simpa using hb
    have hle : s1.heap.objs.size ≤ b := by
      rcases e' with z | z
      · rw [z]; exact Nat.le_add_right _ _
      · rw [z]; exact Nat.le_refl _
    exact I1.fpOk hle (I1.hok.fresh hle)
theorem walk_enumT {K : PySem.W.Frag} {a : Addr} {xs : List V} : Walk (Itu K a) xs.length (fun H => SqT K H a xs) (YPair (fun i => some (.int (i : Nat))) (fun i => xs[i]?)) := by
  refine ⟨fun i _ hi q => ⟨xs, xs[i], q, by simp [hi]⟩, fun _ q => ⟨xs, q, Nat.le_refl _⟩, fun i H v H' _ q y => ?_⟩
  obtain ⟨T, x, h1, h2, h3, h4⟩ := y
  exact ⟨T, .int (i : Nat), x, h1, h2, h3, rfl, h4 xs q⟩
/-- sum(t) of a tuple of ints -/
def rSumT (K : PySem.W.Frag) : List V → Hp → VK → Prop := fun vs H Q => ∃ (a : Addr) (ns : List Int), vs = [V.ref a] ∧ SqT K H a (ns.map V.int) ∧ Q (.int ns.sum) H
theorem cr_sumT {X : Cx} (hc : X.calm = true) : CallR X (.builtin "sum") (rSumT X.K) := by
  intro pins s σ H vs us Q I r h
  obtain ⟨a, ns, rfl, hs, q⟩ := h
  obtain ⟨its, rv, hl, _⟩ := I.tuple hs
  rw [Vals.ref1 r]
  have hi := rv.ints
  obtain ⟨xs, hx⟩ := hi.allInts.items
  have hn : numsOf its.toArray.toList = ns := by rw [show its.toArray.toList = its from rfl, hi.numsOf]
  rw [hx] at hl hn
  rw [PySem.nums_intItems] at hn
  refine PySem.W.ktm_sumG (I.ok.hd hc) hl fun h' tk t' hk => ⟨.int _, H, I.kept hk, ⟨_, rfl⟩, ?_⟩
  rw [preSum_eq, List.take_of_length_le (by simp), hn]
  exact q
end EnT
/-! ### a generator expression whose elements are walked (calls, new tuples): tuple(e for t in it if c) -/
namespace GXW
open PySem PySem.Spec PyProof.Rows L2 GenW
/-- the scope of a generator expression: N its names, fr the free ones -/
structure GSc (N fr : List Str) (scope : Scope) : Prop where
  off : NdefX.NScope N [".0"] fr { scope with isGenerator := false }
theorem gsc_by {N fr : List Str} {sc : Scope} (h : NdefX.nscB N [".0"] fr { sc with isGenerator := false } = true) : GSc N fr sc := ⟨NdefX.nscope_by h⟩
theorem no_free {sc : Scope} {R : Str × NameKind → Prop} (h : (sc.names.all fun y => !decide (y.2 = .free)) = true) : ∀ y ∈ sc.names, y.2 = .free → R y := fun y hy e => by
  have := List.all_eq_true.mp h y hy
  rw [decide_eq_true e] at this
  cases this
def gx (P : Program) (w : World) (K : PySem.W.Frag) (mg : Str → Option Value) (base : Heap) (N : List Str) (cenv : Env) (A : Around) (outer : List Env) (s : Shared) (H : Hp) (fp : List Addr) (pn : List (Addr × Obj)) : Cx where
  prog := P
  w := w
  K := K
  mg := mg
  base := base
  A := A.deeper cenv
  N := N
  s_0 := s
  H_0 := H
  env := cenv
  outer := outer
  stack := cenv :: outer
  ex := fp
  calm := true
  fn := fun _ => false
  pn := pn
  xe := fun _ _ => False
theorem un_ex {fs ex : List Addr} {H H' : Hp} {h h' : Heap} (u : Un fs [] H H' h h') : Un fs ex H H' h h' :=
  ⟨fun b o e n hb _ => u.keep b o e n hb (by simp), fun b o e n hb _ => u.slot b o e n hb (by simp), fun b o e n _ => u.free b o e n (by simp), fun b o e _ => u.there b o e (by simp), u.tups, u.frzs, u.tbls⟩
theorem over_gen {A : Around} {elt iter tg : Expr} {ifs : List Expr} {scope : Scope} {pos : Pos} {it acc : Value} {env : Env} :
    A.over (.compLoop (.GeneratorExp elt [⟨tg, iter, ifs, 0⟩] scope pos) 0 it acc env) [] = A.deeper env := by
  first
    | rfl
    | (obtain ⟨hd, d, fr, gs, u⟩ := A; simp [Around.over, Around.deeper, marksOver, frameCount, unitsOf, envsOf, guardsOf, pushEnvs, pushGuards, Code.envs, Code.env?, Code.isFrame, Code.guards, Code.isGuard, Code.weight, Code.frames, Code.isCreation, Code.isCaller, Code.cUnits])
theorem over_gen0 {A : Around} {elt iter tg : Expr} {ifs : List Expr} {scope : Scope} {pos : Pos} {it acc : Value} {env : Env} :
    A.over (.compStart (.GeneratorExp elt [⟨tg, iter, ifs, 0⟩] scope pos) 0 it acc env) [] = A.deeper env := by
  first
    | rfl
    | (obtain ⟨hd, d, fr, gs, u⟩ := A; simp [Around.over, Around.deeper, marksOver, frameCount, unitsOf, envsOf, guardsOf, pushEnvs, pushGuards, Code.envs, Code.env?, Code.isFrame, Code.guards, Code.isGuard, Code.weight, Code.frames, Code.isCreation, Code.isCaller, Code.cUnits])
/-- its invariant: what is left of the reading (i: items taken, m: a measure, ys: handed out) -/
abbrev WG : Type := Nat → Nat → List V → L2.St → Hp → Prop
def Steps (J : It) (g : TG) (tt : TT) (te : TE) (W : WG) (cont : List V → Hp → Prop) : Prop := ∀ i m ys σ H, W i m ys σ H →
  (J.stop i H ∧ cont ys H) ∨ (J.go i H ∧ ∃ Nx : List V → L2.St → Hp → Prop, (∀ ys' σ' H', Nx ys' σ' H' → ∃ m', m' < m ∧ W (i + 1) m' ys' σ' H') ∧
    ∀ x H', J.yld i H x H' → g x σ H' fun σ2 H2 => tt σ2 H2 fun b H3 => if b = true then te σ2 H3 fun y H4 => ys.length < sizeLine ∧ Nx (ys ++ [y]) σ2 H4 else Nx ys σ2 H3)
section
variable {P : Program} {w : World} {K : PySem.W.Frag} {mg : Str → Option Value} {base : Heap} {N : List Str} {cenv : Env} {A : Around} {outer : List Env} {s0 : Shared} {H0 : Hp} {fp : List Addr} {pn : List (Addr × Obj)}
  {elt iter tg : Expr} {ifs : List Expr} {scope : Scope} {pos : Pos} {S it : Addr} {J : It} {tn : Nat → Heap → Prop} {g : TG} {tt : TT} {te : TE} {W : WG} {cont : List V → Hp → Prop}
/-- its turns -/
theorem seg_turns (T : Turn P w K tg J fp it tn) (hco : cenv.scope.isCoroutine = false) (hpn : ∀ p ∈ pn, p.1 ≠ S) (hfS : ∀ b ∈ fp, b ≠ S) (hA : Apart (gx P w K mg base N cenv A outer s0 H0 fp pn) S)
    (hst : ∀ {H : Hp} {acc : Array Value} {c : Nat}, (∀ b ∈ fp, H b = none) → ∀ b ∈ fp, FpOk (gx P w K mg base N cenv A outer s0 H0 fp pn) [(S, lstObj acc c)] H b)
    (hg : PG (gx P w K mg base N cenv A outer s0 H0 fp pn) tg g) (ht : PTs (gx P w K mg base N cenv A outer s0 H0 fp pn) ifs tt) (he : PE (gx P w K mg base N cenv A outer s0 H0 fp pn) elt te) (hS : Steps J g tt te W cont) :
    ∀ (m i n : Nat) (ys : List V) (s₀ s : Shared) (σ : L2.St) (H : Hp), n + ys.length = sizeLine → W i m ys σ H → GI (gx P w K mg base N cenv A outer s0 H0 fp pn) S [] ys σ H s → tn i s.heap → (∀ b ∈ fp, H b = none) →
      Seg (model P w) A (fun n s₀ r s1 => r = .ok .next ∧ ∃ ys σ H, n + ys.length = sizeLine ∧ GI (gx P w K mg base N cenv A outer s0 H0 fp pn) S [] ys σ H s1 ∧ cont ys H) (GY (gx P w K mg base N cenv A outer s0 H0 fp pn) S) n s₀
        (.compLoop (.GeneratorExp elt [⟨tg, iter, ifs, 0⟩] scope pos) 0 (.ref it) .none cenv) ((model P w).den (.compLoop (.GeneratorExp elt [⟨tg, iter, ifs, 0⟩] scope pos) 0 (.ref it) .none cenv)) [] s := by
  intro m
  induction m using Nat.strongRecOn with
  | ind m ih =>
    intro i n ys s₀ s σ H hn w1 hI st fr
    have hI0 := hI
    obtain ⟨acc, cc, r, I⟩ := hI
    show Seg _ A _ _ _ s₀ _ ((compTurn (.GeneratorExp elt [⟨tg, iter, ifs, 0⟩] scope pos) 0 (.ref it) .none cenv).onRaise (leaving cenv)) [] s
    rw [compTurn_gen, Sem.onRaise_eq_wrap]
    refine seg_bind_wrap (wpAny_standAt ?_)
    rcases hS i m ys σ H w1 with ⟨stop, qn⟩ | ⟨go, Nx, hN, step⟩
    · refine seg_bind_wrap ?_
      rw [over_gen]
      refine thn (T.done (gx P w K mg base N cenv A outer s0 H0 fp pn) rfl rfl rfl rfl i [(S, lstObj acc cc)] s σ H _ I (hst fr) st stop) fun r1 s4 ⟨hr, I4⟩ => ?_
      subst hr
      exact seg_end (.ok .next) ⟨rfl, ys, σ, H, hn, ⟨acc, cc, r, I4⟩, qn⟩
    · refine seg_bind_wrap ?_
      rw [over_gen]
      refine thn (T.item (gx P w K mg base N cenv A outer s0 H0 fp pn) rfl rfl rfl rfl i [(S, lstObj acc cc)] s σ H _ I (hst fr) st go) fun r1 s4 ⟨u, hr, h4⟩ => ?_
      subst hr
      refine seg_bind_wrap ?_
      rw [over_gen]
      refine thn h4 fun _ s5 ⟨x, H5, I5, r5, y5, st5, fr5⟩ => ?_
      have I5' := I5.pinned (hst fr5) (T.obj _ _ st5)
      refine seg_bind_wrap ?_
      rw [over_gen]
      refine wpAny_mono (hg.run _ s5 σ H5 x u _ I5' r5 (step x H5 y5)) (fun _ s6 ⟨σ6, H6, I6, q6⟩ => ?_) fun _ _ z => False.elim z
      refine seg_bind_wrap ?_
      rw [over_gen]
      refine wpAny_mono (ht.run _ s6 σ6 H6 _ I6 q6) (fun ok s7 h7 => ?_) fun _ _ z => False.elim z
      obtain ⟨H7, I7, q7⟩ := h7
      have keep : ∀ {σ8 : L2.St} {H8 : Hp} {s8 : Shared} {acc8 : Array Value} {c8 : Nat}, Inv (gx P w K mg base N cenv A outer s0 H0 fp pn) ([(S, lstObj acc8 c8)] ++ pinsAt fp s5.heap) σ8 H8 s8 → tn (i + 1) s8.heap ∧ ∀ b ∈ fp, H8 b = none := fun {σ8 H8 s8 acc8 c8} I8 => by
        refine ⟨T.keep _ _ _ st5 fun b hb o e => (I8.pin (b, o) (List.mem_append_right _ (List.mem_append_right _ (mem_pinsAt hb e)))).1, fun b hb => ?_⟩
        obtain ⟨o, e, d⟩ := T.obj _ _ st5 b hb
        exact (I8.pin (b, o) (List.mem_append_right _ (List.mem_append_right _ (mem_pinsAt hb e)))).2.1
      cases ok with
      | false =>
        rw [if_neg Bool.false_ne_true] at q7
        obtain ⟨m', hm, w7⟩ := hN ys σ6 H7 q7
        obtain ⟨k1, k2⟩ := keep I7
        exact seg_again rfl (ih m' hm (i + 1) n ys s₀ s7 σ6 H7 hn w7 ⟨acc, cc, r, I7.unpinned⟩ k1 k2)
      | true =>
        rw [if_pos rfl] at q7
        simp only [if_true]
        have hy : ∀ v, yieldOut cenv v = yieldValue v := fun v => by simp only [yieldOut, hco, Bool.false_eq_true, if_false]
        simp only [hy]
        rw [Sem.bind_eq_wrap', Sem.bind_eq_wrap', Sem.wrap_wrap, Sem.wrap_wrap]
        refine seg_wrap ?_
        rw [over_gen]
        refine wpAny_mono (he.run _ s7 σ6 H7 _ I7 q7) (fun v s8 h8 => ?_) fun _ _ z => False.elim z
        obtain ⟨y, H8, I8, ry, hlt, q8⟩ := h8
        obtain ⟨n', rfl⟩ : ∃ n', n = n' + 1 := ⟨n - 1, by omega⟩
        have hip : ∀ p ∈ pinsAt fp s5.heap, p.1 ≠ S := fun p hp => hfS _ (of_pinsAt hp).1
        have G8 : GI (gx P w K mg base N cenv A outer s0 H0 fp pn) S (pinsAt fp s5.heap) ys σ6 H8 s8 := ⟨acc, cc, r, I8⟩
        refine seg_at (seg_yield rfl rfl rfl ⟨ys, y, pinsAt fp s5.heap, σ6, H8, hn, ry, G8, fun s'' z => ?_⟩)
        obtain ⟨acc9, c9, r9, I9⟩ := G8.woken hpn hip hA ry z
        obtain ⟨m', hm, w8⟩ := hN _ σ6 H8 q8
        obtain ⟨k1, k2⟩ := keep I9
        refine seg_again rfl (ih m' hm (i + 1) n' (ys ++ [y]) s'' s'' σ6 H8 ?_ w8 ⟨acc9, c9, r9, Inv.unpinned (pins := [(S, lstObj acc9 c9)]) I9⟩ k1 k2)
        rw [List.length_append, List.length_singleton]
        omega
/-- its first step -/
theorem seg_first (T : Turn P w K tg J fp it tn) {R : GenEnd} {Y : Protocol} {n : Nat} {s₀ s : Shared} (st : tn 0 s.heap)
    (loop : Seg (model P w) A R Y n s₀ (.compLoop (.GeneratorExp elt [⟨tg, iter, ifs, 0⟩] scope pos) 0 (.ref it) .none cenv) ((model P w).den (.compLoop (.GeneratorExp elt [⟨tg, iter, ifs, 0⟩] scope pos) 0 (.ref it) .none cenv)) [] s) :
    Seg (model P w) A R Y n s₀ (.compStart (.GeneratorExp elt [⟨tg, iter, ifs, 0⟩] scope pos) 0 (.ref it) .none cenv) ((model P w).den (.compStart (.GeneratorExp elt [⟨tg, iter, ifs, 0⟩] scope pos) 0 (.ref it) .none cenv)) [] s := by
  show Seg _ A _ _ _ s₀ _ ((compStart (.GeneratorExp elt [⟨tg, iter, ifs, 0⟩] scope pos) 0 (.ref it) .none cenv).onRaise (leaving cenv)) [] s
  unfold compStart
  rw [Sem.onRaise_eq_wrap]
  show Seg _ A _ _ _ s₀ _ ((ask >>= _).wrap _ _ _ _) [] s
  refine seg_bind_wrap (wpAny_askSetting ?_)
  split
  · exact seg_again rfl loop
  · first
      | exact seg_bind_wrap (wpAny_rule (seg_bind_wrap (wpAny_standAt (seg_bind_wrap (T.self _ 0 s _ _ st (seg_again rfl loop))))))
      | (refine seg_bind_wrap (wpAny_rule ?_); show Seg _ A _ _ _ s₀ _ ((standAt iter.pos >>= _).wrap _ _ _ _) [] s; exact seg_bind_wrap (wpAny_standAt (seg_bind_wrap (T.self _ 0 s _ _ st (seg_again rfl loop)))))
/-- its entry -/
theorem inv_gx {fr : List Str} {cl : List (Str × Addr)} {ws : List (Option V)} {env : Env} {code : Value} {s s2 : Shared} {H : Hp} (S : GSc N fr scope) (hd : A.handled = none) (e0 : Env0 P w K mg base A outer s H) (C : NdefX.CellsAt cl fr ws s.heap H) (hG : env.globals = mainGlobals)
    (hfp : ∀ b ∈ fp, b ≠ s.heap.objs.size ∧ (∀ x c, cl.lookup x = some c → c ≠ b) ∧ b ∉ frs outer ∧ base.get? b = none) (hns : s2.heap.Ns s.heap.objs.size (fun y => if y = ".0" then some (.ref it) else none)) (kp : ∀ b o, s.heap.get? b = some o → s2.heap.get? b = some o) (os : s2.os = s.os) (hb : AllBare s2.gens) :
    Inv (gx P w K mg base N (genEnv scope cl s.heap.objs.size code builtinsNs env) A outer s H fp []) [] (NdefX.startF N [.ref it] ws) H s2 := by
  have e : (fun y : Str => ((([".0"] : List Str).zip [Value.ref it]).reverse.lookup y)) = fun y : Str => if y = (".0" : Str) then some (.ref it) else none := by
    funext y
    by_cases hy : y = ".0"
    · subst hy
      simp
    · have : (y == (".0" : Str)) = false := by simpa using hy
      simp [List.lookup, this, hy]
  have I0 := NdefX.inv_startN (CX := fun _ _ _ _ _ _ => False) (P := P) (w := w) (K := K) (mg := mg) (base := base) (N := N) (ps := [".0"]) (fr := fr) (F := ⟨"", "", { posonlyargs := [], args := [], vararg := none, kwonlyargs := [], kw_defaults := [], kwarg := none, defaults := [] }, [], { scope with isGenerator := false }, cl, 0⟩) (f := 0) (A := A) (outer := outer) (s := s) (H := H) (E := fun _ _ _ => False) (us := [.ref it]) (vs := [.ref it]) (ws := ws) (h₁ := s2.heap) (tk := s2.toks)
    S.off hd e0 rfl (.cons rfl .nil) C (by rw [e]; exact hns) kp
  exact ⟨⟨I0.ok.mod, S.off.kind, hG, rfl, Nat.le_refl _, C.inj, I0.ok.has, fun _ _ z _ => (nomatch (show false = true from z)), fun _ => hd, Around.frames_deeper e0.frames, .inr ⟨rfl, rfl⟩, fun b z => ⟨(hfp b z).1, (hfp b z).2.1⟩, e0.bs, e0.bsz, fun b o q z => (by
      have q : base.get? b = some o := q
      have := (hfp b z).2.2.2
      rw [q] at this
      cases this), fun b z => (hfp b z).2.2.1, e0.funs, e0.frf⟩,
    os, hb, un_ex I0.base, I0.loc, I0.cell, I0.free, I0.freeC, fun q hq => absurd (show q ∈ ([] : List (Addr × Obj)) ++ [] from hq) (by simp), I0.hok, I0.len⟩
theorem pin_gx {pins : List (Addr × Obj)} {σ : L2.St} {H : Hp} {s1 : Shared} (I : Inv (gx P w K mg base N cenv A outer s0 H0 fp []) [] σ H s1) (h : ∀ p ∈ pn ++ pins, s1.heap.get? p.1 = some p.2 ∧ H p.1 = none ∧ p.1 ≠ cenv.locals ∧ p.1 ∉ frs outer ∧ ∀ v, p.2.data ≠ .cell v) :
    Inv (gx P w K mg base N cenv A outer s0 H0 fp pn) pins σ H s1 :=
  ⟨⟨I.ok.mod, I.ok.kind, I.ok.glob, I.ok.blt, I.ok.above, I.ok.inj, I.ok.has, I.ok.cab, I.ok.hd, I.ok.frames, I.ok.stk, I.ok.exf, I.ok.bs, I.ok.bsz, I.ok.noex, I.ok.exfs, I.ok.funs, I.ok.frf⟩, I.os, I.bare, I.base, I.loc, I.cell, I.free, I.freeC, h, I.hok, I.len⟩
end
/-- the generator that such an expression makes -/
theorem gmade {X : Cx} {pins : List (Addr × Obj)} {σ : L2.St} {H : Hp} {s : Shared} {N fr : List Str} {js : List Nat} {fp : List Addr} {elt iter tg : Expr} {ifs : List Expr} {scope : Scope} {pos : Pos} {it : Addr} {J : It} {tn : Nat → Heap → Prop} {g : TG} {tt : TT} {te : TE} {cont : List V → Hp → Prop} {k : Nat} {code nm qn : Value} {h' : Heap} {tk : Nat}
    (I : Inv X pins σ H s) (S : GSc N fr scope) (C : NdefX.CellsAt (cloFrom X.env.cells scope.names []) fr (js.map (NdefX.slotAt σ)) s.heap H) (hsub : ∀ y c, (cloFrom X.env.cells scope.names []).lookup y = some c → X.env.cells.lookup y = some c)
    (T : Turn X.prog X.w X.K tg J fp it tn) (st : tn 0 s.heap) (f2 : ∀ b ∈ fp, FpOk X pins H b)
    (hns : h'.Ns s.heap.objs.size (fun y => if y = ".0" then some (.ref it) else none)) (kp : ∀ b o, s.heap.get? b = some o → h'.get? b = some o)
    (hg : ∀ (A : Around) (pn : List (Addr × Obj)), Room k (A.deeper (genEnv scope (cloFrom X.env.cells scope.names []) s.heap.objs.size code builtinsNs X.env)) → PG (gx X.prog X.w X.K X.mg X.base N (genEnv scope (cloFrom X.env.cells scope.names []) s.heap.objs.size code builtinsNs X.env) A X.stack s H fp pn) tg g)
    (ht : ∀ (A : Around) (pn : List (Addr × Obj)), Room k (A.deeper (genEnv scope (cloFrom X.env.cells scope.names []) s.heap.objs.size code builtinsNs X.env)) → PTs (gx X.prog X.w X.K X.mg X.base N (genEnv scope (cloFrom X.env.cells scope.names []) s.heap.objs.size code builtinsNs X.env) A X.stack s H fp pn) ifs tt)
    (he : ∀ (A : Around) (pn : List (Addr × Obj)), Room k (A.deeper (genEnv scope (cloFrom X.env.cells scope.names []) s.heap.objs.size code builtinsNs X.env)) → PE (gx X.prog X.w X.K X.mg X.base N (genEnv scope (cloFrom X.env.cells scope.names []) s.heap.objs.size code builtinsNs X.env) A X.stack s H fp pn) elt te)
    (hR : ∃ W : WG, (∃ m, W 0 m [] (NdefX.startF N [.ref it] (js.map (NdefX.slotAt σ))) H) ∧ Steps J g tt te W cont) :
    GMade X.prog X.w (k + 1) X.stack H s fp cont (fun _ _ _ => False) (.ref h'.objs.size)
      { s with gens := s.gens.push (.fresh (.compStart (.GeneratorExp elt [⟨tg, iter, ifs, 0⟩] scope pos) 0 (.ref it) .none (genEnv scope (cloFrom X.env.cells scope.names []) s.heap.objs.size code builtinsNs X.env))), toks := tk, heap := h'.push { cls := .type "generator", data := .fields #[.int s.gens.size 0, nm, qn] } } := by
  have lt1 : s.heap.objs.size < h'.objs.size := hns.lt
  have hgen : ∀ h : Heap, h.get? h'.objs.size = some { cls := .type "generator", data := .fields #[.int s.gens.size 0, nm, qn] } → h.IsGen h'.objs.size s.gens.size := fun h e => ⟨_, nm, qn, e, rfl, rfl, rfl⟩
  generalize hgo : ({ cls := .type "generator", data := .fields #[.int s.gens.size 0, nm, qn] } : Obj) = go at *
  have hgd0 : go.data = .fields #[.int s.gens.size 0, nm, qn] := by rw [← hgo]
  have hpushed : (h'.push go).get? h'.objs.size = some go := by
    subst hgo
    exact Heap.get?_push_size _ rfl
  have lim1 : h'.NoLimit := I.nolimit.keeps kp
  refine ⟨h'.objs.size, s.gens.size, _, rfl, Nat.le_of_lt lt1, ?_, hgen _ hpushed, Array.getElem?_push_size .., rfl, I.bare.push rfl, lim1.keeps fun b o e => Heap.get?_push_of_some _ e, fun b o e => Heap.get?_push_of_some _ (kp b o e), ?_⟩
  · show _ < (h'.push _).objs.size
    rw [Heap.size_push]
    exact Nat.lt_succ_self _
  intro Aw Sx s2 hrw hfr hSx hk2 hSo hos hba
  obtain ⟨W, ⟨m0, w0⟩, hS⟩ := hR
  have e0 := I.env0
  have e0w : Env0 X.prog X.w X.K X.mg X.base Aw X.stack s H := ⟨hfr, e0.mod, e0.bs, e0.bsz, e0.funs, e0.frf, e0.hok, e0.bare⟩
  have kp2 : ∀ b o, s.heap.get? b = some o → s2.heap.get? b = some o := fun b o e => hk2 b o (Heap.get?_push_of_some _ (kp b o e))
  have fplt : ∀ b ∈ fp, b < s.heap.objs.size := fun b hb => by
    obtain ⟨o, e, _⟩ := T.obj _ _ st b hb
    exact Heap.lt_size e
  have fpst : ∀ b ∈ fp, b ∉ frs X.stack := fun b hb hm => by
    obtain ⟨_, f1, f3, _⟩ := f2 b hb
    rcases List.mem_cons.mp (I.stkSub b hm) with z | z
    · exact f1 z
    · exact f3 z
  have fpcl : ∀ b ∈ fp, ∀ x c, (cloFrom X.env.cells scope.names []).lookup x = some c → c ≠ b := fun b hb x c e => (f2 b hb).2.2.2.2.1 x c (hsub x c e)
  have I1 := inv_gx (P := X.prog) (w := X.w) (K := X.K) (mg := X.mg) (base := X.base) (N := N) (A := Aw) (outer := X.stack) (fp := fp) (scope := scope) (it := it) (env := X.env) (code := code) (s := s) (s2 := s2) S hrw.hd e0w C I.ok.glob
    (fun b hb => ⟨Nat.ne_of_lt (fplt b hb), fpcl b hb, fpst b hb, by
      cases q : X.base.get? b with
      | none => rfl
      | some o =>
        rcases (f2 b hb).2.2.2.1 with z | z
        · exact absurd z (I.ok.noex b o q)
        · exact absurd (Nat.lt_of_lt_of_le (Heap.lt_size q) (Nat.le_trans I.ok.bsz z)) (Nat.lt_irrefl _)⟩) (hns.at' fun o e => hk2 _ o (Heap.get?_push_of_some _ e)) kp2 hos hba
  have hSz : h'.objs.size < Sx := by
    have hSx' : (h'.push go).objs.size ≤ Sx := hSx
    rw [Heap.size_push] at hSx'
    exact hSx'
  obtain ⟨cS, heS⟩ := hSo
  have hea : s2.heap.get? h'.objs.size = some go := hk2 _ go hpushed
  have hgd : ∀ v, go.data ≠ .cell v := fun v q => by
    rw [hgd0] at q
    cases q
  have young : ∀ b, h'.objs.size ≤ b → H b = none ∧ b ≠ s.heap.objs.size ∧ b ∉ frs X.stack ∧ s.heap.objs.size ≤ b ∧ ∀ y c, (cloFrom X.env.cells scope.names []).lookup y = some c → c ≠ b := fun b hb => by
    have hb' : s.heap.objs.size ≤ b := Nat.le_trans (Nat.le_of_lt lt1) hb
    refine ⟨I.hok.fresh hb', Nat.ne_of_gt (Nat.lt_of_lt_of_le lt1 hb), fun hm => ?_, hb', fun y c e z => ?_⟩
    · rcases List.mem_cons.mp (I.stkSub b hm) with z | z
      · have := I.lt
        rw [z] at hb'
        exact absurd (Nat.lt_of_lt_of_le this hb') (Nat.lt_irrefl _)
      · exact I.nofs hb' z
    · obtain ⟨_, v, o, ho, _⟩ := C.all y c e
      have := Heap.lt_size ho
      rw [z] at this
      exact absurd (Nat.lt_of_lt_of_le this hb') (Nat.lt_irrefl _)
  have hSne : h'.objs.size ≠ Sx := Nat.ne_of_lt hSz
  have st2 : tn 0 s2.heap := T.keep _ _ _ st fun b _ o e => kp2 b o e
  generalize hce : genEnv scope (cloFrom X.env.cells scope.names []) s.heap.objs.size code builtinsNs X.env = cenv at *
  have hcl : cenv.locals = s.heap.objs.size := by rw [← hce]; rfl
  have hcc : cenv.cells = cloFrom X.env.cells scope.names [] := by rw [← hce]; rfl
  have hcs : cenv.scope = scope := by rw [← hce]; rfl
  have hG : GI (gx X.prog X.w X.K X.mg X.base N cenv Aw X.stack s H fp [(h'.objs.size, go)]) Sx [] [] (NdefX.startF N [.ref it] (js.map (NdefX.slotAt σ))) H s2 := by
    refine ⟨#[], cS, .nil, pin_gx I1 fun p hp => ?_⟩
    rw [hcl]
    rcases List.mem_append.mp hp with z | z
    · rw [List.mem_singleton.mp z]
      obtain ⟨y1, y2, y3, _, _⟩ := young h'.objs.size (Nat.le_refl _)
      exact ⟨hea, y1, y2, y3, hgd⟩
    · rw [List.mem_singleton.mp z]
      obtain ⟨y1, y2, y3, _, _⟩ := young Sx (Nat.le_of_lt hSz)
      exact ⟨heS, y1, y2, y3, fun v q => by cases q⟩
  have hAp : L2.Apart (gx X.prog X.w X.K X.mg X.base N cenv Aw X.stack s H fp [(h'.objs.size, go)]) Sx := by
    obtain ⟨_, y2, _, y4, y5⟩ := young Sx (Nat.le_of_lt hSz)
    refine ⟨y4, ?_, ?_⟩
    · show Sx ≠ cenv.locals
      rw [hcl]
      exact y2
    · show ∀ x c, cenv.cells.lookup x = some c → c ≠ Sx
      rw [hcc]
      exact y5
  have hpn : ∀ p ∈ [(h'.objs.size, go)], p.1 ≠ Sx := fun p hp => by
    rw [List.mem_singleton.mp hp]
    exact hSne
  have hfS : ∀ b ∈ fp, b ≠ Sx := fun b hb => Nat.ne_of_lt (Nat.lt_trans (Nat.lt_trans (fplt b hb) lt1) hSz)
  have hst : ∀ {H' : Hp} {acc : Array Value} {c : Nat}, (∀ b ∈ fp, H' b = none) → ∀ b ∈ fp, FpOk (gx X.prog X.w X.K X.mg X.base N cenv Aw X.stack s H fp [(h'.objs.size, go)]) [(Sx, lstObj acc c)] H' b := fun {H' acc c} hn b hb => by
    refine ⟨hn b hb, ?_, fpst b hb, .inl hb, ?_, fun p hp => ?_⟩
    · show b ≠ cenv.locals
      rw [hcl]
      exact Nat.ne_of_lt (fplt b hb)
    · show ∀ x c, cenv.cells.lookup x = some c → c ≠ b
      rw [hcc]
      exact fpcl b hb
    · rcases List.mem_append.mp hp with z | z
      · rw [List.mem_singleton.mp z]
        exact Nat.ne_of_gt (Nat.lt_trans (fplt b hb) lt1)
      · rw [List.mem_singleton.mp z]
        exact (hfS b hb).symm
  have pinned : ∀ {ip : List (Addr × Obj)} {ys : List V} {s' : Shared} {σ' : L2.St} {H' : Hp}, GI (gx X.prog X.w X.K X.mg X.base N cenv Aw X.stack s H fp [(h'.objs.size, go)]) Sx ip ys σ' H' s' → s'.heap.IsGen h'.objs.size s.gens.size := fun {ip ys s' σ' H'} hI => by
    obtain ⟨acc, cc, _, J⟩ := hI
    exact hgen _ (J.pin (h'.objs.size, go) (List.mem_append_left _ (List.mem_singleton.mpr rfl))).1
  have rm : Room k (Aw.deeper cenv) := hrw.deeper _
  refine seg_first T st2 (seg_imp (fun n s₀ r s1' hR => ?_) (fun n s₀ v s1' kap kap' hkk hY => ?_) sizeLine (seg_turns T (by rw [hcs]; exact S.off.co) hpn hfS hAp hst (hg Aw _ rm) (ht Aw _ rm) (he Aw _ rm) hS m0 0 sizeLine [] s2 s2 _ H (Nat.add_zero _) w0 hG st2 fun b hb => (f2 b hb).1))
  · obtain ⟨hr, ys, σ', H', hn, hI, hQ⟩ := hR
    obtain ⟨a1, _, _, acc, cc, ra, ea⟩ := hI.at
    obtain ⟨_, _, _, J⟩ := hI
    exact .inl ⟨.inr hr, H', ys, acc, cc, J.os, J.bare, J.base, J.hok, a1, ea, ra, by omega, hQ⟩
  · obtain ⟨ys, xx, ip, σ', H', hn, h2, hI, h3⟩ := hY
    obtain ⟨_, _, _, acc, cc, ra, ea⟩ := hI.at
    have hg := pinned hI
    obtain ⟨_, _, _, J⟩ := hI
    have hsz : acc.size = ys.length := by
      have e1 := ra.length
      have e2 : acc.toList.length = acc.size := by simp
      omega
    exact ⟨J.os, J.bare, J.nolimit, hg, ⟨acc, cc, ea, by rw [hsz]; exact hn⟩, fun s' z => hkk _ _ (h3 s' z)⟩
/-- what is read: the table of code objects may grow, then the steps -/
def tGx (P : Addr) (N : List Str) (js : List Nat) (wi : TI) (g : TG) (tt : TT) (te : TE) : TGen := fun σ H cont => wi σ H fun J H1 => GxR.TabG H1 P ∧
  ∀ it H2, GxR.Tabbed P H1 H2 → ∃ W : WG, (∃ m, W 0 m [] (NdefX.startF N [.ref it] (js.map (NdefX.slotAt σ))) H2) ∧ Steps J g tt te W cont
/-- the environment of its code -/
abbrev xenv (scope : Scope) (X : Cx) (s : Shared) (code : Value) : Env := genEnv scope (cloFrom X.env.cells scope.names []) s.heap.objs.size code builtinsNs X.env
/-- the context of its code -/
abbrev xgx (X : Cx) (N : List Str) (scope : Scope) (s : Shared) (code : Value) (A : Around) (H : Hp) (fp : List Addr) (pn : List (Addr × Obj)) : Cx := gx X.prog X.w X.K X.mg X.base N (xenv scope X s code) A X.stack s H fp pn
theorem pgen_gx {X : Cx} {N fr : List Str} {js : List Nat} {elt iter tg : Expr} {ifs : List Expr} {scope : Scope} {pos : Pos} {wi : TI} {g : TG} {tt : TT} {te : TE} {k j : Nat} {c P : Addr}
    (hr : Room j X.A) (hc : X.calm = true) (TB : GxR.TabB X.base X.mg c P) (hcode : X.env.code = .ref c) (S : GSc N fr scope) (hfree : ∀ y ∈ scope.names, y.2 = .free → X.env.scope.names.lookup y.1 = some .cell ∨ X.env.scope.names.lookup y.1 = some .free) (hfr : ∀ y ∈ fr, (y, NameKind.free) ∈ scope.names) (hjs : js.map (fun j => X.N[j]?) = fr.map some)
    (hi : PI X tg iter wi)
    (hg : ∀ (A : Around) (s : Shared) (H : Hp) (code : Value) (fp : List Addr) (pn : List (Addr × Obj)), Room k (A.deeper (xenv scope X s code)) → PG (xgx X N scope s code A H fp pn) tg g)
    (ht : ∀ (A : Around) (s : Shared) (H : Hp) (code : Value) (fp : List Addr) (pn : List (Addr × Obj)), Room k (A.deeper (xenv scope X s code)) → PTs (xgx X N scope s code A H fp pn) ifs tt)
    (he : ∀ (A : Around) (s : Shared) (H : Hp) (code : Value) (fp : List Addr) (pn : List (Addr × Obj)), Room k (A.deeper (xenv scope X s code)) → PE (xgx X N scope s code A H fp pn) elt te)
    (hs : ∀ v, genFold iter X.env v = pure v := by intro _; rfl) :
    PGen X (k + 1) (.GeneratorExp elt [⟨tg, iter, ifs, 0⟩] scope pos) (tGx P N js wi g tt te) (fun _ _ _ => False) := by
  refine ⟨fun pins s σ H cont I h => ?_⟩
  have hcl : closureFor scope X.env = pure (cloFrom X.env.cells scope.names []) := closure_ok fun y hy e => (hfree y hy e).elim (fun z => I.ok.has _ (.inl z)) fun z => I.ok.has _ (.inr z)
  have h0 : scope.names.lookup (".0" : Str) = some NameKind.local := S.off.par _ (List.mem_singleton.mpr rfl)
  refine wpAny_GeneratorExp_make S.off.co hcl S.off.nocell h0 S.off.kind (by have := hr.dp; omega) ?_ hs
  refine thn (hi.run pins s σ H _ I h) fun xv s1 h1 => thn h1 fun itv s2 h2 => ?_
  obtain ⟨it, fp, tn, J, H2, rfl, I2, T, st2, f2, ⟨pts, hP, ht'⟩, rd⟩ := h2
  have hPs : s2.heap.get? P = some { cls := .none, data := .fields pts } := I2.hok P _ hP
  have cd : PySem.W.CodeHd s2.heap c P := TB.code.keeps fun b u e => I2.bk b u e
  have cont2 : ∀ (code : Value) (h3 : Heap) (tk : Nat) (ps' : Array Value), Heap.ExtBut P s2.heap h3 → h3.get? P = some { cls := .none, data := .fields ps' } → (∃ more, ps' = pts ++ more) → TriplesOk ps'.toList →
      wpAny (model X.prog X.w) X.A (builtinsFor X.env.globals X.env.builtins) (fun bi s₄ => ∀ h', h'.Ns s₄.heap.objs.size (fun y => if y = ".0" then some (.ref it) else none) → Heap.SameBut s₄.heap.objs.size (s₄.heap.push { cls := .type "frame", data := .dict #[] }) h' →
        ∃ H1 sc ex, Inv X pins σ H1 sc ∧ ExOk X pins ex ∧ GMade X.prog X.w (k + 1) X.stack H1 sc ex cont (fun _ _ _ => False) (.ref h'.objs.size) { s₄ with
            gens := s₄.gens.push (.fresh (.compStart (.GeneratorExp elt [⟨tg, iter, ifs, 0⟩] scope pos) 0 (.ref it) .none (genEnv scope (cloFrom X.env.cells scope.names []) s₄.heap.objs.size code bi X.env))),
            toks := s₄.toks + 1 + 1 + 1,
            heap := h'.push { cls := .type "generator", data := .fields #[.int s₄.gens.size 0, .str "<genexpr>" (s₄.toks + 1), .str (X.env.qual ++ "<genexpr>") (s₄.toks + 1 + 1)] } }) X.xe { s2 with heap := h3, toks := tk } := by
    intro code h3 tk ps' hx hP3 hmore ht3
    obtain ⟨bm, ob, e1, e2, e3, e4, e5, e6, e7, e8⟩ := TB.bm
    refine wpAny_builtinsFor (m := X.mg) (by rw [I2.ok.glob]; exact (I2.mod.glob.keeps I2.bk).extBut hx TB.gP) e1 e2 (hx _ _ e4 (I2.bk _ _ e5)) e6 e7 e8 ?_
    intro h' hns hsb
    obtain ⟨more, em⟩ := hmore
    have J4 : Inv X pins σ (upd H2 P (.tbl (pts ++ more))) { s2 with heap := h3, toks := tk } :=
      GxR.inv_tab (more := more) (h' := h3) (g' := s2.gens) (d' := s2.drawn) (t' := tk) I2 hP (fun b u hb e => hx b u hb e) (by rw [← em]; exact hP3) I2.bare
    have fpP : ∀ b ∈ fp, b ≠ P := fun b hb z => by
      have := (f2 b hb).1
      rw [z, hP] at this
      cases this
    have f4 : ∀ b ∈ fp, FpOk X pins (upd H2 P (.tbl (pts ++ more))) b := fun b hb => ⟨by rw [upd_ne (fpP b hb)]; exact (f2 b hb).1, (f2 b hb).2⟩
    have st4 : tn 0 h3 := T.keep _ _ _ st2 fun b hb o e => hx b o (fpP b hb) e
    have cp : NdefX.Caps X (cloFrom X.env.cells scope.names []) fr js := NdefX.Caps.made I.ok hfree hfr hjs
    refine ⟨_, _, fp, J4, fun b hb => ⟨(f4 b hb).2.2.2.1, (f4 b hb).2.1, (f4 b hb).2.2.2.2.1, (f4 b hb).2.2.2.2.2⟩, ?_⟩
    refine gmade J4 S (NdefX.cells_of J4 cp) cp.sub T st4 f4 hns (fun b o e => hsb.extBut b o (Nat.ne_of_lt (Heap.lt_size e)) (Heap.get?_push_of_some _ e)) (fun A pn rm => hg A _ _ code fp pn rm) (fun A pn rm => ht A _ _ code fp pn rm) (fun A pn rm => he A _ _ code fp pn rm) ?_
    exact rd it _ ⟨⟨pts ++ more, upd_same, by rw [← em]; exact ht3⟩, fun b hb => upd_ne hb⟩
  refine ⟨I2.nolimit, ?_⟩
  cases hf : codeAmong pos pts.toList with
  | none =>
    refine wpAny_genexprCodeX hcode (cd.code hPs ht') (cd.tab hPs) hf fun c' h' tk hx hge hlt hco' _ htab' _ => ?_
    obtain ⟨o1, vs, f1, tf, fl, tg, inF, tx, tt, op, _, _, _, _, _, _, _, _, _, htr, _⟩ := hco'
    exact cont2 _ h' tk _ hx htab'.2 ⟨_, rfl⟩ htr
  | some cv =>
    refine wpAny_genexprCode_hit hcode (cd.code hPs ht') hf ?_
    exact cont2 cv s2.heap s2.toks pts (Heap.ExtBut.refl _ _) hPs ⟨#[], by simp⟩ ht'
/-- the items of a new generator, in a tuple -/
theorem no_cx {P : Program} {w : World} {outer : List Env} {H : Hp} {s : Shared} {e : Value} {s' : Shared} (h : L2.CX P w outer H s (fun _ _ _ => False) e s') : False := by
  obtain ⟨_, _, _, _, _, _, _, _, _, _, _, _, z⟩ := h
  exact z
theorem collect_new {P : Program} {w : World} {outer : List Env} {H : Hp} {sc s : Shared} {ex : List Addr} {Q : List V → Hp → Prop} {A : Around} {k : Nat} {u : Value} {Q' : List Value → Shared → Prop} {E : Value → Shared → Prop}
    (hh : A.handled = none) (hd : A.depth < recursionLimit) (hrw : Room k A.in1.in1) (hfr : A.frames = some outer) (h : GMade P w k outer H sc ex Q (fun _ _ _ => False) u s)
    (hQ : ∀ (S : Addr) (s' : Shared) (acc : Array Value) (c : Nat) (H' : Hp) (ys : List V), s.heap.objs.size ≤ S → s'.heap.get? S = some (lstObj acc c) → Vals ys acc.toList → ys.length ≤ sizeLine → s'.os = sc.os → AllBare s'.gens → Un (frs outer) ex H H' sc.heap s'.heap → HOk P w H' s'.heap → H' S = none → Q ys H' → Q' acc.toList s') :
    wpAny (model P w) A (collect u) Q' E s := by
  obtain ⟨a, g, c, rfl, ha1, ha2, hg, hgs, hos, hb, hl, hkp, wake⟩ := h
  have hSa : s.heap.objs.size ≠ a := Nat.ne_of_gt ha2
  have hcl : cStatics < s.heap.objs.size := let ⟨_, hn, _⟩ := hl; hn.lt
  have hSc : s.heap.objs.size ≠ cStatics := Nat.ne_of_gt hcl
  have up : ∀ (h : Heap) (f : Obj → Obj), (∀ b o, s.heap.get? b = some o → h.get? b = some o) → ∀ b o, s.heap.get? b = some o → (h.update s.heap.objs.size f).get? b = some o := fun h f q b o e =>
    (Heap.get?_update_other _ _ (Ne.symm (Nat.ne_of_lt (Heap.lt_size e)))).trans (q b o e)
  have gty : ∀ {h : Heap}, (∀ b o, s.heap.get? b = some o → h.get? b = some o) → h.IsGen a g := fun {h} q => hg.keeps q
  unfold collect
  refine wpAny_bind (wpAny_runValue (codeAny_builtin F.entry_proto_collect ?_))
  rw [Around.under_plainId F.plain_proto_collect _]
  show wpAny _ A.in1 (newList [] >>= fun l => again (.builtin "list.__iadd__" ⟨[l, .ref a], []⟩)) _ _ s
  refine wpAny_bind (wpAny_newObj_type ?_)
  refine wpAny_pure ⟨plainId_quiet F.plain_list_iadd _, codeAny_builtin F.entry_list_iadd ?_⟩
  rw [Around.under_plainId F.plain_list_iadd _]
  have k1 : ∀ b o, s.heap.get? b = some o → (s.heap.push { cls := .type "list", data := .seq ([] : List Value).toArray }).get? b = some o := fun b o e => Heap.get?_push_of_some _ e
  show wpAny _ A.in1 (Builtin.List.listExtendWith (.ref s.heap.objs.size) (.ref a) (.ref s.heap.objs.size)) _ _ _
  unfold Builtin.List.listExtendWith
  refine wpAny_bind (wpAny_typeOf (Heap.IsGen.typeIs (s := { s with heap := _ }) (gty k1)) ?_)
  have h1 : Builtin.List.listSameRef (.ref s.heap.objs.size) (.ref a) = false := by simp [Builtin.List.listSameRef, hSa]
  have h2 : (Value.type "generator" == Value.type "list") = false := by decide
  have h3 : (Value.type "generator" == Value.type "tuple") = false := by decide
  simp only [h1, h2, h3, Bool.or_false, Bool.false_eq_true, if_false]
  refine wpAny_bind (wpAny_pyIter_gen (s := { s with heap := _ }) (gty k1) ?_)
  refine wpAny_bind (wpAny_holding ?_)
  unfold Builtin.List.listLengthHint
  refine wpAny_bind (wpAny_specialOf (Heap.IsGen.typeIs (s := { s with heap := _ }) (gty k1)) F.gen_no_len ?_)
  show wpAny _ A.in1 (specialOf (Value.ref a) (Str.ofString "__length_hint__") >>= _) _ _ _
  refine wpAny_bind (wpAny_specialOf (Heap.IsGen.typeIs (s := { s with heap := _ }) (gty k1)) F.gen_no_hint ?_)
  refine wpAny_pure ?_
  show wpAny _ A.in1 (rule "list.extend.makes-room" >>= fun _ => Builtin.List.listTouch (.ref s.heap.objs.size) >>= fun _ =>
    again (.builtin "list.extend.loop" ⟨[.ref s.heap.objs.size, .ref a, .ref s.heap.objs.size], []⟩)) _ _ _
  refine wpAny_bind (wpAny_rule ?_)
  have hS₁ : (s.heap.push { cls := .type "list", data := .seq ([] : List Value).toArray }).get? s.heap.objs.size = some { cls := .type "list", data := .seq ([] : List Value).toArray } := Heap.get?_push_size _ rfl
  refine wpAny_bind ?_
  show wpAny _ A.in1 (updateSeq s.heap.objs.size (·.push .none) >>= fun _ => updateSeq s.heap.objs.size (·.pop)) _ _ _
  refine wpAny_bind (wpAny_updateSeq hS₁ rfl ?_)
  have hS₂ := Heap.get?_update_self (Obj.mapSeq (·.push Value.none)) hS₁ rfl
  refine wpAny_updateSeq hS₂ rfl ?_
  have hS₃ := Heap.get?_update_self (Obj.mapSeq (·.pop)) hS₂ rfl
  have k4 := up _ (Obj.mapSeq (·.pop)) (up _ (Obj.mapSeq (·.push Value.none)) k1)
  refine wpAny_pure ⟨plainId_quiet F.plain_extend_loop _, ?_⟩
  refine drain (P := P) (w := w) (outer := outer) (H := H) (sc := sc) (ex := ex) (Q := Q) (EX := fun _ _ _ => False) (A := A) (g := g) hh hd hSa hSc
    (fun s' acc c H' ys q1 q2 q3 q4 q5 q6 q7 q8 q9 => ?_) (fun e s' hc => (no_cx hc).elim)
    sizeLine _ (gty k4) (hl.keeps k4) ⟨_, hgs, rfl, ?_⟩
  · show wpAny _ A (load s.heap.objs.size >>= _) _ _ s'
    refine wpAny_bind (wpAny_load q1 ?_)
    exact wpAny_pure (hQ _ s' acc c H' ys (Nat.le_refl _) q1 q2 q3 q4 q5 q6 q7 q8 q9)
  · exact wake _ _ _ hrw hfr (Nat.le_refl _) k4 ⟨_, hS₃⟩ hos (allBare_setGen (s := { s with heap := _ }) hb rfl)
theorem code_tuple_new {P : Program} {w : World} {outer : List Env} {H : Hp} {sc s : Shared} {ex : List Addr} {Q : List V → Hp → Prop} {A : Around} {k : Nat} {a : Addr} {Q₁ : Value → Shared → Prop} {E : Value → Shared → Prop}
    (hh : A.handled = none) (hd : A.depth < recursionLimit) (hrw : Room k A.in1.in1.in1) (hfr : A.frames = some outer) (hTI : s.TypeIs (.ref a) "generator") (h : GMade P w k outer H sc ex Q (fun _ _ _ => False) (.ref a) s)
    (hQ : ∀ (S : Addr) (s' : Shared) (acc : Array Value) (c : Nat) (H' : Hp) (ys : List V), s.heap.objs.size ≤ S → s'.heap.get? S = some (lstObj acc c) → Vals ys acc.toList → ys.length ≤ sizeLine → s'.os = sc.os → AllBare s'.gens → Un (frs outer) ex H H' sc.heap s'.heap → HOk P w H' s'.heap → H' S = none → Q ys H' →
      Q₁ (.ref s'.heap.objs.size) { s' with heap := s'.heap.push { cls := .type "tuple", data := .seq acc } }) :
    codeAny (model P w) A (.call (.builtin "tuple.__new__") ⟨[.type "tuple", .ref a], []⟩) (wants Q₁ E) s := by
  refine codeAny_of_tree ?_
  show wpAny _ A.in1 (do checkBuiltinCall "tuple.__new__" ⟨[.type "tuple", .ref a], []⟩; again (.builtin "tuple.__new__" ⟨[.type "tuple", .ref a], []⟩)) _ _ s
  refine wpAny_bind (wpAny_of_eq (F.newCall_tuple_1 _) (wpAny_pure ⟨plainId_quiet F.plain_tuple_new _, codeAny_builtin F.entry_tuple_new ?_⟩))
  rw [Around.under_plainId F.plain_tuple_new _]
  have hsub := sub_tuple_self
  have hinit := init_tuple_lookup
  have hmh := madeHere_tuple
  wp_walk using wpAny_typeOf hTI, collect_new (A := A.in1) hh hd hrw hfr h
  intro S s' acc c H' ys q0 q1 q2 q3 q4 q5 q6 q7 q8 q9
  show wpAny _ _ (Builtin.Tuple.tupleExact acc.toList.toArray >>= fun v => ret v) _ _ _
  unfold Builtin.Tuple.tupleExact
  have hz : acc.toList.toArray.size ≤ sizeLine := by
    have := q2.length
    simp only [Array.toArray_toList]
    have e2 : acc.toList.length = acc.size := by simp
    omega
  refine wpAny_bind (wpAny_newObj_type ?_ hz)
  refine wpAny_pure ?_
  have e : acc.toList.toArray = acc := by simp
  rw [e]
  exact hQ S s' acc c H' ys q0 q1 q2 q3 q4 q5 q6 q7 q8 q9
theorem call_tuple_new {P : Program} {w : World} {outer : List Env} {H : Hp} {sc s : Shared} {ex : List Addr} {Q : List V → Hp → Prop} {A : Around} {k : Nat} {u : Value} {Q' : Value → Shared → Prop} {E : Value → Shared → Prop}
    (hr : Room (k + 3) A) (hfr : A.frames = some outer) (h : GMade P w k outer H sc ex Q (fun _ _ _ => False) u s)
    (hQ : ∀ (S : Addr) (s' : Shared) (acc : Array Value) (c : Nat) (H' : Hp) (ys : List V), s.heap.objs.size ≤ S → s'.heap.get? S = some (lstObj acc c) → Vals ys acc.toList → ys.length ≤ sizeLine → s'.os = sc.os → AllBare s'.gens → Un (frs outer) ex H H' sc.heap s'.heap → HOk P w H' s'.heap → H' S = none → Q ys H' →
      Q' (.ref s'.heap.objs.size) { s' with heap := s'.heap.push { cls := .type "tuple", data := .seq acc } }) :
    wpAny (model P w) A (call (.type "tuple") [u]) Q' E s := by
  have hG := h
  obtain ⟨a, g, c, rfl, ha1, ha2, hg, hgs, hos, hb, hl, hkp, wake⟩ := h
  refine callType_codes (Q₁ := fun obj s₁ => s₁.TypeIs obj "tuple" ∧ Q' obj s₁) F.called_tuple (F.typeCall_tuple_1 _) F.entry_object_init
    (code_tuple_new (A := A.in1) hr.hd (by have := hr.dp; show A.depth < _; omega) ⟨hr.hd, ?_, ?_⟩ hfr hg.typeIs hG fun S s' acc c H' ys q0 q1 q2 q3 q4 q5 q6 q7 q8 q9 => ⟨⟨_, Heap.get?_push_size _ rfl, rfl⟩, hQ S s' acc c H' ys q0 q1 q2 q3 q4 q5 q6 q7 q8 q9⟩) fun obj s₁ h₁ => ?_
  · have := hr.dp
    show A.depth + 3 * k + 5 < _
    omega
  · have := hr.un
    show A.units + 1 + 1 + 1 + 1 + 16 * k + 200 < _
    omega
  · exact ⟨h₁.1, F.args_object_init_2 obj _, object_init_meets F.called_tuple.init.lookup F.called_tuple.made (by decide) P w A.in1 _ s₁ ⟨h₁.1, rfl, h₁.2⟩⟩
section
variable {X : Cx} {k : Nat} {p pos : Pos}
def tTupX (tg : TGen) : TE := fun σ H Q => tg σ H fun out H2 => ∀ p, H2 p = none → Q (.ref p) (upd H2 p (.tup out))
/-- tuple(e for t in it if c) -/
theorem pe_tupX {e : Expr} {tg : TGen} (h : PGen X k e tg (fun _ _ _ => False)) (hr : Room (k + 3) X.A) (hg : Gl X "tuple") (hm : X.mg "tuple" = none) (hv : bootBuiltins "tuple" = some (.type "tuple"))
    (he : starEach [e] X.env = (false, eval e X.env) :: starEach [] X.env := by rfl) : PE X (.Call (.Name "tuple" p) [e] [] pos) (tTupX tg) := by
  refine ⟨fun pins s σ H Q I hq => ?_⟩
  refine wpAny_Call_Name_kw (ld_blt I hg hm hv ?_)
  refine PyProof.Rows.callWith_type1 ?_ he rfl
  rw [he]
  show wpAny _ _ (spliced ((false, eval e X.env) :: backTo pos (starEach [] X.env))) _ _ s
  refine Calls.spliced_cons (thn (h.run pins s σ H _ I hq) fun u s1 ⟨H1, sc, ex, I1, hex, hG⟩ => ?_)
  refine Calls.spliced_nil ?_
  have hsz : sc.heap.objs.size ≤ s1.heap.objs.size := by
    obtain ⟨a, g, c, _, h1, h2, _⟩ := hG
    exact Nat.le_trans h1 (Nat.le_of_lt h2)
  refine call_tuple_new hr I1.ok.frames hG (fun S s' acc c H' ys q0 q1 q2 hl q3 q4 q5 q6 q7 q8 => ?_)
  have J : Inv X pins σ H' s' := I1.call' (ch := ex) q3 q5 q6 q4 hex
  have J2 : Inv X pins σ (upd H' s'.heap.objs.size (.tup ys)) { s' with heap := s'.heap.push { cls := .type "tuple", data := .seq acc } } :=
    J.laid (t' := s'.toks) (fun b o e => Heap.get?_push_of_some _ e) (Nat.le_refl _) (show ObjOk X.prog X.w _ _ _ (.tup ys) from ⟨hl, acc.toList, q2, by simpa using IsTup.new s'.heap acc⟩)
  exact ⟨.ref s'.heap.objs.size, _, J2, rfl, q8 _ (J.hok.fresh (Nat.le_refl _))⟩
end
/-- its steps, by a walk -/
theorem gx_it {J : It} {n : Nat} {G : Hp → Prop} {Y : Nat → Hp → V → Hp → Prop} (w : Walk J n G Y) {g : TG} {tt : TT} {te : TE} {cont : List V → Hp → Prop} {σ0 : L2.St} {H0 : Hp} (Pv : Nat → List V → L2.St → Hp → Prop) (h0 : Pv 0 [] σ0 H0) (hG : ∀ i ys σ H, i ≤ n → Pv i ys σ H → G H)
    (hs : ∀ i x ys σ H H', i < n → Pv i ys σ H → Y i H x H' → g x σ H' fun σ2 H2 => tt σ2 H2 fun b H3 => if b = true then te σ2 H3 fun y H4 => ys.length < sizeLine ∧ Pv (i + 1) (ys ++ [y]) σ2 H4 else Pv (i + 1) ys σ2 H3) (hd : ∀ ys σ H, Pv n ys σ H → cont ys H) :
    ∃ W : WG, (∃ m, W 0 m [] σ0 H0) ∧ Steps J g tt te W cont := by
  refine ⟨fun i m ys σ H => m = n - i ∧ i ≤ n ∧ Pv i ys σ H, ⟨n, by simp, Nat.zero_le _, h0⟩, ?_⟩
  rintro i m ys σ H ⟨rfl, hi, p⟩
  have q := hG i ys σ H hi p
  by_cases hlt : i < n
  · exact .inr ⟨w.goes i H hlt q, Pv (i + 1), fun ys' σ' H' p' => ⟨n - (i + 1), by omega, rfl, hlt, p'⟩, fun x H' y => hs i x ys σ H H' hlt p (w.yields i H x H' hlt q y)⟩
  · have e : i = n := by omega
    subst e
    exact .inl ⟨w.stops H q, hd ys σ H p⟩
end GXW
namespace Mt
open PySem PySem.Spec PyProof.Rows L2
def topS (i : Nat) : Stmt := PySem.Challenge.pw_meantrace_k67_bends_judged.main.body.getD i (.Pass ⟨0, 0, 0, 0⟩)
abbrev s_make_fraction : Stmt := topS 2
abbrev N_make_fraction : List Str := ["n", "d", "common"]
theorem sc_make_fraction : FnScope N_make_fraction ["n", "d"] (defScope s_make_fraction) := ⟨rfl, rfl, rfl, by decide +kernel, rfl, by decide +kernel, by decide +kernel⟩
abbrev s_is_bend : Stmt := topS 4
abbrev N_is_bend : List Str := ["web", "bend", "row", "numbers"]
theorem sc_is_bend : FnScope N_is_bend ["web", "bend"] (defScope s_is_bend) := ⟨rfl, rfl, rfl, by decide +kernel, rfl, by decide +kernel, by decide +kernel⟩
abbrev s_is_bent : Stmt := topS 5
abbrev N_is_bent : List Str := ["row", "numbers", "number"]
theorem sc_is_bent : FnScope N_is_bent ["row", "numbers"] (defScope s_is_bent) := ⟨rfl, rfl, rfl, by decide +kernel, rfl, by decide +kernel, by decide +kernel⟩
abbrev s_bent_web : Stmt := topS 6
abbrev N_bent_web : List Str := ["web", "bend", "rows", "row", "numbers", "shown", "target", "_", "bent"]
theorem sc_bent_web : FnScope N_bent_web ["web", "bend"] (defScope s_bent_web) := ⟨rfl, rfl, rfl, by decide +kernel, rfl, by decide +kernel, by decide +kernel⟩
abbrev s_bent_arcs : Stmt := topS 7
abbrev N_bent_arcs : List Str := ["row", "numbers", "total", "arc", "number"]
theorem sc_bent_arcs : FnScope N_bent_arcs ["row", "numbers"] (defScope s_bent_arcs) := ⟨rfl, rfl, rfl, by decide +kernel, rfl, by decide +kernel, by decide +kernel⟩
abbrev s__law_begin : Stmt := topS 9
abbrev N__law_begin : List Str := ["script", "cell"]
theorem sc__law_begin : FnScope N__law_begin ["script"] (defScope s__law_begin) := ⟨rfl, rfl, rfl, by decide +kernel, rfl, by decide +kernel, by decide +kernel⟩
abbrev s__law_draw : Stmt := topS 10
abbrev N__law_draw : List Str := ["d", "many", "found", "size", "cell"]
theorem sc__law_draw : FnScope N__law_draw ["d", "many"] (defScope s__law_draw) := ⟨rfl, rfl, rfl, by decide +kernel, rfl, by decide +kernel, by decide +kernel⟩
abbrev s__law_pick : Stmt := topS 11
abbrev N__law_pick : List Str := ["d", "row"]
theorem sc__law_pick : FnScope N__law_pick ["d", "row"] (defScope s__law_pick) := ⟨rfl, rfl, rfl, by decide +kernel, rfl, by decide +kernel, by decide +kernel⟩
abbrev s__law_pop : Stmt := topS 12
abbrev N__law_pop : List Str := ["d", "row"]
theorem sc__law_pop : FnScope N__law_pop ["d", "row"] (defScope s__law_pop) := ⟨rfl, rfl, rfl, by decide +kernel, rfl, by decide +kernel, by decide +kernel⟩
abbrev s__law_rare : Stmt := topS 13
abbrev N__law_rare : List Str := ["d", "many"]
theorem sc__law_rare : FnScope N__law_rare ["d", "many"] (defScope s__law_rare) := ⟨rfl, rfl, rfl, by decide +kernel, rfl, by decide +kernel, by decide +kernel⟩
abbrev s__law_small : Stmt := topS 14
abbrev N__law_small : List Str := ["d", "most"]
theorem sc__law_small : FnScope N__law_small ["d", "most"] (defScope s__law_small) := ⟨rfl, rfl, rfl, by decide +kernel, rfl, by decide +kernel, by decide +kernel⟩
abbrev s__law_pool : Stmt := topS 15
abbrev N__law_pool : List Str := ["text"]
theorem sc__law_pool : FnScope N__law_pool [] (defScope s__law_pool) := ⟨rfl, rfl, rfl, by decide +kernel, rfl, by decide +kernel, by decide +kernel⟩
abbrev s__law_is_int : Stmt := topS 16
abbrev N__law_is_int : List Str := ["thing"]
theorem sc__law_is_int : FnScope N__law_is_int ["thing"] (defScope s__law_is_int) := ⟨rfl, rfl, rfl, by decide +kernel, rfl, by decide +kernel, by decide +kernel⟩
abbrev s__law_frac : Stmt := topS 17
abbrev N__law_frac : List Str := ["n", "d", "a", "b", "rest"]
theorem sc__law_frac : FnScope N__law_frac ["n", "d"] (defScope s__law_frac) := ⟨rfl, rfl, rfl, by decide +kernel, rfl, by decide +kernel, by decide +kernel⟩
abbrev s__law_drawn_shown : Stmt := topS 18
abbrev N__law_drawn_shown : List Str := ["d", "marks", "k"]
theorem sc__law_drawn_shown : FnScope N__law_drawn_shown ["d", "marks"] (defScope s__law_drawn_shown) := ⟨rfl, rfl, rfl, by decide +kernel, rfl, by decide +kernel, by decide +kernel⟩
abbrev s__law_drawn_web : Stmt := topS 19
abbrev N__law_drawn_web : List Str := ["d", "states", "marks", "rows", "s", "found", "k", "size", "key"]
theorem sc__law_drawn_web : FnScope N__law_drawn_web ["d", "states", "marks"] (defScope s__law_drawn_web) := ⟨rfl, rfl, rfl, by decide +kernel, rfl, by decide +kernel, by decide +kernel⟩
abbrev s__law_same : Stmt := topS 20
abbrev N__law_same : List Str := ["told", "due", "k"]
theorem sc__law_same : FnScope N__law_same ["told", "due"] (defScope s__law_same) := ⟨rfl, rfl, rfl, by decide +kernel, rfl, by decide +kernel, by decide +kernel⟩
abbrev s__law_integer : Stmt := topS 21
abbrev N__law_integer : List Str := ["d", "kind"]
theorem sc__law_integer : FnScope N__law_integer ["d"] (defScope s__law_integer) := ⟨rfl, rfl, rfl, by decide +kernel, rfl, by decide +kernel, by decide +kernel⟩
abbrev s__law_drawn_bend : Stmt := topS 22
abbrev N__law_drawn_bend : List Str := ["d", "web", "rows", "row", "parts", "arc"]
theorem sc__law_drawn_bend : FnScope N__law_drawn_bend ["d", "web"] (defScope s__law_drawn_bend) := ⟨rfl, rfl, rfl, by decide +kernel, rfl, by decide +kernel, by decide +kernel⟩
abbrev s__law_spoiled : Stmt := topS 23
abbrev N__law_spoiled : List Str := ["d", "bend", "rows", "parts", "kind", "at", "other", "row", "part", "k"]
theorem sc__law_spoiled : FnScope N__law_spoiled ["d", "bend"] (defScope s__law_spoiled) := ⟨rfl, rfl, rfl, by decide +kernel, rfl, by decide +kernel, by decide +kernel⟩
abbrev s__law_fits : Stmt := topS 24
abbrev N__law_fits : List Str := ["web", "bend", "s", "part"]
theorem sc__law_fits : FnScope N__law_fits ["web", "bend"] (defScope s__law_fits) := ⟨rfl, rfl, rfl, by decide +kernel, rfl, by decide +kernel, by decide +kernel⟩
abbrev s__law_bent : Stmt := topS 25
abbrev N__law_bent : List Str := ["web", "bend", "rows", "s", "row", "k"]
theorem sc__law_bent : FnScope N__law_bent ["web", "bend"] (defScope s__law_bent) := ⟨rfl, rfl, rfl, by decide +kernel, rfl, by decide +kernel, by decide +kernel⟩
abbrev s_law : Stmt := topS 26
abbrev N_law : List Str := ["script", "d", "names", "marks", "k", "webs", "bends", "turn", "bend", "web", "due", "told"]
theorem sc_law : FnScope N_law ["script"] (defScope s_law) := ⟨rfl, rfl, rfl, by decide +kernel, rfl, by decide +kernel, by decide +kernel⟩
structure Txt (K : PySem.W.Frag) (mg : Str → Option Value) : Prop where
  b_int : mg "int" = none
  b_abs : mg "abs" = none
  b_len : mg "len" = none
  b_isinstance : mg "isinstance" = none
  b_bool : mg "bool" = none
  b_tuple : mg "tuple" = none
  b_list : mg "list" = none
  b_range : mg "range" = none
  b_sum : mg "sum" = none
  b_all : mg "all" = none
  b_sorted : mg "sorted" = none
  b_min : mg "min" = none
  b_zip : mg "zip" = none
  b_str : mg "str" = none
  f_gcd : mg "gcd" = some (.builtin "math.gcd")
theorem upd_upd {H : Hp} {p : Addr} {a b : HO} : upd (upd H p a) p b = upd H p b := by
  funext x
  unfold upd
  split <;> rfl
theorem take_map_succ {α β : Type} {f : α → β} {l : List α} {i : Nat} {c : α} (h : l[i]? = some c) : (l.take i).map f ++ [f c] = (l.take (i + 1)).map f := by
  rw [List.take_add_one, h, List.map_append]
  rfl
theorem divW_of {n : Int} (h : 0 < n) (h2 : n < 2 ^ 64) : CDivW 0 n := wide_div h (b := 64) (by omega) (by decide) (by decide)
theorem getV {ns : List Int} {i : Nat} {x : V} (h : (ns.map V.int)[i]? = some x) : ∃ z, x = .int z ∧ ns[i]? = some z := by
  rw [List.getElem?_map] at h
  cases e : ns[i]? with
  | none =>
    rw [e] at h
    cases h
  | some z =>
    rw [e] at h
    exact ⟨z, (Option.some.inj h).symm, rfl⟩
def spBegin (K : PySem.W.Frag) : Sp := fun vs H Q _ => ∃ (a : Addr) (ns : List Int), vs = [.ref a] ∧ SqL K H a (ns.map V.int) ∧ ns.length ≤ 63 ∧ ∀ S D H', Same H H' → H D = none → DrawAt S D H' → Q (.ref D) H'
/-- a text or a list, what it holds -/
def Row (K : PySem.W.Frag) (H : Hp) (v : V) (xs : List V) : Prop := (∃ z : Str, v = .str z ∧ xs = z.cps.toList.map fun c => .str ⟨#[c]⟩) ∨ (∃ p, v = .ref p ∧ SqL K H p xs) ∨ ∃ p, v = .ref p ∧ SqT K H p xs
def spPick (K : PySem.W.Frag) : Sp := fun vs H Q _ => ∃ (S D : Addr) (r : V) (xs : List V), vs = [.ref D, r] ∧ DrawAt S D H ∧ (∀ H', Go S D H H' → Row K H' r xs) ∧ 0 < xs.length ∧ xs.length ≤ 100000 ∧ ∀ H' x, x ∈ xs → Go S D H H' → Q x H'

theorem same_new {H : Hp} {p : Addr} {o : HO} (h : H p = none) : Same H (upd H p o) := fun b x e => by
  rw [upd_ne (ne_of_none e h)]
  exact e
/-- a change at a place that H does not know -/
theorem same_mut {H H' : Hp} {p : Addr} {o : HO} (s : Same H H') (h : H p = none) : Same H (upd H' p o) := fun b u e => by
  rw [upd_ne (ne_of_none e h)]
  exact s b u e
theorem iteNT {A B : Prop} (h : B) : if (!true) = true then A else B := iteF h
theorem line5 {n : Nat} (h : n ≤ 100000) : n ≤ sizeLine := Nat.le_trans h (by decide)
theorem line6 {n : Nat} (h : n < 100000) : n < sizeLine := Nat.lt_of_lt_of_le h (by decide)
/-! ### data as it stands in the heap -/
def KeepT (H H' : Hp) : Prop := ∀ p xs, Rd H p (.tup xs) → Rd H' p (.tup xs)
theorem KeepT.of_same {H H' : Hp} (s : Same H H') : KeepT H H' := fun p xs h => by
  rcases h with h | ⟨o, h⟩
  · exact .inl (s _ _ h)
  · exact .inr ⟨o, s _ _ h⟩
theorem KeepT.trans {H H1 H2 : Hp} (a : KeepT H H1) (b : KeepT H1 H2) : KeepT H H2 := fun p xs h => b p xs (a p xs h)
mutual
def noL : PyData → Bool
  | .list _ => false
  | .dict _ => false
  | .tuple ds => noLs ds
  | _ => true
def noLs : List PyData → Bool
  | [] => true
  | d :: ds => noL d && noLs ds
end
theorem sqt_keep {K : PySem.W.Frag} {H H' : Hp} {a : Addr} {xs : List V} (k : KeepT H H') (h : SqT K H a xs) : SqT K H' a xs := by
  rcases h with h | h
  · exact .inl (k _ _ h)
  · exact .inr h
mutual
theorem dp_keep {K : PySem.W.Frag} {H H' : Hp} (k : KeepT H H') : ∀ (d : PyData) (v : V), noL d = true → Dp K H v d → Dp K H' v d
  | .none, _, _, h => by
    cases h
    exact .non
  | .bool b, _, _, h => by
    cases h
    exact .bl b
  | .int i, _, _, h => by
    cases h
    exact .int i
  | .str x, _, _, h => by
    cases h
    exact .str x
  | .list ds, _, n, _ => by
    have n2 : false = true := n
    cases n2
  | .dict ds, _, n, _ => by
    have n2 : false = true := n
    cases n2
  | .tuple ds, _, n, h => by
    cases h with
    | tup h1 h2 => exact .tup (sqt_keep k h1) (dpA_keep k ds _ n h2)
theorem dpA_keep {K : PySem.W.Frag} {H H' : Hp} (k : KeepT H H') : ∀ (ds : List PyData) (xs : List V), noLs ds = true → DpAll K H xs ds → DpAll K H' xs ds
  | [], _, _, h => by
    cases h
    exact .nil
  | d :: ds, _, n, h => by
    cases h with
    | cons h1 h2 =>
      have n2 : (noL d && noLs ds) = true := n
      rw [Bool.and_eq_true] at n2
      exact .cons (dp_keep k d _ n2.1 h1) (dpA_keep k ds _ n2.2 h2)
end
theorem dp_tup {K : PySem.W.Frag} {H : Hp} {v : V} {ds : List PyData} (h : Dp K H v (.tuple ds)) : ∃ a xs, v = .ref a ∧ SqT K H a xs ∧ DpAll K H xs ds := by
  cases h with
  | tup h1 h2 => exact ⟨_, _, rfl, h1, h2⟩
theorem dp_str {K : PySem.W.Frag} {H : Hp} {v : V} {z : Str} (h : Dp K H v (.str z)) : v = .str z := by
  cases h
  rfl
theorem dp_int {K : PySem.W.Frag} {H : Hp} {v : V} {z : Int} (h : Dp K H v (.int z)) : v = .int z := by
  cases h
  rfl
theorem dp_non {K : PySem.W.Frag} {H : Hp} {v : V} (h : Dp K H v .none) : v = .non := by
  cases h
  rfl
theorem dpA_nil {K : PySem.W.Frag} {H : Hp} {xs : List V} (h : DpAll K H xs []) : xs = [] := by
  cases h
  rfl
theorem dpA_cons {K : PySem.W.Frag} {H : Hp} {xs : List V} {d : PyData} {ds : List PyData} (h : DpAll K H xs (d :: ds)) : ∃ x r, xs = x :: r ∧ Dp K H x d ∧ DpAll K H r ds := by
  cases h with
  | cons h1 h2 => exact ⟨_, _, rfl, h1, h2⟩
theorem dpA_len {K : PySem.W.Frag} {H : Hp} : ∀ {ds : List PyData} {xs : List V}, DpAll K H xs ds → xs.length = ds.length
  | [], _, h => by rw [dpA_nil h]; rfl
  | d :: ds, _, h => by
    obtain ⟨x, r, rfl, _, h2⟩ := dpA_cons h
    rw [List.length_cons, List.length_cons, dpA_len h2]
theorem dpA_at {K : PySem.W.Frag} {H : Hp} : ∀ {ds : List PyData} {xs : List V} {i : Nat} {x : V}, DpAll K H xs ds → xs[i]? = some x → ∃ d, ds[i]? = some d ∧ Dp K H x d
  | [], _, i, x, h, e => by
    rw [dpA_nil h] at e
    simp at e
  | d :: ds, _, 0, x, h, e => by
    obtain ⟨y, r, rfl, h1, h2⟩ := dpA_cons h
    have e2 : y = x := Option.some.inj e
    subst e2
    exact ⟨d, rfl, h1⟩
  | d :: ds, _, i + 1, x, h, e => by
    obtain ⟨y, r, rfl, h1, h2⟩ := dpA_cons h
    obtain ⟨d', h3, h4⟩ := dpA_at (i := i) (x := x) h2 (by simpa using e)
    exact ⟨d', by simpa using h3, h4⟩
theorem noLs_map {α : Type} (f : α → PyData) : ∀ l : List α, (∀ x ∈ l, noL (f x) = true) → noLs (l.map f) = true
  | [], _ => rfl
  | x :: r, h => by
    show (noL (f x) && noLs (r.map f)) = true
    rw [h x List.mem_cons_self, noLs_map f r fun y hy => h y (List.mem_cons_of_mem _ hy)]
    rfl
theorem keepT_new {H : Hp} {L : Addr} {o : HO} (h : H L = none) : KeepT H (upd H L o) := KeepT.of_same (same_new h)
theorem ixT {X : Cx} {K : PySem.W.Frag} (h : X.K = K) : IxR X (rIxT K) := h ▸ ix_tup
theorem isiT {X : Cx} {K : PySem.W.Frag} (h : X.K = K) : CallR X (.builtin "isinstance") (rIsi K) := h ▸ call_isi
theorem map_at {α : Type} {f : α → PyData} {l : List α} {i : Nat} {d : PyData} (h : (l.map f)[i]? = some d) : ∃ x, l[i]? = some x ∧ f x = d := by
  rw [List.getElem?_map] at h
  cases e : l[i]? with
  | none =>
    rw [e] at h
    cases h
  | some x =>
    rw [e] at h
    exact ⟨x, rfl, Option.some.inj h⟩
theorem dpA_snoc {K : PySem.W.Frag} {H : Hp} : ∀ {ds : List PyData} {xs : List V} {x : V} {d : PyData}, DpAll K H xs ds → Dp K H x d → DpAll K H (xs ++ [x]) (ds ++ [d])
  | [], _, _, _, h, hx => by
    rw [dpA_nil h]
    exact .cons hx .nil
  | d0 :: ds, _, _, _, h, hx => by
    obtain ⟨y, r, rfl, h1, h2⟩ := dpA_cons h
    exact .cons h1 (dpA_snoc h2 hx)
theorem sqt_ty {K : PySem.W.Frag} {H : Hp} {a : Addr} {xs : List V} (h : SqT K H a xs) : TyX K H (.ref a) (.type "tuple") := by
  rcases h with (h | ⟨o, h⟩) | ⟨o, its, n, hk, hc, _⟩
  · exact .base (.tup h)
  · exact .fTuple h
  · exact .kTuple hk hc
/-! ### fractions -/
abbrev F2 : Type := Int × Int
def gg (n d : Int) : Nat := Nat.gcd n.natAbs d.natAbs
def fr (n d : Int) : F2 := ((if d < 0 then -n else n) / (gg n d : Int), (if d < 0 then -d else d) / (gg n d : Int))
def add2 (a b : F2) : Int × Int := (a.1 * b.2 + b.1 * a.2, a.2 * b.2)
def sub2 (a b : F2) : Int × Int := (a.1 * b.2 - b.1 * a.2, a.2 * b.2)
def mul2 (a b : F2) : Int × Int := (a.1 * b.1, a.2 * b.2)
def div2 (a b : F2) : Int × Int := (a.1 * b.2, a.2 * b.1)
def frp (x : Int × Int) : F2 := fr x.1 x.2
theorem gg_pos {n d : Int} (h : d ≠ 0) : 0 < gg n d := Nat.gcd_pos_of_pos_right _ (Int.natAbs_pos.mpr h)
theorem gg_le {n d : Int} (h : d ≠ 0) : gg n d ≤ d.natAbs := Nat.gcd_le_right _ (Int.natAbs_pos.mpr h)
/-- in lowest terms, the second at least 1 -/
structure Low (x : F2) : Prop where
  pos : 1 ≤ x.2
  co : Nat.gcd x.1.natAbs x.2.natAbs = 1
theorem fr_low {n d : Int} (h : d ≠ 0) : Low (fr n d) := by
  have g0 := gg_pos (n := n) h
  have gd1 : (gg n d : Int) ∣ d := Int.ofNat_dvd_left.mpr (Nat.gcd_dvd_right _ _)
  have gn1 : (gg n d : Int) ∣ n := Int.ofNat_dvd_left.mpr (Nat.gcd_dvd_left _ _)
  have key : ∀ a b : Int, a.natAbs = n.natAbs → b.natAbs = d.natAbs → 0 < b → Low (a / (gg n d : Int), b / (gg n d : Int)) := fun a b ha hb hp => by
    have g1 : (gg n d : Int) ∣ b := Int.ofNat_dvd_left.mpr (by rw [hb]; exact Nat.gcd_dvd_right _ _)
    have g2 : (gg n d : Int) ∣ a := Int.ofNat_dvd_left.mpr (by rw [ha]; exact Nat.gcd_dvd_left _ _)
    refine ⟨?_, ?_⟩
    · have := Int.ediv_pos_of_pos_of_dvd hp (by omega) g1
      show 1 ≤ b / (gg n d : Int)
      omega
    · show Nat.gcd (a / (gg n d : Int)).natAbs (b / (gg n d : Int)).natAbs = 1
      rw [Int.natAbs_ediv_of_dvd g2, Int.natAbs_ediv_of_dvd g1, ha, hb, Int.natAbs_natCast]
      exact Nat.gcd_div_gcd_div_gcd_of_pos_right (Int.natAbs_pos.mpr h)
  unfold fr
  by_cases hd : d < 0
  · rw [if_pos hd, if_pos hd]
    exact key _ _ (Int.natAbs_neg n) (Int.natAbs_neg d) (by omega)
  · rw [if_neg hd, if_neg hd]
    exact key _ _ rfl rfl (by omega)
theorem low_fr {x : F2} (h : Low x) : fr x.1 x.2 = x := by
  have h1 := h.pos
  unfold fr
  rw [if_neg (by omega), if_neg (by omega)]
  have : gg x.1 x.2 = 1 := h.co
  rw [this]
  show (x.1 / 1, x.2 / 1) = x
  rw [Int.ediv_one, Int.ediv_one]
/-- the size: below 2 ^ k both -/
def Sz (k : Nat) (x : Int × Int) : Prop := x.1.natAbs < 2 ^ k ∧ x.2.natAbs < 2 ^ k
theorem div_small (a : Int) (g : Nat) : (a / (g : Int)).natAbs ≤ a.natAbs := Int.natAbs_ediv_le_natAbs a g
theorem fr_sz {k : Nat} {x : Int × Int} (h : Sz k x) : Sz k (frp x) := by
  have key : ∀ (c : Prop) [Decidable c] (a : Int) (g : Nat), ((if c then -a else a) / (g : Int)).natAbs ≤ a.natAbs := fun c _ a g => by
    split
    · exact Nat.le_trans (div_small _ _) (Nat.le_of_eq (Int.natAbs_neg a))
    · exact div_small _ _
  exact ⟨Nat.lt_of_le_of_lt (key _ _ _) h.1, Nat.lt_of_le_of_lt (key _ _ _) h.2⟩
theorem sz_mul {a b : Int} {j k : Nat} (ha : a.natAbs < 2 ^ j) (hb : b.natAbs < 2 ^ k) : (a * b).natAbs < 2 ^ (j + k) := wide_lt ha hb
theorem sz_add {a b : Int} {k : Nat} (ha : a.natAbs < 2 ^ k) (hb : b.natAbs < 2 ^ k) : (a + b).natAbs < 2 ^ (k + 1) := by
  have := Int.natAbs_add_le a b
  rw [Nat.pow_succ]
  omega
theorem sz_sub {a b : Int} {k : Nat} (ha : a.natAbs < 2 ^ k) (hb : b.natAbs < 2 ^ k) : (a - b).natAbs < 2 ^ (k + 1) := by
  have := sz_add ha (b := -b) (by rw [Int.natAbs_neg]; exact hb)
  rw [Int.sub_eq_add_neg]
  exact this
theorem sz_up {x : Int × Int} {j k : Nat} (h : Sz j x) (hl : j ≤ k) : Sz k x :=
  ⟨Nat.lt_of_lt_of_le h.1 (Nat.pow_le_pow_right (by decide) hl), Nat.lt_of_lt_of_le h.2 (Nat.pow_le_pow_right (by decide) hl)⟩
theorem n_up {a : Int} {j k : Nat} (h : a.natAbs < 2 ^ j) (hl : j ≤ k) : a.natAbs < 2 ^ k := Nat.lt_of_lt_of_le h (Nat.pow_le_pow_right (by decide) hl)
theorem add2_sz {a b : F2} {j k : Nat} (ha : Sz j a) (hb : Sz k b) : Sz (j + k + 1) (add2 a b) :=
  ⟨sz_add (sz_mul ha.1 hb.2) (by rw [Nat.add_comm j k]; exact sz_mul hb.1 ha.2), n_up (sz_mul ha.2 hb.2) (Nat.le_succ _)⟩
theorem sub2_sz {a b : F2} {j k : Nat} (ha : Sz j a) (hb : Sz k b) : Sz (j + k + 1) (sub2 a b) :=
  ⟨sz_sub (sz_mul ha.1 hb.2) (by rw [Nat.add_comm j k]; exact sz_mul hb.1 ha.2), n_up (sz_mul ha.2 hb.2) (Nat.le_succ _)⟩
theorem mul2_sz {a b : F2} {j k : Nat} (ha : Sz j a) (hb : Sz k b) : Sz (j + k + 1) (mul2 a b) := ⟨n_up (sz_mul ha.1 hb.1) (Nat.le_succ _), n_up (sz_mul ha.2 hb.2) (Nat.le_succ _)⟩
theorem div2_sz {a b : F2} {j k : Nat} (ha : Sz j a) (hb : Sz k b) : Sz (j + k + 1) (div2 a b) := ⟨n_up (sz_mul ha.1 hb.2) (Nat.le_succ _), n_up (sz_mul ha.2 hb.1) (Nat.le_succ _)⟩
/-- the sum of a row, from the left -/
def tot : List F2 → F2 → F2
  | [], t => t
  | x :: r, t => tot r (frp (add2 t x))
theorem gg_if (n d : Int) : (if d < 0 then -n else n).natAbs.gcd (if d < 0 then -d else d).natAbs = gg n d := by
  unfold gg
  split <;> simp
theorem low0 : Low (0, 1) := ⟨by decide, by decide⟩
theorem sz0 : Sz 1 (0, 1) := ⟨by decide, by decide⟩
theorem low_frp {x : Int × Int} (h : x.2 ≠ 0) : Low (frp x) := fr_low h
theorem add2_ne {a b : F2} (ha : Low a) (hb : Low b) : (add2 a b).2 ≠ 0 := by
  have h1 := ha.pos
  have h2 := hb.pos
  exact Int.ne_of_gt (Int.mul_pos (by omega) (by omega))
theorem tot_ok : ∀ (fs : List F2) (t : F2) {k : Nat}, Low t → Sz k t → (∀ x ∈ fs, Sz 100 x ∧ Low x) → Sz (k + 101 * fs.length) (tot fs t) ∧ Low (tot fs t)
  | [], t, k, h1, h2, _ => ⟨h2, h1⟩
  | x :: r, t, k, h1, h2, h3 => by
    obtain ⟨a, b⟩ := h3 x (List.mem_cons_self)
    have := tot_ok r (frp (add2 t x)) (k := k + 100 + 1) (low_frp (add2_ne h1 b)) (fr_sz (add2_sz h2 a)) (fun y hy => h3 y (List.mem_cons_of_mem _ hy))
    refine ⟨sz_up this.1 ?_, this.2⟩
    rw [List.length_cons]
    omega
theorem tot_snoc (x : F2) : ∀ (l : List F2) (t : F2), tot (l ++ [x]) t = frp (add2 (tot l t) x)
  | [], _ => rfl
  | y :: r, t => tot_snoc x r (frp (add2 t y))
theorem same_l {K : PySem.W.Frag} {H H' : Hp} {a : Addr} {xs : List V} (e : Same H H') (h : SqL K H a xs) : SqL K H' a xs := e.seq h
theorem same_t {K : PySem.W.Frag} {H H' : Hp} {a : Addr} {xs : List V} (e : Same H H') (h : SqT K H a xs) : SqT K H' a xs := by
  rcases h with (h | ⟨o, h⟩) | h
  · exact .inl (.inl (e _ _ h))
  · exact .inl (.inr ⟨o, e _ _ h⟩)
  · exact .inr h
theorem Paired.at {α β : Type} {R : α → β → Prop} : ∀ {xs : List α} {ys : List β} {i : Nat} {x : α}, Paired R xs ys → xs[i]? = some x → ∃ y, ys[i]? = some y ∧ R x y
  | _, _, _, _, .nil, e => by simp at e
  | _, _, 0, _, .cons r _, e => by
    have e : _ = _ := Option.some.inj e
    subst e
    exact ⟨_, rfl, r⟩
  | _, _, i + 1, x, .cons _ t, e => by
    obtain ⟨y, h1, h2⟩ := Paired.at (i := i) (x := x) t (by simpa using e)
    exact ⟨y, by simpa using h1, h2⟩
def dF (x : Int × Int) : PyData := .tuple [.int x.1, .int x.2]
def dFs (l : List (Int × Int)) : PyData := .list (l.map dF)
theorem dF_sh (x : Int × Int) : SeqAt.shaped (dF x) = true := rfl
theorem dFs_lay : ∀ l : List (Int × Int), PyData.canLayAll0 (l.map dF) = true
  | [] => rfl
  | x :: r => by
    show (PyData.canLay0 (dF x) && PyData.canLayAll0 (r.map dF)) = true
    rw [dFs_lay r]
    rfl
theorem dFs_dep : ∀ l : List (Int × Int), PyData.depthAll (l.map dF) ≤ 1
  | [] => Nat.zero_le _
  | x :: r => by
    show max (PyData.depth (dF x)) (PyData.depthAll (r.map dF)) ≤ 1
    have := dFs_dep r
    have e : PyData.depth (dF x) = 1 := rfl
    omega
theorem dFs_sh (l : List (Int × Int)) : SeqAt.shaped (dFs l) = true := by
  unfold SeqAt.shaped
  rw [Bool.and_eq_true]
  refine ⟨dFs_lay l, decide_eq_true ?_⟩
  show PyData.depthAll (l.map dF) + 1 ≤ 64
  have := dFs_dep l
  omega
theorem dFs_eqv (l : List (Int × Int)) : PyData.eqv (dFs l) (dFs l) = true := SeqAt.eqv_refl _ (dFs_lay l)
theorem dF_eqv (x : Int × Int) : PyData.eqv (dF x) (dF x) = true := SeqAt.eqv_refl _ rfl
theorem frv {n d : Int} (h : d ≠ 0) : (fr n d).1 * d = n * (fr n d).2 := by
  have g0 : (gg n d : Int) ≠ 0 := by
    have := Nat.gcd_pos_of_pos_right n.natAbs (Int.natAbs_pos.mpr h)
    show ((Nat.gcd n.natAbs d.natAbs : Nat) : Int) ≠ 0
    omega
  obtain ⟨a, ha⟩ : (gg n d : Int) ∣ n := Int.ofNat_dvd_left.mpr (Nat.gcd_dvd_left _ _)
  obtain ⟨b, hb⟩ : (gg n d : Int) ∣ d := Int.ofNat_dvd_left.mpr (Nat.gcd_dvd_right _ _)
  show ((if d < 0 then -n else n) / (gg n d : Int)) * d = n * ((if d < 0 then -d else d) / (gg n d : Int))
  generalize (gg n d : Int) = g at *
  split
  · rw [show -n = g * -a by rw [ha]; grind, show -d = g * -b by rw [hb]; grind, Int.mul_ediv_cancel_left _ g0, Int.mul_ediv_cancel_left _ g0]
    subst ha hb
    grind
  · rw [show n / g = a by rw [ha, Int.mul_ediv_cancel_left _ g0], show d / g = b by rw [hb, Int.mul_ediv_cancel_left _ g0]]
    subst ha hb
    grind
theorem low_uniq {x y : F2} (hx : Low x) (hy : Low y) (e : x.1 * y.2 = y.1 * x.2) : x = y := by
  obtain ⟨a, b⟩ := x
  obtain ⟨c, d⟩ := y
  have b1 : 1 ≤ b := hx.pos
  have d1 : 1 ≤ d := hy.pos
  have e1 : a.natAbs * d.natAbs = c.natAbs * b.natAbs := by
    rw [← Int.natAbs_mul, ← Int.natAbs_mul]
    exact congrArg Int.natAbs e
  have h1 : b.natAbs ∣ d.natAbs := Nat.Coprime.dvd_of_dvd_mul_left (Nat.Coprime.symm hx.co) ⟨c.natAbs, by rw [e1, Nat.mul_comm]⟩
  have h2 : d.natAbs ∣ b.natAbs := Nat.Coprime.dvd_of_dvd_mul_left (Nat.Coprime.symm hy.co) ⟨a.natAbs, by rw [← e1, Nat.mul_comm]⟩
  have h3 := Nat.dvd_antisymm h1 h2
  have h4 : b = d := by omega
  subst h4
  have h5 : a = c := Int.eq_of_mul_eq_mul_right (by omega) (show a * b = c * b from e)
  rw [h5]
/-! ### promises -/
def tupV (x : Int × Int) : List V := [.int x.1, .int x.2]
def tupF (x : Int × Int) : HO := .tup (tupV x)
def spFrac : Sp := fun vs H Q _ => ∃ n d : Int, vs = [.int n, .int d] ∧ d ≠ 0 ∧ Sz 4000 (n, d) ∧ ∀ p, H p = none → Q (.ref p) (upd H p (tupF (fr n d)))
def spBin (K : PySem.W.Frag) (op : F2 → F2 → Int × Int) : Sp := fun vs H Q _ => ∃ (p q : Addr) (a b : F2), vs = [.ref p, .ref q] ∧ SqT K H p (tupV a) ∧ SqT K H q (tupV b) ∧ Sz 1900 a ∧ Sz 1900 b ∧ (op a b).2 ≠ 0 ∧ ∀ r, H r = none → Q (.ref r) (upd H r (tupF (frp (op a b))))
def spIsInt : Sp := fun vs H Q _ => ∃ i : Int, vs = [.int i] ∧ Q (.bl true) H
def spIsInts (K : PySem.W.Frag) : Sp := fun vs H Q _ => ∃ (p : Addr) (ns : List Int), vs = [.ref p] ∧ H p = some (.tup (ns.map V.int)) ∧ ns.length ≤ 100 ∧ ∀ H', Same H H' → Q (.bl true) H'
def spIsFrac (K : PySem.W.Frag) : Sp := fun vs H Q _ => ∃ (p : Addr) (x : F2), vs = [.ref p] ∧ H p = some (tupF x) ∧ Low x ∧ Sz 4000 x ∧ ∀ H', Same H H' → Q (.bl true) H'
def spLaw (K : PySem.W.Frag) : Sp := fun vs H Q _ => ∃ (a : Addr) (ns : List Int), vs = [.ref a] ∧ SqL K H a (ns.map V.int) ∧ ns.length ≤ 63 ∧ ∀ H', Q (.bl true) H'
theorem dp_F {K : PySem.W.Frag} {H : Hp} {p : Addr} {x : Int × Int} (h : SqT K H p (tupV x)) : Dp K H (.ref p) (dF x) := .tup h (.cons (.int _) (.cons (.int _) .nil))
theorem all_true {α : Type} (l : List α) : (l.map fun _ => true).all id = true := by
  rw [List.all_map]
  exact List.all_eq_true.mpr fun _ _ => rfl
def NT (o : HO) : Prop := (∀ xs, o ≠ .tup xs) ∧ ∀ ob u, o ≠ .frz ob u
theorem nt_lst (l : List V) : NT (.lst l) := ⟨fun _ e => (nomatch e), fun _ _ e => (nomatch e)⟩
theorem nt_dk (l : List (Key × V)) : NT (.dK l) := ⟨fun _ e => (nomatch e), fun _ _ e => (nomatch e)⟩
theorem DrawAt.upd {S D L : Addr} {H : Hp} {o : HO} (d : DrawAt S D H) (n1 : L ≠ D) (n2 : L ≠ S) : DrawAt S D (upd H L o) := by
  obtain ⟨cs, h1⟩ := d.cells
  obtain ⟨i, r, c, h0, h2⟩ := d.at_
  exact ⟨d.ne, ⟨cs, by rw [upd_ne n2.symm]; exact h1⟩, ⟨i, r, c, h0, by rw [upd_ne n1.symm]; exact h2⟩⟩
/-- the draws, and one thing F that may change -/
structure StF (S D F : Addr) (H : Hp) : Prop where
  dr : DrawAt S D H
  nS : F ≠ S
  fl : ∃ o, H F = some o ∧ NT o
def GoL (S D F : Addr) (H H' : Hp) : Prop := StF S D F H' ∧ ∀ b o, H b = some o → b ≠ D → b ≠ F → H' b = some o
section
variable {S D F L p : Addr} {H H1 H2 H' : Hp} {o : HO} {K : PySem.W.Frag}
theorem StF.of_draw (d : DrawAt S D H) : StF S D D H := ⟨d, d.ne.symm, let ⟨_, _, _, _, h⟩ := d.at_; ⟨_, h, nt_lst _⟩⟩
theorem StF.free (st : StF S D F H) (h : H p = none) : p ≠ D ∧ p ≠ S ∧ p ≠ F := by
  obtain ⟨o, hF, _⟩ := st.fl
  exact ⟨(st.dr.free h).1, (st.dr.free h).2, (ne_of_none hF h).symm⟩
theorem GoL.refl (st : StF S D F H) : GoL S D F H H := ⟨st, fun _ _ h _ _ => h⟩
theorem GoL.trans (a : GoL S D F H H1) (b : GoL S D F H1 H2) : GoL S D F H H2 := ⟨b.1, fun x o h n m => b.2 x o (a.2 x o h n m) n m⟩
theorem GoL.of_go (st : StF S D F H) (g : Go S D H H') : GoL S D F H H' := by
  refine ⟨⟨g.1, st.nS, ?_⟩, fun b o h n _ => g.2 b o h n⟩
  obtain ⟨o, hF, nt⟩ := st.fl
  by_cases e : F = D
  · rw [e]
    obtain ⟨_, _, _, _, h⟩ := g.1.at_
    exact ⟨_, h, nt_lst _⟩
  · exact ⟨o, g.2 F _ hF e, nt⟩
theorem GoL.to_go (g : GoL S D D H H') : Go S D H H' := ⟨g.1.dr, fun b o h n => g.2 b o h n n⟩
theorem GoL.mut (st : StF S D F H) (g : GoL S D F H H') (h : H L = none) : GoL S D F H (upd H' L o) := by
  obtain ⟨n1, n2, n3⟩ := st.free h
  obtain ⟨u, hF, nt⟩ := g.1.fl
  exact ⟨⟨g.1.dr.upd n1 n2, st.nS, ⟨u, by rw [upd_ne n3.symm]; exact hF, nt⟩⟩, fun b v hb m1 m2 => by
    rw [upd_ne (ne_of_none hb h)]
    exact g.2 b v hb m1 m2⟩
theorem GoL.new (st : StF S D F H) (h : H p = none) : GoL S D F H (upd H p o) := GoL.mut st (GoL.refl st) h
theorem GoL.setF (nD : F ≠ D) (nt : NT o) (g : GoL S D F H H') : GoL S D F H (upd H' F o) :=
  ⟨⟨g.1.dr.upd nD g.1.nS, g.1.nS, ⟨o, upd_same, nt⟩⟩, fun b v hb m1 m2 => by
    rw [upd_ne m2]
    exact g.2 b v hb m1 m2⟩
theorem GoL.back (st : StF S D F H) (g : GoL S D F H H') (h : H' p = none) : H p = none := by
  cases q : H p with
  | none => rfl
  | some u =>
    obtain ⟨n1, n2, n3⟩ := g.1.free h
    rw [g.2 p u q n1 n3] at h
    cases h
theorem nt_not {xs : List V} (nt : NT o) (h : H p = some o) (r : Rd H L (.tup xs)) : L ≠ p := fun e => by
  subst e
  rcases r with r | ⟨ob, r⟩
  · rw [h] at r
    exact nt.1 _ (Option.some.inj r)
  · rw [h] at r
    exact nt.2 _ _ (Option.some.inj r)
theorem GoL.keepT (st : StF S D F H) (g : GoL S D F H H') : KeepT H H' := fun p xs r => by
  obtain ⟨_, _, _, _, hD⟩ := st.dr.at_
  obtain ⟨o, hF, nt⟩ := st.fl
  have n1 := nt_not (nt_lst _) hD r
  have n2 := nt_not nt hF r
  rcases r with r | ⟨o, r⟩
  · exact .inl (g.2 _ _ r n1 n2)
  · exact .inr ⟨o, g.2 _ _ r n1 n2⟩
theorem Go.keepT (d : DrawAt S D H) (g : Go S D H H') : KeepT H H' := GoL.keepT (StF.of_draw d) (GoL.of_go (StF.of_draw d) g)
theorem keepT_nt {o2 : HO} (nt : NT o2) (h : H L = some o2) : KeepT H (upd H L o) := fun p xs r => by
  have n := nt_not nt h r
  rcases r with r | ⟨o, r⟩
  · exact .inl (by rw [upd_ne n]; exact r)
  · exact .inr ⟨o, by rw [upd_ne n]; exact r⟩
theorem noLs_of {α : Type} {f : α → PyData} (h : ∀ a, noL (f a) = true) (l : List α) : noLs (l.map f) = true := noLs_map f l fun a _ => h a
end
/-- a list that is being filled -/
structure BL (K : PySem.W.Frag) (S D F L : Addr) (H0 H : Hp) {α : Type} (f : α → PyData) (as : List α) : Prop where
  g : GoL S D F H0 H
  l : ∃ zs, H L = some (.lst zs) ∧ DpAll K H zs (as.map f)
section
variable {S D F L : Addr} {H0 H H1 : Hp} {K : PySem.W.Frag} {α : Type} {f : α → PyData} {as : List α}
theorem BL.nil (st : StF S D F H0) (h : H0 L = none) : BL K S D F L H0 (upd H0 L (.lst [])) f [] := ⟨GoL.new st h, [], upd_same, .nil⟩
theorem BL.go (st : StF S D F H0) (hL : H0 L = none) (hn : ∀ a, noL (f a) = true) (b : BL K S D F L H0 H f as) (g : GoL S D F H H1) : BL K S D F L H0 H1 f as := by
  obtain ⟨zs, h1, h2⟩ := b.l
  obtain ⟨n1, n2, n3⟩ := st.free hL
  exact ⟨b.g.trans g, zs, g.2 _ _ h1 n1 n3, dpA_keep (GoL.keepT b.g.1 g) _ _ (noLs_of hn as) h2⟩
theorem BL.add (st : StF S D F H0) (hL : H0 L = none) (hn : ∀ a, noL (f a) = true) {a : α} {x : V} {zs : List V} (g : GoL S D F H0 H) (h1 : H L = some (.lst zs)) (h2 : DpAll K H zs (as.map f)) (hx : Dp K H x (f a)) :
    BL K S D F L H0 (upd H L (.lst (zs ++ [x]))) f (as ++ [a]) := by
  have k := keepT_nt (o := .lst (zs ++ [x])) (nt_lst _) h1
  refine ⟨GoL.mut st g hL, zs ++ [x], upd_same, ?_⟩
  rw [List.map_append]
  exact dpA_snoc (dpA_keep k _ _ (noLs_of hn as) h2) (dp_keep k _ _ (hn a) hx)
theorem BL.len (b : BL K S D F L H0 H f as) : ∃ zs, H L = some (.lst zs) ∧ DpAll K H zs (as.map f) ∧ zs.length = as.length := by
  obtain ⟨zs, h1, h2⟩ := b.l
  exact ⟨zs, h1, h2, by have := dpA_len h2; rw [List.length_map] at this; exact this⟩
theorem GoL.drop {H' : Hp} (g : GoL S D F H H') (h : H F = none) : Go S D H H' := ⟨g.1.dr, fun b o hb n => g.2 b o hb n (ne_of_none hb h)⟩
end
theorem snoc_str (l : List Str) (z : Str) : l.map V.str ++ [V.str z] = (l ++ [z]).map V.str := by
  rw [List.map_append]
  rfl
theorem int_noL (p : Int) : noL (.int p) = true := rfl
theorem str_noL (p : Str) : noL (.str p) = true := rfl
/-! ### promises of the small draws -/
def spPop : Sp := fun vs H Q _ => ∃ (S D p : Addr) (xs : List V), vs = [.ref D, .ref p] ∧ DrawAt S D H ∧ p ≠ D ∧ H p = some (.lst xs) ∧ 0 < xs.length ∧ xs.length ≤ 1000 ∧ ∀ (H1 : Hp) (j : Nat) (x : V), Go S D H H1 → xs[j]? = some x → Q x (upd H1 p (.lst (xs.eraseIdx j)))
def spRare : Sp := fun vs H Q _ => ∃ (S D : Addr) (m : Int), vs = [.ref D, .int m] ∧ 0 < m ∧ m < 1000 ∧ DrawAt S D H ∧ ∀ H' b, Go S D H H' → Q (.bl b) H'
def spShuf (K : PySem.W.Frag) : Sp := fun vs H Q _ => ∃ (S D p : Addr) (xs : List V), vs = [.ref D, .ref p] ∧ DrawAt S D H ∧ SqL K H p xs ∧ xs.length ≤ 1000 ∧
  ∀ (H' : Hp) (q : Addr) (ys : List V), Go S D H H' → H q = none → H' q = some (.lst ys) → ys.length = xs.length → (∀ y ∈ ys, y ∈ xs) → Q (.ref q) H'
abbrev PA : Str := "a b2 sum left r k0 carry z9z full tail n m8 aa busy cnt p t4 even2 ab1 head u v2 w lowest high mid "
abbrev PB : Str := "s t e f g h i j k x y q7 deep turn gate l5 next1 o c0 d two zz1 near far9 last ring2 "
abbrev PC : Str := "aaaaaaa8 b c1 top2 net3 row col7 v"
def POOL : List Str := Txt.split (PA ++ PB ++ PC) " "
theorem pool_len : POOL.length = 60 := by decide +kernel
def spPool : Sp := fun vs H Q _ => vs = [] ∧ ∀ p, H p = none → Q (.ref p) (upd H p (.lst (POOL.map V.str)))
section
variable {P : Program} {w : World} {K : PySem.W.Frag} {mg : Str → Option Value} {base : Heap}
theorem ok__law_draw (T : Txt K mg) {f : Addr} {fd : FuncData} (F : FnP K "_law_draw" s__law_draw f fd) : FnOk P w K mg base CX0 1 f fd ["d", "many"] spDraw := by
  refine F.ok sc__law_draw (fun vs H Q E h => ?_) (fun cdv A outer s H vs Q E hr h => ?_)
  · obtain ⟨S, D, m, rfl, _⟩ := h
    rfl
  · obtain ⟨S, D, m, rfl, hm, d, q⟩ := h
    obtain ⟨cs, hS⟩ := id d.cells
    obtain ⟨i, r, c, h0, hD⟩ := id d.at_
    have hm0 : 0 < m := hm.1
    refine ⟨_, PSs.nox (pss_cons (ps_if (pt_cmpR op_gt (pe_ix ix_list (pv 0) pe_int (fun _ _ => rfl)) pe_int (nomark _)) (pss_cons (ps_set (i := 2) sc__law_draw.nd rfl (Or.inl rfl) (pe_ix ix_list (pv 0) pe_int (fun _ _ => rfl)))
      (pss_cons (ps_asg (pe_op op_fdivW (pv 2) (pv 1)) (pg_sub (pv 0) pe_int set_list))
      (pss_one (ps_ret (pe_op op_mod (pe_callTy call_int1 (by rfl) T.b_int (by decide +kernel) (pa_cons (pv 2) pa_nil)) (pv 1)))))) pss_nil)
      (pss_cons (ps_set (i := 3) sc__law_draw.nd rfl (Or.inl rfl) pe_int)
      (Evl.pss_cut (ps_if (pt_cmpR op_lt (pe_ix ix_list (pv 0) pe_int (fun _ _ => rfl)) (pe_callB call_len (by rfl) T.b_len (by decide +kernel) (pa_cons (pe_ix ix_list (pv 0) pe_int (fun _ _ => rfl)) pa_nil)) (nomark _)) (pss_cons (ps_set (i := 4) sc__law_draw.nd rfl (Or.inl rfl) (pe_ix ix_list (pe_ix ix_list (pv 0) pe_int (fun _ _ => rfl)) (pe_ix ix_list (pv 0) pe_int (fun _ _ => rfl)) (fun _ _ => rfl)))
      (pss_one (ps_set (i := 3) sc__law_draw.nd rfl (Or.inl rfl) (pe_op op_add (pe_op op_mul pe_int (pe_callB call_abs (by rfl) T.b_abs (by decide +kernel) (pa_cons (pv 4) pa_nil))) (pe_callTy call_int1 (by rfl) T.b_int (by decide +kernel) (pa_cons (pe_cmpR op_lt (pv 4) pe_int (nomark _)) pa_nil)))))) pss_nil)
      (pss_cons (ps_augS (pv 0) pe_int get_list pe_int ip_add set_list)
      (pss_cons (ps_if (pt_cmpR op_ge (pv 3) (pe_op op_mul pe_int (pe_op op_pow pe_int pe_int)) (nomark _)) (pss_cons (ps_set (i := 2) sc__law_draw.nd rfl (Or.inl rfl) (pe_op op_mod (pe_callTy call_int1 (by rfl) T.b_int (by decide +kernel) (pa_cons (pe_op op_fdivW (pv 3) pe_int) pa_nil)) (pe_op op_shl pe_int pe_int)))
      (pss_cons (ps_asg (pe_op op_fdivW (pv 2) (pv 1)) (pg_sub (pv 0) pe_int set_list))
      (pss_one (ps_ret (pe_op op_mod (pe_callTy call_int1 (by rfl) T.b_int (by decide +kernel) (pa_cons (pv 2) pa_nil)) (pv 1)))))) pss_nil)
      (pss_cons (ps_asg (pe_op op_mod (pe_callTy call_int1 (by rfl) T.b_int (by decide +kernel) (pa_cons (pe_op op_add (pe_op op_add (pe_op op_add (pe_op op_mul (pe_ix ix_list (pv 0) pe_int (fun _ _ => rfl)) pe_int) (pe_op op_mul (pe_op op_mod (pe_callTy call_int1 (by rfl) T.b_int (by decide +kernel) (pa_cons (pv 3) pa_nil)) pe_int) pe_int)) (pe_op op_mul (pe_ix ix_list (pv 0) pe_int (fun _ _ => rfl)) pe_int)) pe_int) pa_nil)) pe_int) (pg_sub (pv 0) pe_int set_list))
      (pss_one (ps_ret (pe_op op_mod (pe_callTy call_int1 (by rfl) T.b_int (by decide +kernel) (pa_cons (pe_op op_fdivW (pe_ix ix_list (pv 0) pe_int (fun _ _ => rfl)) pe_int) pa_nil)) (pv 1)))))))))), ?_⟩
    refine ⟨_, rfl, D, _, _, _, rfl, rfl, SqL.of hD, atI_nat (j := 2) rfl, _, _, rfl, rfl, _, rfl, ?_⟩
    refine ite2 (fun e => ?_) (fun e => ?_)
    · refine ⟨_, rfl, D, _, _, _, rfl, rfl, SqL.of hD, atI_nat (j := 2) rfl, ?_⟩
      refine ⟨_, rfl, _, rfl, _, _, rfl, rfl, hm, _, rfl, D, _, _, 2, rfl, rfl, hD, rfl, ?_⟩
      refine ⟨_, rfl, .inl ⟨_, rfl, _, rfl, _, _, rfl, rfl, hm0, ?_⟩⟩
      refine q _ _ (Int.emod_nonneg _ (by omega)) (Int.emod_lt_of_pos _ hm0) ⟨d.set h0, Keep.refl.set⟩
    · refine ⟨fun σ' H' => ∃ (z : Int) (x : Option V), σ' = [some (.ref D), some (.int m), none, some (.int z), x] ∧ H' = H, ?_, ?_⟩
      · refine ⟨_, rfl, D, _, _, _, rfl, rfl, SqL.of hD, atI_nat (j := 1) rfl, ?_⟩
        refine ⟨_, rfl, D, _, _, _, rfl, rfl, SqL.of hD, atI_nat (j := 0) rfl, _, _, rfl, .inl ⟨_, SqL.of hS, rfl⟩, _, _, rfl, rfl, _, rfl, ?_⟩
        refine ite2 (fun e1 => ?_) (fun e1 => ?_)
        · have e2 : i < ((cs.map V.int).length : Int) := of_decide_eq_true e1
          have e3 : i.toNat < (cs.map V.int).length := by omega
          have e4 : i.toNat < cs.length := by rw [List.length_map] at e3; exact e3
          have e5 : (cs.map V.int)[i.toNat]? = some (.int cs[i.toNat]) := by
            rw [List.getElem?_map, List.getElem?_eq_getElem e4]
            rfl
          have e6 : atI (cs.map V.int) i = some (.int cs[i.toNat]) := by
            have := atI_nat (xs := cs.map V.int) e5
            rw [show ((i.toNat : Nat) : Int) = i by omega] at this
            exact this
          refine ⟨_, rfl, D, _, _, _, rfl, rfl, SqL.of hD, atI_nat (j := 0) rfl, ?_⟩
          refine ⟨_, rfl, D, _, _, _, rfl, rfl, SqL.of hD, atI_nat (j := 1) rfl, ?_⟩
          refine ⟨S, _, _, _, rfl, rfl, SqL.of hS, e6, ?_⟩
          refine ⟨_, rfl, _, rfl, _, _, rfl, rfl, .inl ⟨by decide, by decide⟩, ?_⟩
          refine ⟨_, rfl, _, _, rfl, rfl, .inr ⟨_, rfl, _, _, rfl, rfl, ?_⟩⟩
          exact ⟨_, _, rfl, rfl⟩
        · exact ⟨_, _, rfl, rfl⟩
      · rintro σ' H' ⟨z, x, rfl, rfl⟩
        refine ⟨_, rfl, D, _, _, _, rfl, rfl, SqL.of hD, atI_nat (j := 1) rfl, ?_⟩
        refine ⟨_, _, rfl, rfl, D, _, _, 1, rfl, rfl, hD, rfl, ?_⟩
        have hD1 : (upd H' D (.lst [.ref S, .int (i + 1), .int r, .int c])) D = some (.lst [.ref S, .int (i + 1), .int r, .int c]) := upd_same
        have d1 : DrawAt S D (upd H' D (.lst [.ref S, .int (i + 1), .int r, .int c])) := d.set (by omega)
        refine ⟨_, rfl, _, _, rfl, rfl, ⟨by decide, by decide, by decide⟩, _, _, rfl, rfl, .inl ⟨by decide, by decide⟩, _, _, rfl, rfl, _, rfl, ?_⟩
        refine ite2 (fun e1 => ?_) (fun e1 => ?_)
        · refine ⟨_, rfl, _, _, rfl, rfl, ⟨by decide, by decide⟩, .inl ⟨_, rfl, _, _, rfl, rfl, ⟨by decide, by decide, by decide⟩, ?_⟩⟩
          refine ⟨_, _, rfl, rfl, ?_, ?_⟩
          · show (0 : Int) < 1 * 2 ^ (6000 : Int).toNat
            exact Int.mul_pos (by decide) (Int.pow_pos (by decide))
          · refine ⟨_, rfl, _, rfl, _, _, rfl, rfl, hm, _, rfl, D, _, _, 2, rfl, rfl, hD1, rfl, ?_⟩
            refine ⟨_, rfl, .inl ⟨_, rfl, _, rfl, _, _, rfl, rfl, hm0, ?_⟩⟩
            exact q _ _ (Int.emod_nonneg _ (by omega)) (Int.emod_lt_of_pos _ hm0) ⟨d1.set (by omega), Keep.refl.set.set⟩
        · refine ⟨_, rfl, D, _, _, _, rfl, rfl, SqL.of hD1, atI_nat (j := 3) rfl, _, _, rfl, rfl, .inr ⟨by decide, by decide⟩, ?_⟩
          refine ⟨_, rfl, .inl ⟨_, rfl, _, _, rfl, rfl, (by show (0 : Int) < 2147483629; decide), _, _, rfl, rfl, .inr ⟨by decide, by decide⟩, _, _, rfl, rfl, ?_⟩⟩
          refine ⟨_, rfl, D, _, _, _, rfl, rfl, SqL.of hD1, atI_nat (j := 1) rfl, _, _, rfl, rfl, .inr ⟨by decide, by decide⟩, _, _, rfl, rfl, _, _, rfl, rfl, .inl ⟨_, rfl, ?_⟩⟩
          refine ⟨_, _, rfl, rfl, (by show (0 : Int) < 2147483647; decide), _, rfl, D, _, _, 3, rfl, rfl, hD1, rfl, ?_⟩
          refine ⟨_, rfl, D, _, _, _, rfl, rfl, SqL.of upd_same, atI_nat (j := 3) rfl, _, _, rfl, rfl, ⟨by decide, by decide⟩, ?_⟩
          refine .inl ⟨_, rfl, _, rfl, _, _, rfl, rfl, hm0, ?_⟩
          exact q _ _ (Int.emod_nonneg _ (by omega)) (Int.emod_lt_of_pos _ hm0) ⟨d1.set (by omega), Keep.refl.set.set⟩
theorem ok__law_begin (T : Txt K mg) {f : Addr} {fd : FuncData} (F : FnP K "_law_begin" s__law_begin f fd) : FnOk P w K mg base CX0 1 f fd ["script"] (spBegin K) := by
  refine F.ok sc__law_begin (fun vs H Q E h => ?_) (fun cdv A outer s H vs Q E hr h => ?_)
  · obtain ⟨a, ns, rfl, _⟩ := h
    rfl
  · obtain ⟨a, ns, rfl, hS, hlen, q⟩ := h
    refine ⟨_, PSs.nox (pss_one (ps_ret (pe_lst (pa_cons (pe_lc (own := [("cell", 1)]) (g := (gName 1)) (tt := tYes) rfl sc__law_begin.nd (pi_list (pv 0)) (blkOk_by (N := N__law_begin) (sc := defScope s__law_begin) (by decide +kernel)) (fun _ _ _ _ _ => (pg_name (i := 1) sc__law_begin.nd rfl (Or.inl rfl))) (fun _ _ _ _ _ => pts_nil) (fun _ _ _ _ _ => (pe_callTy call_int1 (by rfl) T.b_int (by decide +kernel) (pa_cons (pv 1) pa_nil)))) (pa_cons pe_int (pa_cons pe_int (pa_cons pe_int pa_nil))))))), ?_⟩
    refine ⟨_, rfl, a, rfl, ⟨_, hS⟩, fun L hL => lc_list (xs := ns.map V.int) (fun i H' => H' = upd H L (.lst ((ns.take i).map V.int))) rfl (fun i H' _ e => ?_) ?_ ?_⟩
    · subst e
      exact (show Same H _ from fun b o h => by rw [upd_ne (ne_of_none h hL)]; exact h).seq hS
    · rintro i x H1 hi rfl
      obtain ⟨z, rfl, hz⟩ := getV hi
      refine ⟨rfl, _, rfl, .inl ⟨_, rfl, _, upd_same, ?_, ?_⟩⟩
      · rw [List.length_map, List.length_take]
        exact Nat.lt_of_le_of_lt (Nat.min_le_right _ _) (small1000 (by omega))
      · rw [upd_upd, take_map_succ (f := V.int) hz]
    · rintro H' rfl
      refine ⟨by show 4 ≤ sizeLine; decide, fun D hD => ?_⟩
      have nLD : D ≠ L := fun e => by
        rw [e, upd_same] at hD
        cases hD
      have hD0 : H D = none := by
        rw [upd_ne nLD] at hD
        exact hD
      refine q L D _ (fun b o h => ?_) hD0 ⟨fun e => nLD e.symm, ⟨ns, ?_⟩, ⟨0, 0, 7, by decide, upd_same⟩⟩
      · rw [upd_ne (ne_of_none h hD0), upd_ne (ne_of_none h hL)]
        exact h
      · rw [upd_ne (fun e => nLD e.symm), upd_same]
        rw [List.take_of_length_le (by rw [List.length_map]; exact Nat.le_refl _)]
theorem ok__law_pick (T : Txt K mg) (D__law_draw : Kept P w K mg base 1 "_law_draw" ["d", "many"] spDraw) {f : Addr} {fd : FuncData} (F : FnP K "_law_pick" s__law_pick f fd) : FnOk P w K mg base CX0 2 f fd ["d", "row"] (spPick K) := by
  refine F.ok sc__law_pick (fun vs H Q E h => ?_) (fun cdv A outer s H vs Q E hr h => ?_)
  · obtain ⟨S, D, r, xs, rfl, _⟩ := h
    rfl
  · obtain ⟨S, D, r, xs, rfl, d, hR, h0, h1, q⟩ := h
    refine ⟨_, PSs.nox (pss_one (ps_ret (pe_ix ix_seq (pv 1) (pe_d D__law_draw (hr.mono (by decide)) (by rfl) (pa_cons (pv 0) (pa_cons (pe_callB call_len (by rfl) T.b_len (by decide +kernel) (pa_cons (pv 1) pa_nil)) pa_nil))) (fun _ _ => rfl)))), ?_⟩
    refine ⟨r, rfl, _, rfl, _, rfl, r, xs.length, rfl, ?_, ?_⟩
    · rcases hR H (Go.refl d) with ⟨z, rfl, rfl⟩ | ⟨p, rfl, hp⟩ | ⟨p, rfl, hp⟩
      · refine ⟨?_, by simp [Str.length]⟩
        rw [List.length_map] at h1
        have : z.length = z.cps.toList.length := by simp [Str.length]
        rw [this]
        exact Nat.le_trans h1 (by decide)
      · exact .inl ⟨_, hp, rfl⟩
      · exact .inr ⟨_, hp, rfl⟩
    · refine ⟨S, D, _, rfl, divW_of (by omega) (by omega), d, fun H' v hv0 hv1 g => ?_⟩
      have hv : v.toNat < xs.length := by omega
      have e : ((v.toNat : Nat) : Int) = v := by omega
      have ex : xs[v.toNat]? = some xs[v.toNat] := List.getElem?_eq_getElem hv
      have ea : atI xs v = some xs[v.toNat] := by
        have := atI_nat (xs := xs) ex
        rw [e] at this
        exact this
      rcases hR H' g with ⟨z, rfl, rfl⟩ | ⟨p, rfl, hp⟩ | ⟨p, rfl, hp⟩
      · refine .inr (.inr ⟨z, v, z.cps.toList[v.toNat]'(by rw [List.length_map] at hv; exact hv), rfl, rfl, ?_, ?_, ?_⟩)
        · rw [List.length_map] at h1
          have : z.length = z.cps.toList.length := by simp [Str.length]
          rw [this]
          exact Nat.le_trans h1 (by decide)
        · have := atI_nat (xs := z.cps.toList) (List.getElem?_eq_getElem (show v.toNat < z.cps.toList.length by rw [List.length_map] at hv; exact hv))
          rw [e] at this
          exact this
        · refine q H' _ ?_ g
          exact List.mem_map_of_mem (List.getElem_mem _)
      · exact .inl ⟨p, xs, v, _, rfl, rfl, hp, ea, q H' _ (List.getElem_mem _) g⟩
      · exact .inr (.inl ⟨p, xs, v, _, rfl, rfl, hp, ea, q H' _ (List.getElem_mem _) g⟩)
theorem ok__law_pop (T : Txt K mg) (D__law_draw : Kept P w K mg base 1 "_law_draw" ["d", "many"] spDraw) {f : Addr} {fd : FuncData} (F : FnP K "_law_pop" s__law_pop f fd) : FnOk P w K mg base CX0 2 f fd ["d", "row"] spPop := by
  refine F.ok sc__law_pop (fun vs H Q E h => ?_) (fun cdv A outer s H vs Q E hr h => ?_)
  · obtain ⟨S, D, p, xs, rfl, _⟩ := h
    rfl
  · obtain ⟨S, D, p, xs, rfl, d, nD, hp, h0, h1, q⟩ := h
    refine ⟨_, PSs.nox (pss_one (ps_ret (pe_bm PySem.F.plainAttrs_list PySem.F.slot_list_pop PySem.F.type_list_pop mt_popAt (pv 1) (pa_cons (pe_d D__law_draw (hr.mono (by decide)) (by rfl) (pa_cons (pv 0) (pa_cons (pe_callB call_len (by rfl) T.b_len (by decide +kernel) (pa_cons (pv 1) pa_nil)) pa_nil))) pa_nil)))), ?_⟩
    refine ⟨_, rfl, .inl ⟨rfl, _, SqL.of hp⟩, _, rfl, _, rfl, _, _, rfl, .inl ⟨_, SqL.of hp, rfl⟩, S, D, _, rfl, divW_of (by omega) (by omega), d, fun H1 v v0 v1 g => ?_⟩
    have hv : v.toNat < xs.length := by omega
    have ex : xs[v.toNat]? = some xs[v.toNat] := List.getElem?_eq_getElem hv
    refine ⟨p, xs, v, v.toNat, _, rfl, rfl, g.2 _ _ hp nD, by omega, by omega, ?_, ex, q H1 _ _ g ex⟩
    exact seqIndex_of v0 (by omega)
theorem ok__law_rare (T : Txt K mg) (D__law_draw : Kept P w K mg base 1 "_law_draw" ["d", "many"] spDraw) {f : Addr} {fd : FuncData} (F : FnP K "_law_rare" s__law_rare f fd) : FnOk P w K mg base CX0 2 f fd ["d", "many"] spRare := by
  refine F.ok sc__law_rare (fun vs H Q E h => ?_) (fun cdv A outer s H vs Q E hr h => ?_)
  · obtain ⟨S, D, m, rfl, _⟩ := h
    rfl
  · obtain ⟨S, D, m, rfl, m0, m1, d, q⟩ := h
    refine ⟨_, PSs.nox (pss_one (ps_ret (pe_cmpR op_eq (pe_d D__law_draw (hr.mono (by decide)) (by rfl) (pa_cons (pv 0) (pa_cons (pv 1) pa_nil))) (pe_op op_fdivW (pv 1) pe_int) (nomark _)))), ?_⟩
    exact ⟨_, rfl, _, rfl, S, D, m, rfl, divW_of m0 (by omega), d, fun H1 v _ _ g => ⟨_, rfl, _, _, rfl, rfl, ⟨by decide, by decide⟩, rfl, q H1 _ g⟩⟩
theorem ok__law_pool (T : Txt K mg) {f : Addr} {fd : FuncData} (F : FnP K "_law_pool" s__law_pool f fd) : FnOk P w K mg base CX0 1 f fd [] spPool := by
  refine F.ok sc__law_pool (fun vs H Q E h => ?_) (fun cdv A outer s H vs Q E hr h => ?_)
  · obtain ⟨rfl, _⟩ := h
    rfl
  · obtain ⟨rfl, q⟩ := h
    refine ⟨_, PSs.nox (pss_cons (ps_set (i := 0) sc__law_pool.nd rfl (Or.inl rfl) pe_str)
      (pss_cons (ps_set (i := 0) sc__law_pool.nd rfl (Or.inl rfl) (pe_op op_add_str (pv 0) pe_str))
      (pss_one (ps_ret (pe_split (pe_op op_add_str (pv 0) pe_str) pe_str))))), ?_⟩
    exact ⟨_, rfl, _, _, rfl, rfl, by decide +kernel, _, rfl, _, _, rfl, rfl, by decide +kernel, ⟨_, rfl⟩, _, _, rfl, rfl, by decide +kernel, by decide +kernel, fun p hp => q p hp⟩
theorem ok_make_fraction (T : Txt K mg) {f : Addr} {fd : FuncData} (F : FnP K "make_fraction" s_make_fraction f fd) : FnOk P w K mg base CX0 1 f fd ["n", "d"] spFrac := by
  refine F.ok sc_make_fraction (fun vs H Q E h => ?_) (fun cdv A outer s H vs Q E hr h => ?_)
  · obtain ⟨n, d, rfl, _⟩ := h
    rfl
  · obtain ⟨n, d, rfl, hd, hz, q⟩ := h
    refine ⟨_, PSs.nox (Evl.pss_cut (ps_if (pt_cmpR op_lt (pv 1) pe_int (nomark _)) (pss_one (ps_par (i := 0) (j := 1) (by rfl) sc_make_fraction.nd rfl rfl (by decide) rfl rfl (pa_cons (pe_un un_neg (pv 0)) (pa_cons (pe_un un_neg (pv 1)) pa_nil)) (by rfl))) pss_nil)
      (pss_cons (ps_set (i := 2) sc_make_fraction.nd rfl (Or.inl rfl) (pe_callBfun cr_gcd (by rfl) T.f_gcd (pa_cons (pv 0) (pa_cons (pv 1) pa_nil))))
      (pss_one (ps_ret (pe_tup (pa_cons (pe_op op_fdivW (pv 0) (pv 2)) (pa_cons (pe_op op_fdivW (pv 1) (pv 2)) pa_nil))))))), ?_⟩
    have g0 := gg_pos (n := n) hd
    have gl := gg_le (n := n) hd
    have cw : CDivW 0 (gg n d : Int) := wide_div (b := 4000) (by omega) (Nat.lt_of_le_of_lt (by rw [Int.natAbs_natCast]; exact gl) hz.2) (by decide) (by decide)
    refine ⟨fun σ H' => σ = [some (.int (if d < 0 then -n else n)), some (.int (if d < 0 then -d else d)), none] ∧ H' = H, ?_, ?_⟩
    · refine ⟨_, rfl, _, _, rfl, rfl, _, rfl, ?_⟩
      refine ite2 (fun e => ?_) (fun e => ?_)
      · have e1 : d < 0 := of_decide_eq_true e
        rw [if_pos e1, if_pos e1]
        exact ⟨_, rfl, _, rfl, _, rfl, _, rfl, _, _, rfl, rfl, rfl⟩
      · have e1 : ¬ d < 0 := fun z => e (decide_eq_true z)
        rw [if_neg e1, if_neg e1]
        exact ⟨rfl, rfl⟩
    · rintro σ H' ⟨rfl, rfl⟩
      refine ⟨_, rfl, _, rfl, _, _, rfl, ?_⟩
      rw [gg_if]
      refine ⟨_, rfl, _, rfl, _, _, rfl, rfl, cw, _, rfl, _, rfl, _, _, rfl, rfl, cw, by show 2 ≤ sizeLine; decide, fun p hp => ?_⟩
      exact q p hp
theorem ok__law_frac (T : Txt K mg) {f : Addr} {fd : FuncData} (F : FnP K "_law_frac" s__law_frac f fd) : FnOk P w K mg base CX0 1 f fd ["n", "d"] spFrac := by
  refine F.ok sc__law_frac (fun vs H Q E h => ?_) (fun cdv A outer s H vs Q E hr h => ?_)
  · obtain ⟨n, d, rfl, _⟩ := h
    rfl
  · obtain ⟨n, d, rfl, hd, hz, q⟩ := h
    refine ⟨_, PSs.nox (Evl.pss_cut (ps_if (pt_cmpR op_lt (pv 1) pe_int (nomark _)) (pss_cons (ps_set (i := 0) sc__law_frac.nd rfl (Or.inl rfl) (pe_un un_neg (pv 0)))
      (pss_one (ps_set (i := 1) sc__law_frac.nd rfl (Or.inl rfl) (pe_un un_neg (pv 1))))) pss_nil)
      (pss_cons (ps_set (i := 2) sc__law_frac.nd rfl (Or.inl rfl) (pe_callB call_abs (by rfl) T.b_abs (by decide +kernel) (pa_cons (pv 0) pa_nil)))
      (pss_cons (ps_set (i := 3) sc__law_frac.nd rfl (Or.inl rfl) (pv 1))
      (pss_cons (ps_while PassesOwn.never (pt_cmpR op_gt (pv 3) pe_int (nomark _)) (pss_cons (ps_set (i := 4) sc__law_frac.nd rfl (Or.inl rfl) (pe_op op_mod (pe_callTy call_int1 (by rfl) T.b_int (by decide +kernel) (pa_cons (pv 2) pa_nil)) (pv 3)))
      (pss_cons (ps_set (i := 2) sc__law_frac.nd rfl (Or.inl rfl) (pv 3))
      (pss_one (ps_set (i := 3) sc__law_frac.nd rfl (Or.inl rfl) (pv 4))))))
      (pss_one (ps_ret (pe_tup (pa_cons (pe_op op_fdivW (pv 0) (pv 2)) (pa_cons (pe_op op_fdivW (pv 1) (pv 2)) pa_nil))))))))), ?_⟩
    have g0 := gg_pos (n := n) hd
    have gl := gg_le (n := n) hd
    have cw : CDivW 0 (gg n d : Int) := wide_div (b := 4000) (by omega) (Nat.lt_of_le_of_lt (by rw [Int.natAbs_natCast]; exact gl) hz.2) (by decide) (by decide)
    refine ⟨fun σ H' => σ = [some (.int (if d < 0 then -n else n)), some (.int (if d < 0 then -d else d)), none, none, none] ∧ H' = H, ?_, ?_⟩
    · refine ⟨_, rfl, _, _, rfl, rfl, _, rfl, ?_⟩
      refine ite2 (fun e => ?_) (fun e => ?_)
      · have e1 : d < 0 := of_decide_eq_true e
        rw [if_pos e1, if_pos e1]
        exact ⟨_, rfl, _, rfl, _, rfl, _, rfl, rfl, rfl⟩
      · have e1 : ¬ d < 0 := fun z => e (decide_eq_true z)
        rw [if_neg e1, if_neg e1]
        exact ⟨rfl, rfl⟩
    · rintro σ H' ⟨rfl, rfl⟩
      refine ⟨_, rfl, _, rfl, _, rfl, ?_⟩
      have ea : (if (if d < 0 then -n else n) < 0 then -(if d < 0 then -n else n) else (if d < 0 then -n else n)) = ((n.natAbs : Nat) : Int) := by
        split <;> split <;> omega
      have eb : (if d < 0 then -d else d) = ((d.natAbs : Nat) : Int) := by
        split <;> omega
      refine ⟨fun m σ' H1 => ∃ (x y : Nat) (r : Option V), σ' = [some (.int (if d < 0 then -n else n)), some (.int (if d < 0 then -d else d)), some (.int (x : Nat)), some (.int (y : Nat)), r] ∧ y = m ∧ Nat.gcd x y = gg n d ∧ H1 = H', ⟨_, n.natAbs, d.natAbs, none, ?_, rfl, rfl, rfl⟩, ?_⟩
      · rw [← ea, ← eb]
        rfl
      · rintro m σ' H1 ⟨x, y, r, rfl, rfl, hg, rfl⟩
        refine ⟨_, rfl, _, _, rfl, rfl, _, rfl, ?_⟩
        refine ite2 (fun e => ?_) (fun e => ?_)
        · have e1 : (0 : Int) < (y : Int) := of_decide_eq_true e
          have e2 : 0 < y := by omega
          refine ⟨fun σ2 H2 => ∃ r : Option V, σ2 = [some (.int (if d < 0 then -n else n)), some (.int (if d < 0 then -d else d)), some (.int (y : Nat)), some (.int ((x % y : Nat) : Int)), r] ∧ H2 = H1, ?_, ?_⟩
          · rintro σ2 H2 ⟨r, rfl, rfl⟩
            refine ⟨x % y, Nat.mod_lt _ e2, y, x % y, r, rfl, rfl, ?_, rfl⟩
            rw [← hg, Nat.gcd_comm x y, Nat.gcd_rec y x, Nat.gcd_comm]
          · exact ⟨_, rfl, .inl ⟨_, rfl, _, rfl, _, _, rfl, rfl, e1, _, rfl, _, rfl, _, rfl, rfl⟩⟩
        · have e1 : ¬ (0 : Int) < (y : Int) := fun z => e (decide_eq_true z)
          have e2 : y = 0 := by omega
          subst e2
          have e3 : x = gg n d := by rw [← hg, Nat.gcd_zero_right]
          subst e3
          exact ⟨_, rfl, _, rfl, _, _, rfl, rfl, cw, _, rfl, _, rfl, _, _, rfl, rfl, cw, by show 2 ≤ sizeLine; decide, fun p hp => q p hp⟩
theorem ok__law_is_int (T : Txt K mg) {f : Addr} {fd : FuncData} (F : FnP K "_law_is_int" s__law_is_int f fd) : FnOk P w K mg base CX0 1 f fd ["thing"] spIsInt := by
  refine F.ok sc__law_is_int (fun vs H Q E h => ?_) (fun cdv A outer s H vs Q E hr h => ?_)
  · obtain ⟨p, rfl, _⟩ := h
    rfl
  · obtain ⟨i, rfl, q⟩ := h
    refine ⟨_, PSs.nox (pss_one (ps_ret (pe_and (pe_callB call_isi (by rfl) T.b_isinstance (by decide +kernel) (pa_cons (pv 0) (pa_cons (pe_bltn (v := .ty "int") (u := .type "int") (by rfl) T.b_int (by decide +kernel) rfl) pa_nil))) (pe_one (pe_not (pe_callB call_isi (by rfl) T.b_isinstance (by decide +kernel) (pa_cons (pv 0) (pa_cons (pe_bltn (v := .ty "bool") (u := .type "bool") (by rfl) T.b_bool (by decide +kernel) rfl) pa_nil)))))))), ?_⟩
    refine ⟨_, rfl, _, .ty "int", .type "int", .type "int", true, rfl, .ty _, .base (.int _), kit_ty (by decide +kernel), true, rfl, ?_⟩
    exact ⟨_, rfl, _, .ty "bool", .type "int", .type "bool", false, rfl, .ty _, .base (.int _), kit_ty (by decide +kernel), false, rfl, q⟩
end
end Mt

namespace Mt
open PySem PySem.Spec PyProof.Rows L2
/-! ### the table of a def's code objects may grow -/
def TS (P : Addr) (H H' : Hp) : Prop := GxR.TabG H' P ∧ ∀ b o, b ≠ P → H b = some o → H' b = some o
section
variable {P p : Addr} {H H1 H2 H' : Hp} {o : HO} {K : PySem.W.Frag}
theorem TS.refl (t : GxR.TabG H P) : TS P H H := ⟨t, fun _ _ _ h => h⟩
theorem TS.trans (a : TS P H H1) (b : TS P H1 H2) : TS P H H2 := ⟨b.1, fun x o n h => b.2 x o n (a.2 x o n h)⟩
theorem TS.of_same (t : GxR.TabG H P) (s : Same H H') : TS P H H' := ⟨let ⟨ps, h, r⟩ := t; ⟨ps, s _ _ h, r⟩, fun b o _ h => s b o h⟩
theorem tab_ne (t : GxR.TabG H P) (h : H p = none) : p ≠ P := fun e => by
  obtain ⟨ps, h1, _⟩ := t
  rw [e, h1] at h
  cases h
theorem TS.new (t : GxR.TabG H P) (h : H p = none) : TS P H (upd H p o) := TS.of_same t (same_new h)
theorem TS.of_tab (t : GxR.Tabbed P H H') : TS P H H' := ⟨t.1, fun b o n h => (t.2 b n).trans h⟩
/-- a change at a place that H does not know -/
theorem TS.mut (t : TS P H H') (h : H p = none) (n : p ≠ P) : TS P H (upd H' p o) := ⟨let ⟨ps, h1, r⟩ := t.1; ⟨ps, by rw [upd_ne n.symm]; exact h1, r⟩, fun b u m e => by
  rw [upd_ne (ne_of_none e h)]
  exact t.2 b u m e⟩
/-- a place that is free behind was free ahead -/
theorem TS.back (t : GxR.TabG H P) (a : TS P H H') (h : H' p = none) : H p = none := by
  cases q : H p with
  | none => rfl
  | some u =>
    rw [a.2 p u (tab_ne a.1 h) q] at h
    cases h
end
section
variable {P : Program} {w : World} {K : PySem.W.Frag} {mg : Str → Option Value} {base : Heap}
theorem okC {x qual : Str} {params : Arguments} {body : List Stmt} {scope : Scope} {dvs : List V} {kws : List (Str × V)} {fd : FuncData} {CX : CXT} {N ps : List Str} {k : Nat} {sp : Sp} {p : He.Defn} (F : FunD K x qual params body scope dvs kws (He.fAd K p) fd) (S : FnScope N ps scope) (len : ∀ vs H Q E, sp vs H Q E → vs.length = ps.length)
    (hbody : ∀ (cdv : Value) (A : Around) (outer : List Env) (s : Shared) (H : Hp) (vs : List V) (Q : VK) (E : XK), cdv = .ref (He.codeOf K p) → Room k (A.deeper (envOfC qual scope s.heap.objs.size (He.fAd K p) cdv)) → sp vs H Q E →
      ∃ t, PSs (cxOf CX P w K mg base N qual scope (He.fAd K p) cdv A outer s H E) body t ∧ t { nx := fun _ H' => Q .non H', rt := Q } (start N vs) H) : FnOk P w K mg base CX (k + 1) (He.fAd K p) fd ps sp := by
  obtain ⟨oc, od, dV, kV, doc, pm, an, cdv, ct, osl, rfl, lk, hcd, _, _⟩ := F.ex
  obtain ⟨c, hc⟩ := He.codeIn_ref hcd
  have e := He.codeOf_eq lk (show _ = Value.ref c from hc)
  exact fn_of lk hcd S len fun A outer s H vs Q E hr hsp => hbody cdv A outer s H vs Q E (by rw [hc, e]) hr hsp
theorem kept_ofC {h : Heap} (X : K.In h) (G : h.Ns mainGlobals mg) {x : Str} {ps : List Str} {st : Stmt} {k : Nat} {sp : Sp}
    (hd : ∃ fd, FnP K x st (He.ga K x) fd) (hg : (He.Fa.glo x).ok K = true)
    (hb : ∀ (kV doc pm : Value) (an : Option Addr) (cdv ct : Value) (us : List Value), us.length = ps.length → bindArgs (PySem.W.fnOf x x (defArgs st) (defBody st) (defScope st) .none kV doc pm an cdv ct) ⟨us, []⟩ = pure (ps.zip us))
    (ok : ∀ fd, FnP K x st (He.fAd K (x, none)) fd → FnOk P w K mg base CX0 k (He.fAd K (x, none)) fd ps sp) : Kept P w K mg base k x ps sp := by
  obtain ⟨fd, F⟩ := hd
  exact ⟨_, fd, ok fd F, He.glo_ok X G hg, F.kp, F.bindsN hb⟩
end
end Mt
namespace Mt
open PySem PySem.Spec PyProof.Rows L2
/-! ### fractions over one denominator -/
structure Fr (f : F2) (N : Int) (M : Nat) : Prop where
  low : Low f
  eq : f.1 * (M : Int) = N * f.2
  pos : 0 < M
theorem Fr.of {x : Int × Int} {N : Int} {M : Nat} (h : x.2 ≠ 0) (e : x.1 * (M : Int) = N * x.2) (hM : 0 < M) : Fr (frp x) N M := by
  have h1 := frv (n := x.1) h
  have l := low_frp h
  refine ⟨l, ?_, hM⟩
  have h2 : ((frp x).1 * (M : Int)) * x.2 = (N * (frp x).2) * x.2 := by
    have h3 : (frp x).1 * x.2 = x.1 * (frp x).2 := h1
    grind
  exact Int.eq_of_mul_eq_mul_right h h2
theorem Fr.add {a b : F2} {N1 N2 : Int} {M : Nat} (ha : Fr a N1 M) (hb : Fr b N2 M) : Fr (frp (add2 a b)) (N1 + N2) M := by
  refine Fr.of (add2_ne ha.low hb.low) ?_ ha.pos
  have h1 := ha.eq
  have h2 := hb.eq
  show (a.1 * b.2 + b.1 * a.2) * (M : Int) = (N1 + N2) * (a.2 * b.2)
  grind
theorem mul2_ne {a b : F2} (ha : Low a) (hb : Low b) : (mul2 a b).2 ≠ 0 := add2_ne ha hb
theorem Fr.mul {a b : F2} {N1 N2 : Int} {M1 M2 : Nat} (ha : Fr a N1 M1) (hb : Fr b N2 M2) : Fr (frp (mul2 a b)) (N1 * N2) (M1 * M2) := by
  refine Fr.of (mul2_ne ha.low hb.low) ?_ (Nat.mul_pos ha.pos hb.pos)
  have h1 := ha.eq
  have h2 := hb.eq
  show (a.1 * b.1) * ((M1 * M2 : Nat) : Int) = (N1 * N2) * (a.2 * b.2)
  rw [Int.natCast_mul]
  grind
theorem Fr.zero {M : Nat} (h : 0 < M) : Fr (0, 1) 0 M := ⟨low0, by simp, h⟩
theorem low1 : Low (1, 1) := ⟨by decide, by decide⟩
theorem Fr.one : Fr (1, 1) 1 1 := ⟨low1, rfl, Nat.one_pos⟩
theorem Fr.uniq {a b : F2} {N : Int} {M : Nat} (ha : Fr a N M) (hb : Fr b N M) : a = b := by
  refine low_uniq ha.low hb.low ?_
  have h1 := ha.eq
  have h2 := hb.eq
  have hM : (M : Int) ≠ 0 := by
    have := ha.pos
    omega
  refine Int.eq_of_mul_eq_mul_right hM ?_
  grind
theorem Fr.sz {a : F2} {N : Int} {M k : Nat} (h : Fr a N M) (hN : N.natAbs < 2 ^ k) (hM : M < 2 ^ k) : Sz k a := by
  have e : a.1.natAbs * M = N.natAbs * a.2.natAbs := by
    have := congrArg Int.natAbs h.eq
    rw [Int.natAbs_mul, Int.natAbs_mul, Int.natAbs_natCast] at this
    exact this
  have p := h.low.pos
  have h0 := h.pos
  have h1 : a.2.natAbs ∣ M := Nat.Coprime.dvd_of_dvd_mul_left (Nat.Coprime.symm h.low.co) ⟨N.natAbs, by rw [e, Nat.mul_comm]⟩
  have h2 := Nat.le_of_dvd h0 h1
  refine ⟨?_, by omega⟩
  have h3 : a.1.natAbs * M ≤ N.natAbs * M := by
    rw [e]
    exact Nat.mul_le_mul_left _ h2
  have h4 := Nat.le_of_mul_le_mul_right h3 h0
  omega
/-! ### webs -/
/-- what is shown, where to, the share, the share times LC -/
abbrev Arc : Type := List Str × Nat × F2 × Int
abbrev LC : Nat := 27720
def dSh (ss : List Str) : PyData := .tuple (ss.map .str)
def dArc (a : Arc) : PyData := .tuple [dSh a.1, .int a.2.1, dF a.2.2.1]
def dRow (r : List Arc) : PyData := .tuple (r.map dArc)
abbrev Wb : Type := List (List Arc)
def dWeb (W : Wb) : PyData := .tuple [.str "web", .tuple (W.map dRow)]
def ShOk (ss : List Str) : Prop := ∀ s ∈ ss, PyData.strOk s = true
structure ArcOk (n : Nat) (a : Arc) : Prop where
  sh : ShOk a.1
  sl : a.1.length ≤ 2
  to : a.2.1 < n
  fr : Fr a.2.2.1 a.2.2.2 LC
  lo : 0 ≤ a.2.2.2
  hi : a.2.2.2 ≤ LC
structure WebOk (W : Wb) : Prop where
  pos : 0 < W.length
  few : W.length ≤ 60
  row : ∀ r ∈ W, 0 < r.length ∧ r.length ≤ 3 ∧ ∀ a ∈ r, ArcOk W.length a
theorem dSh_noL (ss : List Str) : noL (dSh ss) = true := noLs_map _ _ fun _ _ => rfl
theorem dArc_noL (a : Arc) : noL (dArc a) = true := by
  show (noL (dSh a.1) && (true && (true && true))) = true
  rw [dSh_noL]
  rfl
theorem dRow_noL (r : List Arc) : noL (dRow r) = true := noLs_map _ _ fun a _ => dArc_noL a
theorem dWeb_noL (W : Wb) : noL (dWeb W) = true := by
  show (true && (noLs (W.map dRow) && true)) = true
  rw [noLs_map _ _ fun r _ => dRow_noL r]
  rfl
section
variable {K : PySem.W.Frag} {H H' : Hp} {v : V}
theorem dp_strs : ∀ {ss : List Str} {xs : List V}, DpAll K H xs (ss.map .str) → xs = ss.map V.str
  | [], _, h => dpA_nil h
  | s :: r, _, h => by
    obtain ⟨x, t, rfl, h1, h2⟩ := dpA_cons h
    rw [dp_str h1, dp_strs h2]
    rfl
theorem strs_dp : ∀ ss : List Str, DpAll K H (ss.map V.str) (ss.map .str)
  | [] => .nil
  | s :: r => .cons (.str s) (strs_dp r)
theorem sh_of {p : Addr} {ss : List Str} (h : SqT K H p (ss.map V.str)) : Dp K H (.ref p) (dSh ss) := .tup h (strs_dp ss)
theorem sh_at {ss : List Str} (h : Dp K H v (dSh ss)) : ∃ p, v = .ref p ∧ SqT K H p (ss.map V.str) := by
  obtain ⟨p, xs, rfl, h1, h2⟩ := dp_tup h
  rw [dp_strs h2] at h1
  exact ⟨p, rfl, h1⟩
theorem f_at {x : F2} (h : Dp K H v (dF x)) : ∃ p, v = .ref p ∧ SqT K H p (tupV x) := by
  obtain ⟨p, xs, rfl, h1, hA⟩ := dp_tup h
  obtain ⟨x0, r0, rfl, h0, hA⟩ := dpA_cons hA
  obtain ⟨x1, r1, rfl, h2, hA⟩ := dpA_cons hA
  cases dpA_nil hA
  rw [dp_int h0, dp_int h2] at h1
  exact ⟨p, rfl, h1⟩
theorem arc_at {a : Arc} (h : Dp K H v (dArc a)) : ∃ p x0 x2, v = .ref p ∧ SqT K H p [x0, .int a.2.1, x2] ∧ Dp K H x0 (dSh a.1) ∧ Dp K H x2 (dF a.2.2.1) := by
  obtain ⟨p, xs, rfl, h1, hA⟩ := dp_tup h
  obtain ⟨x0, r0, rfl, h0, hA⟩ := dpA_cons hA
  obtain ⟨x1, r1, rfl, h2, hA⟩ := dpA_cons hA
  obtain ⟨x2, r2, rfl, h3, hA⟩ := dpA_cons hA
  cases dpA_nil hA
  rw [dp_int h2] at h1
  exact ⟨p, x0, x2, rfl, h1, h0, h3⟩
theorem web_at {W : Wb} (h : Dp K H v (dWeb W)) : ∃ p q xs, v = .ref p ∧ SqT K H p [.str "web", .ref q] ∧ SqT K H q xs ∧ DpAll K H xs (W.map dRow) := by
  obtain ⟨p, xs, rfl, h1, hA⟩ := dp_tup h
  obtain ⟨x0, r0, rfl, h0, hA⟩ := dpA_cons hA
  obtain ⟨x1, r1, rfl, h2, hA⟩ := dpA_cons hA
  cases dpA_nil hA
  rw [dp_str h0] at h1
  obtain ⟨q, ys, rfl, h3, h4⟩ := dp_tup h2
  exact ⟨p, q, ys, rfl, h1, h3, h4⟩
/-- the item at a place of a row of data -/
theorem dpA_get {α : Type} {f : α → PyData} {l : List α} {xs : List V} {i : Nat} {a : α} (h : DpAll K H xs (l.map f)) (e : l[i]? = some a) : ∃ x, xs[i]? = some x ∧ Dp K H x (f a) := by
  have hl := dpA_len h
  rw [List.length_map] at hl
  have hi : i < l.length := (List.getElem?_eq_some_iff.mp e).1
  obtain ⟨x, hx⟩ : ∃ x, xs[i]? = some x := ⟨xs[i]'(by omega), List.getElem?_eq_getElem _⟩
  obtain ⟨d, h1, h2⟩ := dpA_at h hx
  rw [List.getElem?_map, e] at h1
  obtain rfl : f a = d := Option.some.inj h1
  exact ⟨x, hx, h2⟩
theorem dpA_mem {α : Type} {f : α → PyData} {l : List α} {xs : List V} {i : Nat} {x : V} (h : DpAll K H xs (l.map f)) (e : xs[i]? = some x) : ∃ a, l[i]? = some a ∧ Dp K H x (f a) := by
  obtain ⟨d, h1, h2⟩ := dpA_at h e
  obtain ⟨a, h3, rfl⟩ := map_at h1
  exact ⟨a, h3, h2⟩
end
/-! ### equality of what is shown -/
theorem dSh_lay : ∀ ss : List Str, ShOk ss → PyData.canLayAll0 (ss.map PyData.str) = true
  | [], _ => rfl
  | s :: r, h => by
    show (PyData.canLay0 (.str s) && PyData.canLayAll0 (r.map PyData.str)) = true
    rw [dSh_lay r fun x hx => h x (List.mem_cons_of_mem _ hx), Bool.and_true]
    show PyData.strOk s = true
    exact h s List.mem_cons_self
theorem dSh_dep : ∀ ss : List Str, PyData.depthAll (ss.map PyData.str) = 0
  | [] => rfl
  | s :: r => by
    show max (PyData.depth (.str s)) (PyData.depthAll (r.map PyData.str)) = 0
    rw [dSh_dep r]
    rfl
theorem dSh_sh {ss : List Str} (h : ShOk ss) : SeqAt.shaped (dSh ss) = true := by
  unfold SeqAt.shaped
  rw [Bool.and_eq_true]
  refine ⟨dSh_lay ss h, decide_eq_true ?_⟩
  show PyData.depthAll (ss.map PyData.str) + 1 ≤ 64
  rw [dSh_dep]
  decide
theorem eqv_strs : ∀ a b : List Str, PyData.eqvAll (a.map PyData.str) (b.map PyData.str) = decide (a = b)
  | [], [] => rfl
  | [], _ :: _ => rfl
  | _ :: _, [] => rfl
  | x :: a, y :: b => by
    show (PyData.eqv (.str x) (.str y) && PyData.eqvAll (a.map PyData.str) (b.map PyData.str)) = decide (x :: a = y :: b)
    rw [eqv_strs a b]
    show (decide (x = y) && decide (a = b)) = _
    by_cases h1 : x = y <;> by_cases h2 : a = b <;> simp [h1, h2]
theorem eqv_sh (a b : List Str) : PyData.eqv (dSh a) (dSh b) = decide (a = b) := eqv_strs a b
end Mt
namespace Mt
open PySem PySem.Spec PyProof.Rows L2
theorem ixL {X : Cx} {K : PySem.W.Frag} (h : X.K = K) : IxR X (rIxL K) := h ▸ ix_list
theorem tupOfT {X : Cx} {K : PySem.W.Frag} (h : X.K = K) : CallR X (.type "tuple") (fun xs H Q => ∃ p ys, xs = [.ref p] ∧ ((SqL K H p ys ∧ ∀ l, H l = none → Q (.ref l) (upd H l (.tup ys))) ∨ (SqT K H p ys ∧ Q (.ref p) H))) := h ▸ call_tuple_of
theorem goU {S D L : Addr} {H0 H : Hp} {o : HO} (L0 : H0 L = none) (d0 : DrawAt S D H0) (g : Go S D H0 H) : Go S D H0 (upd H L o) := by
  obtain ⟨LD, LS⟩ := d0.free L0
  obtain ⟨cs, hc⟩ := g.1.cells
  obtain ⟨j, r, c, j0, hD⟩ := g.1.at_
  refine ⟨⟨g.1.ne, ⟨cs, ?_⟩, ⟨j, r, c, j0, ?_⟩⟩, fun b o h n => ?_⟩
  · rw [upd_ne LS.symm]
    exact hc
  · rw [upd_ne LD.symm]
    exact hD
  · rw [upd_ne (ne_of_none h L0)]
    exact g.2 b o h n
/-- fractions as they stand, over one denominator -/
def Frs (H : Hp) (xs : List V) (ns : List Int) (M : Nat) : Prop := Paired (fun (x : V) (n : Int) => ∃ p f, x = V.ref p ∧ H p = some (tupF f) ∧ Fr f n M) xs ns
theorem paired_imp {α β : Type} {R R' : α → β → Prop} (h : ∀ a b, R a b → R' a b) {xs : List α} {ys : List β} (p : Paired R xs ys) : Paired R' xs ys := by
  induction p with
  | nil => exact .nil
  | cons e t ih => exact .cons (h _ _ e) ih
theorem Frs.same {H H' : Hp} {xs : List V} {ns : List Int} {M : Nat} (h : Frs H xs ns M) (s : Same H H') : Frs H' xs ns M :=
  paired_imp (fun _ _ ⟨p, f, e, h1, h2⟩ => ⟨p, f, e, s _ _ h1, h2⟩) h
theorem sum_nn : ∀ {ns : List Int}, (∀ n ∈ ns, 0 ≤ n) → 0 ≤ ns.sum
  | [], _ => Int.le_refl _
  | n :: r, h => by
    rw [List.sum_cons]
    have := sum_nn (ns := r) fun x hx => h x (List.mem_cons_of_mem _ hx)
    have := h n List.mem_cons_self
    omega
theorem sum_take {ns : List Int} (h : ∀ n ∈ ns, 0 ≤ n) (i : Nat) : 0 ≤ (ns.take i).sum ∧ (ns.take i).sum ≤ ns.sum := by
  have e : ns.sum = (ns.take i).sum + (ns.drop i).sum := by
    rw [← List.sum_append, List.take_append_drop]
  have h1 := sum_nn (ns := ns.take i) fun x hx => h x (List.mem_of_mem_take hx)
  have h2 := sum_nn (ns := ns.drop i) fun x hx => h x (List.mem_of_mem_drop hx)
  omega
theorem sum_snoc (l : List Int) (n : Int) : (l ++ [n]).sum = l.sum + n := by
  rw [List.sum_append]
  simp
def spTot (K : PySem.W.Frag) : Sp := fun vs H Q _ => ∃ (p : Addr) (xs : List V) (ns : List Int) (M : Nat), vs = [.ref p] ∧ SqL K H p xs ∧ Frs H xs ns M ∧ (∀ n ∈ ns, 0 ≤ n) ∧ ns.sum.natAbs < 2 ^ 1800 ∧ M < 2 ^ 1800 ∧ 0 < M ∧
  ∀ H' q f, Same H H' → H' q = some (tupF f) → Fr f ns.sum M → Q (.ref q) H'
def spShown (K : PySem.W.Frag) : Sp := fun vs H Q _ => ∃ (S D m : Addr) (ms : List Str), vs = [.ref D, .ref m] ∧ DrawAt S D H ∧ m ≠ D ∧ H m = some (.lst (ms.map V.str)) ∧ 0 < ms.length ∧ ms.length ≤ 100 ∧
  ∀ (H' : Hp) (p : Addr) (ss : List Str), Go S D H H' → H p = none → H' p = some (.tup (ss.map V.str)) → (∀ s ∈ ss, s ∈ ms) → ss.length ≤ 2 → Q (.ref p) H'
section
variable {P : Program} {w : World} {K : PySem.W.Frag} {mg : Str → Option Value} {base : Heap}
theorem ok__law_drawn_shown (T : Txt K mg) (D__law_pick : Kept P w K mg base 2 "_law_pick" ["d", "row"] (spPick K)) {f : Addr} {fd : FuncData} (F : FnP K "_law_drawn_shown" s__law_drawn_shown f fd) : FnOk P w K mg base CX0 3 f fd ["d", "marks"] (spShown K) := by
  refine F.ok sc__law_drawn_shown (fun vs H Q E h => ?_) (fun cdv A outer s H vs Q E hr h => ?_)
  · obtain ⟨S, D, m, ms, rfl, _⟩ := h
    rfl
  · obtain ⟨S, D, m, ms, rfl, d, nD, hm, h0, h1, q⟩ := h
    refine ⟨_, PSs.nox (pss_one (ps_ret (pe_callTy (tupOfT (K := K) rfl) (by rfl) T.b_tuple (by decide +kernel) (pa_cons (pe_lc (own := [("k", 2)]) (g := (gName 2)) (tt := tYes) rfl sc__law_drawn_shown.nd (pi_range1 (by rfl) T.b_range (pa_cons (pe_d D__law_pick (hr.mono (by decide)) (by rfl) (pa_cons (pv 0) (pa_cons (pe_lst (pa_cons pe_int (pa_cons pe_int (pa_cons pe_int (pa_cons pe_int (pa_cons pe_int pa_nil)))))) pa_nil))) pa_nil)) (blkOk_by (N := N__law_drawn_shown) (sc := defScope s__law_drawn_shown) (by decide +kernel)) (fun _ _ _ _ _ => (pg_name (i := 2) sc__law_drawn_shown.nd rfl (Or.inl rfl))) (fun _ _ _ _ _ => pts_nil) (fun _ _ _ _ _ => (pe_d D__law_pick (hr.mono (by decide)) (by rfl) (pa_cons (pv 0) (pa_cons (pv 1) pa_nil))))) pa_nil)))), ?_⟩
    refine ⟨_, rfl, by show 5 ≤ sizeLine; decide, fun L hL => ?_⟩
    have d1 := d.new (o := .lst [V.int 0, .int 1, .int 1, .int 1, .int 2]) hL
    have LD := (d.free hL).1
    have g1 : Go S D H (upd H L (.lst [V.int 0, .int 1, .int 1, .int 1, .int 2])) := Go.new d hL
    refine ⟨S, D, .ref L, [V.int 0, .int 1, .int 1, .int 1, .int 2], rfl, d1, fun H' g => .inr (.inl ⟨L, rfl, SqL.of (g.2 _ _ upd_same LD)⟩), by decide, by decide, fun H2 x hx g2 => ?_⟩
    obtain ⟨n, rfl, hn⟩ : ∃ n : Nat, x = .int (n : Int) ∧ n ≤ 2 := by
      simp only [List.mem_cons, List.not_mem_nil, or_false] at hx
      rcases hx with e | e | e | e | e
      · exact ⟨0, e, by decide⟩
      · exact ⟨1, e, by decide⟩
      · exact ⟨1, e, by decide⟩
      · exact ⟨1, e, by decide⟩
      · exact ⟨2, e, by decide⟩
    have g3 := g1.trans g2
    refine ⟨_, rfl, by omega, by omega, fun Lc hLc => lc_range (lo := 0) (n := n) (fun j H' => ∃ ss : List Str, Go S D H2 H' ∧ H' Lc = some (.lst (ss.map V.str)) ∧ ss.length = j ∧ ∀ s ∈ ss, s ∈ ms) ⟨[], Go.new g3.1 hLc, upd_same, rfl, fun _ h => absurd h List.not_mem_nil⟩ ?_ ?_⟩
    · rintro j H4 hj ⟨ss, g4, hL4, hl, hs⟩
      have LcD := (g3.1.free hLc).1
      refine ⟨rfl, _, rfl, _, rfl, S, D, .ref m, ms.map V.str, rfl, g4.1, fun H' g' => .inr (.inl ⟨m, rfl, SqL.of (((g3.trans g4).trans g').2 _ _ hm nD)⟩), by rw [List.length_map]; exact h0, by rw [List.length_map]; omega, fun H5 x hx g5 => ?_⟩
      obtain ⟨z, hz, rfl⟩ := List.mem_map.mp hx
      refine ⟨_, g5.2 _ _ hL4 LcD, by rw [List.length_map]; exact line6 (by omega), ss ++ [z], goU hLc g3.1 (g4.trans g5), by rw [upd_same, List.map_append]; rfl, by rw [List.length_append, List.length_singleton, hl], fun s h => ?_⟩
      rcases List.mem_append.mp h with h | h
      · exact hs s h
      · rw [List.mem_singleton.mp h]
        exact hz
    · rintro H4 ⟨ss, g4, hL4, hl, hs⟩
      refine ⟨Lc, _, rfl, .inl ⟨SqL.of hL4, fun p hp => ?_⟩⟩
      have g5 := g3.trans g4
      exact q _ p ss (g5.trans (Go.new g5.1 hp)) (g5.free d hp) upd_same hs (by omega)
end
end Mt
namespace Mt
open PySem PySem.Spec PyProof.Rows L2
def spDWeb (K : PySem.W.Frag) : Sp := fun vs H Q _ => ∃ (S D m : Addr) (n : Int) (ms : List Str), vs = [.ref D, .int n, .ref m] ∧ DrawAt S D H ∧ m ≠ D ∧ H m = some (.lst (ms.map V.str)) ∧ 0 < ms.length ∧ ms.length ≤ 100 ∧ ShOk ms ∧ 1 ≤ n ∧ n ≤ 60 ∧
  ∀ (H' : Hp) (v : V) (W : Wb), Go S D H H' → Dp K H' v (dWeb W) → WebOk W → W.length = n.toNat → Q v H'
/-- the entries that are drawn -/
structure EntOk (n : Int) (ms : List Str) (e : ND.En) : Prop where
  val : ∃ c : Int, e.2.2 = .int c ∧ 1 ≤ c ∧ c ≤ 4
  lo : 0 ≤ e.1.2
  hi : e.1.2 < n
  sh : ∀ s ∈ e.1.1, s ∈ ms
  sl : e.1.1.length ≤ 2
structure Ents (K : PySem.W.Frag) (H : Hp) (n : Int) (ms : List Str) (xs : List ND.En) : Prop where
  keys : ND.KeysOk K H xs
  nd : (xs.map (·.1)).Nodup
  ok : ∀ e ∈ xs, EntOk n ms e
theorem nkt_keep {K : PySem.W.Frag} {H H' : Hp} {k : ND.KN} {a : Addr} (kk : KeepT H H') (h : ND.NkT K H k a) : ND.NkT K H' k a := by
  obtain ⟨b, h1, h2⟩ := h
  exact ⟨b, sqt_keep kk h1, sqt_keep kk h2⟩
theorem Ents.keep {K : PySem.W.Frag} {H H' : Hp} {n : Int} {ms : List Str} {xs : List ND.En} (h : Ents K H n ms xs) (kk : KeepT H H') : Ents K H' n ms xs := ⟨fun x hx => nkt_keep kk (h.keys x hx), h.nd, h.ok⟩
theorem Ents.put {K : PySem.W.Frag} {H : Hp} {n : Int} {ms : List Str} {xs : List ND.En} {k : ND.KN} {a : Addr} {v : V} (h : Ents K H n ms xs) (hk : ND.NkT K H k a) (he : EntOk n ms (k, a, v)) : Ents K H n ms (ND.putN xs k a v) ∧ 0 < (ND.putN xs k a v).length := by
  have hkeys := ND.keys_put (H' := H) (v := v) h.keys hk
  cases hat : ND.atN xs k with
  | some p =>
    have e : ND.putN xs k a v = xs.map (fun x => if x.1 = k then (x.1, x.2.1, v) else x) := by
      unfold ND.putN
      rw [hat]
      rfl
    have e2 : (xs.map (fun x => if x.1 = k then (x.1, x.2.1, v) else x)).map (·.1) = xs.map (·.1) := by
      rw [List.map_map]
      refine List.map_congr_left fun x _ => ?_
      show (if x.1 = k then (x.1, x.2.1, v) else x).1 = x.1
      split <;> rfl
    rw [e] at hkeys ⊢
    refine ⟨⟨hkeys, by rw [e2]; exact h.nd, fun x hx => ?_⟩, ?_⟩
    · obtain ⟨y, hy, rfl⟩ := List.mem_map.mp hx
      have h1 := h.ok y hy
      by_cases hyk : y.1 = k
      · rw [if_pos hyk]
        exact ⟨he.val, h1.lo, h1.hi, h1.sh, h1.sl⟩
      · rw [if_neg hyk]
        exact h1
    · rw [List.length_map]
      cases xs with
      | nil => cases hat
      | cons x r => exact Nat.succ_pos _
  | none =>
    have e : ND.putN xs k a v = xs ++ [(k, a, v)] := by
      unfold ND.putN
      rw [hat]
      rfl
    rw [e] at hkeys ⊢
    refine ⟨⟨hkeys, ?_, fun x hx => ?_⟩, by rw [List.length_append]; exact Nat.succ_pos _⟩
    · rw [List.map_append]
      refine List.nodup_append.mpr ⟨h.nd, by simp, fun x hx y hy => ?_⟩
      rw [List.mem_singleton.mp hy]
      rintro rfl
      obtain ⟨z, hz, hz2⟩ := List.mem_map.mp hx
      unfold ND.atN at hat
      rw [Option.map_eq_none_iff, List.find?_eq_none] at hat
      exact hat z hz (decide_eq_true hz2)
    · rcases List.mem_append.mp hx with h1 | h1
      · exact h.ok x h1
      · rw [List.mem_singleton.mp h1]
        exact he
theorem at_mem : ∀ {xs : List ND.En} {e : ND.En}, (xs.map (·.1)).Nodup → e ∈ xs → ND.atN xs e.1 = some e.2
  | [], _, _, h => absurd h List.not_mem_nil
  | x :: r, e, hn, h => by
    rw [List.map_cons, List.nodup_cons] at hn
    unfold ND.atN
    rcases List.mem_cons.mp h with rfl | h
    · rw [List.find?_cons, decide_eq_true rfl]
      rfl
    · have ne : ¬ x.1 = e.1 := fun z => hn.1 (by rw [z]; exact List.mem_map.mpr ⟨e, h, rfl⟩)
      rw [List.find?_cons, decide_eq_false ne]
      exact at_mem hn.2 h
theorem nt_nd {P : Program} {w : World} {a : Addr} {xs : List ND.En} : NT (ND.ND P w a xs) := ⟨fun _ e => (nomatch e), fun _ _ e => (nomatch e)⟩
def cOf : V → Int
  | .int c => c
  | _ => 0
def szOf (xs : List ND.En) : Int := (xs.map fun e => cOf e.2.2).sum
def arcOf (z : Int) (e : ND.En) : Arc := (e.1.1, e.1.2.toNat, fr (cOf e.2.2) z, cOf e.2.2 * ((LC : Int) / z))
theorem sz_bd {n : Int} {ms : List Str} : ∀ {xs : List ND.En}, (∀ e ∈ xs, EntOk n ms e) → (xs.length : Int) ≤ szOf xs ∧ szOf xs ≤ 4 * (xs.length : Int) ∧ ∀ e ∈ xs, cOf e.2.2 ≤ szOf xs
  | [], _ => ⟨by simp [szOf], by simp [szOf], fun _ h => absurd h List.not_mem_nil⟩
  | e :: r, h => by
    obtain ⟨h1, h2, h3⟩ := sz_bd (xs := r) fun x hx => h x (List.mem_cons_of_mem _ hx)
    obtain ⟨c, hc, c1, c2⟩ := (h e List.mem_cons_self).val
    have e1 : szOf (e :: r) = cOf e.2.2 + szOf r := List.sum_cons
    have e2 : cOf e.2.2 = c := by rw [hc]; rfl
    rw [List.length_cons, e1, e2]
    refine ⟨by omega, by omega, fun x hx => ?_⟩
    rcases List.mem_cons.mp hx with rfl | hx
    · omega
    · have := h3 x hx
      omega
theorem lc_div {z : Int} (h1 : 1 ≤ z) (h2 : z ≤ 12) : (LC : Int) / z * z = LC := by
  have : z = 1 ∨ z = 2 ∨ z = 3 ∨ z = 4 ∨ z = 5 ∨ z = 6 ∨ z = 7 ∨ z = 8 ∨ z = 9 ∨ z = 10 ∨ z = 11 ∨ z = 12 := by omega
  rcases this with rfl | rfl | rfl | rfl | rfl | rfl | rfl | rfl | rfl | rfl | rfl | rfl <;> decide
theorem arc_ok {n : Int} {ms : List Str} {z : Int} {e : ND.En} (hms : ShOk ms) (h : EntOk n ms e) (h1 : 1 ≤ z) (h2 : z ≤ 12) (hc : cOf e.2.2 ≤ z) : ArcOk n.toNat (arcOf z e) := by
  obtain ⟨c, ec, c1, c2⟩ := h.val
  have e2 : cOf e.2.2 = c := by rw [ec]; rfl
  have hl := h.lo
  have hh := h.hi
  have hd := lc_div h1 h2
  have hp : 0 ≤ (LC : Int) / z := Int.ediv_nonneg (by decide) (by omega)
  rw [e2] at hc
  refine ⟨fun s hs => hms s (h.sh s hs), h.sl, by show e.1.2.toNat < n.toNat; omega, ?_, ?_, ?_⟩
  · show Fr (fr (cOf e.2.2) z) (cOf e.2.2 * ((LC : Int) / z)) LC
    rw [e2]
    refine Fr.of (x := (c, z)) (by show z ≠ 0; omega) ?_ (by decide)
    show c * (LC : Int) = (c * ((LC : Int) / z)) * z
    rw [Int.mul_assoc, hd]
  · show 0 ≤ cOf e.2.2 * ((LC : Int) / z)
    rw [e2]
    exact Int.mul_nonneg (by omega) hp
  · show cOf e.2.2 * ((LC : Int) / z) ≤ LC
    rw [e2]
    calc c * ((LC : Int) / z) ≤ z * ((LC : Int) / z) := Int.mul_le_mul_of_nonneg_right hc hp
      _ = LC := by rw [Int.mul_comm, hd]
section
variable {P : Program} {w : World} {K : PySem.W.Frag} {mg : Str → Option Value} {base : Heap}
theorem ok__law_drawn_web (T : Txt K mg) (D__law_draw : Kept P w K mg base 1 "_law_draw" ["d", "many"] spDraw) (D__law_frac : Kept P w K mg base 1 "_law_frac" ["n", "d"] spFrac) (D__law_drawn_shown : Kept P w K mg base 3 "_law_drawn_shown" ["d", "marks"] (spShown K)) {f : Addr} {fd : FuncData} (F : FnP K "_law_drawn_web" s__law_drawn_web f fd) : FnOk P w K mg base CX0 4 f fd ["d", "states", "marks"] (spDWeb K) := by
  refine F.ok sc__law_drawn_web (fun vs H Q E h => ?_) (fun cdv A outer s H vs Q E hr h => ?_)
  · obtain ⟨S, D, m, n, ms, rfl, _⟩ := h
    rfl
  · obtain ⟨S, D, m, n, ms, rfl, d, nD, hm, h0, h1, hsh, n1, n2, q⟩ := h
    refine ⟨_, PSs.nox (pss_cons (ps_set (i := 3) sc__law_drawn_web.nd rfl (Or.inl rfl) (pe_lst pa_nil))
      (pss_cons (ps_for PassesOwn.never rfl (pi_range1 (by rfl) T.b_range (pa_cons (pv 1) pa_nil)) (pg_name (i := 4) sc__law_drawn_web.nd rfl (Or.inl rfl)) (pss_cons (ps_set (i := 5) sc__law_drawn_web.nd rfl (Or.inr rfl) (ND.pe_nnewK (P := P) (w := w) rfl rfl))
      (pss_cons (ps_for PassesOwn.never rfl (pi_range1 (by rfl) T.b_range (pa_cons (pe_op op_add pe_int (pe_d D__law_draw (hr.mono (by decide)) (by rfl) (pa_cons (pv 0) (pa_cons pe_int pa_nil)))) pa_nil)) (pg_name (i := 6) sc__law_drawn_web.nd rfl (Or.inl rfl)) (pss_one (ND.ps_nputK (P := P) (w := w) (K := K) rfl rfl rfl hr.units (pv 5) (pe_tup (pa_cons (pe_d D__law_drawn_shown (hr.mono (by decide)) (by rfl) (pa_cons (pv 0) (pa_cons (pv 2) pa_nil))) (pa_cons (pe_d D__law_draw (hr.mono (by decide)) (by rfl) (pa_cons (pv 0) (pa_cons (pv 1) pa_nil))) pa_nil))) (pe_op op_add pe_int (pe_d D__law_draw (hr.mono (by decide)) (by rfl) (pa_cons (pv 0) (pa_cons pe_int pa_nil)))) (by rfl))))
      (pss_cons (ps_set (i := 7) sc__law_drawn_web.nd rfl (Or.inr rfl) (pe_callB (cr_sum rfl) (by rfl) T.b_sum (by decide +kernel) (pa_cons (pe_lock (pe_lc (own := [("key", 8)]) (g := (gName 8)) (tt := tYes) rfl sc__law_drawn_web.nd (ND.pi_keysNK (P := P) (w := w) rfl rfl (pv 5)) (blkOk_by (N := N__law_drawn_web) (sc := defScope s__law_drawn_web) (by decide +kernel)) (fun _ _ _ _ _ => (pg_name (i := 8) sc__law_drawn_web.nd rfl (Or.inl rfl))) (fun _ _ _ _ _ => pts_nil) (fun _ _ _ _ _ => (ND.pe_ngetK (P := P) (w := w) (K := K) rfl rfl rfl hr.units (pv 5) (pv 8) (fun _ _ => rfl))))) pa_nil)))
      (pss_one (ps_expr (pe_bm PySem.F.plainAttrs_list PySem.F.slot_list_append PySem.F.type_list_append mt_append (pv 3) (pa_cons (pe_callTy (tupOfT (K := K) rfl) (by rfl) T.b_tuple (by decide +kernel) (pa_cons (pe_lc (own := [("key", 8)]) (g := (gName 8)) (tt := tYes) rfl sc__law_drawn_web.nd (pi_list (pe_callB (ND.cr_sortedNK (P := P) (w := w) (K := K) rfl rfl rfl rfl hr.units) (by rfl) T.b_sorted (by decide +kernel) (pa_cons (pv 5) pa_nil))) (blkOk_by (N := N__law_drawn_web) (sc := defScope s__law_drawn_web) (by decide +kernel)) (fun _ _ _ _ _ => (pg_name (i := 8) sc__law_drawn_web.nd rfl (Or.inl rfl))) (fun _ _ _ _ _ => pts_nil) (fun _ _ _ _ _ => (pe_tup (pa_cons (pe_ix (ixT (K := K) rfl) (pv 8) pe_int (fun _ _ => rfl)) (pa_cons (pe_ix (ixT (K := K) rfl) (pv 8) pe_int (fun _ _ => rfl)) (pa_cons (pe_d D__law_frac (hr.mono (by decide)) (by rfl) (pa_cons (ND.pe_ngetK (P := P) (w := w) (K := K) rfl rfl rfl hr.units (pv 5) (pv 8) (fun _ _ => rfl)) (pa_cons (pv 7) pa_nil))) pa_nil)))))) pa_nil)) pa_nil))))))))
      (pss_one (ps_ret (pe_tup (pa_cons pe_str (pa_cons (pe_callTy (tupOfT (K := K) rfl) (by rfl) T.b_tuple (by decide +kernel) (pa_cons (pv 3) pa_nil)) pa_nil))))))), ?_⟩
    refine ⟨Nat.zero_le _, fun L hL => ?_⟩
    have g1 := Go.new (o := .lst []) d hL
    have LD := (d.free hL).1
    refine ⟨_, rfl, _, rfl, by omega, by omega, for_range (lo := 0) (n := n.toNat) (fun i σ H' => ∃ (W : Wb) (zs : List V) (y4 y5 y6 y7 : Option V), σ = [some (.ref D), some (.int n), some (.ref m), some (.ref L), y4, y5, y6, y7, none] ∧ Go S D H H' ∧ H' L = some (.lst zs) ∧ DpAll K H' zs (W.map dRow) ∧ W.length = i ∧ ∀ r ∈ W, 0 < r.length ∧ r.length ≤ 3 ∧ ∀ a ∈ r, ArcOk n.toNat a) ⟨[], [], _, _, _, _, rfl, g1, upd_same, .nil, rfl, fun _ h => absurd h List.not_mem_nil⟩ ?_ ?_⟩
    · rintro i σ H1 hi ⟨W, zs, y4, y5, y6, y7, rfl, g, hL1, hzs, hW, hWr⟩
      refine fun f hf => ?_
      have fD := (g.1.free hf).1
      have f0 := g.free d hf
      have d2 := g.1.new (o := ND.ND P w f []) hf
      have fL : f ≠ L := (ne_of_none hL1 hf).symm
      have hkf := keepT_new (o := ND.ND P w f []) hf
      refine ⟨_, rfl, S, D, 3, rfl, divW_of (by decide) (by decide), d2, fun H3 kk k0 k1 g3 => ?_⟩
      refine ⟨_, _, rfl, rfl, _, rfl, by omega, by omega, for_range (lo := 0) (n := (1 + kk).toNat) (fun j σ H' => ∃ (z6 z7 : Option V) (xs : List ND.En), σ = [some (.ref D), some (.int n), some (.ref m), some (.ref L), some (.int (0 + (i : Int))), some (.ref f), z6, z7, none] ∧ Go S D H1 H' ∧ H' f = some (ND.ND P w f xs) ∧ Ents K H' n ms xs ∧ xs.length ≤ j ∧ (0 < j → 0 < xs.length)) ⟨_, _, [], rfl, (Go.new g.1 hf).trans g3, g3.2 _ _ upd_same fD, ⟨fun _ h => absurd h List.not_mem_nil, List.nodup_nil, fun _ h => absurd h List.not_mem_nil⟩, Nat.le_refl _, fun h => absurd h (Nat.lt_irrefl _)⟩ ?_ ?_⟩
      · rintro j σ H4 hj ⟨z6, z7, xs, rfl, g4, hf4, he4, hl4, hp4⟩
        refine ⟨_, rfl, S, D, 4, rfl, divW_of (by decide) (by decide), g4.1, fun H5 c c0 c1 g5 => ⟨_, _, rfl, rfl, _, rfl, _, rfl, _, rfl, S, D, m, ms, rfl, g5.1, nD, ((g.trans g4).trans g5).2 _ _ hm nD, h0, h1, fun H6 p ss g6 hp0 hp hss hsl => ?_⟩⟩
        have pD := (g5.1.free hp0).1
        refine ⟨_, rfl, _, rfl, S, D, n, rfl, divW_of (by omega) (by omega), g6.1, fun H7 t t0 t1 g7 => ⟨by show 2 ≤ sizeLine; decide, fun b hb => ?_⟩⟩
        have hp7 := g7.2 _ _ hp pD
        have gg : Go S D H4 (upd H7 b (.tup [.ref p, .int t])) := ((g5.trans g6).trans g7).trans (Go.new g7.1 hb)
        have hk8 : ND.NkT K (upd H7 b (.tup [.ref p, .int t])) (ss, t) b := ⟨p, SqT.of upd_same, SqT.of (by rw [upd_ne (ne_of_none hp7 hb)]; exact hp7)⟩
        have hf8 := gg.2 _ _ hf4 fD
        have he8 := he4.keep (Go.keepT g4.1 gg)
        generalize upd H7 b (.tup [.ref p, .int t]) = H8 at gg hk8 hf8 he8
        obtain ⟨e1, e2⟩ := he8.put hk8 (v := .int (1 + c)) ⟨⟨_, rfl, by omega, by omega⟩, t0, t1, hss, hsl⟩
        refine ⟨f, b, xs, (ss, t), rfl, rfl, hf8, he8.keys, hk8, line6 (by omega), _, _, _, rfl, goU hf g.1 (g4.trans gg), upd_same, e1.keep (keepT_nt nt_nd hf8), ?_, fun _ => e2⟩
        exact Nat.le_trans (ND.len_put xs (ss, t) b (.int (1 + c))) (by omega)
      · rintro σ H4 ⟨z6, z7, xs, rfl, g4, hf4, he4, hl4, hp4⟩
        have hx0 := hp4 (by omega)
        have hx3 : xs.length ≤ 3 := by omega
        obtain ⟨b1, b2, b3⟩ := sz_bd he4.ok
        have f4 : H4 f ≠ none := by rw [hf4]; exact fun e => by cases e
        refine ⟨f, _, hf4, trivial, fun od => ?_⟩
        refine ⟨_, rfl, f, od, xs, rfl, upd_same, fun Lz hLz => ND.lc_keysN (P := P) (w := w) (d := f) (o := od) (xs := xs) (fun i H' => H' = upd (upd H4 f (.frz od (ND.ND P w f xs))) Lz (.lst ((xs.take i).map fun e => e.2.2))) rfl (fun i H' _ e => ?_) ?_ ?_⟩
        · subst e
          exact same_new hLz _ _ upd_same
        · rintro i e H5 hi rfl
          have hm := List.mem_of_getElem? hi
          have kp : KeepT H4 (upd (upd H4 f (.frz od (ND.ND P w f xs))) Lz (.lst ((xs.take i).map fun e => e.2.2))) := (keepT_nt (o := .frz od (ND.ND P w f xs)) nt_nd hf4).trans (keepT_new hLz)
          have he5 := he4.keep kp
          refine ⟨rfl, _, rfl, _, rfl, f, e.2.1, xs, e.1, e.2, rfl, rfl, .inr ⟨od, same_new hLz _ _ upd_same⟩, he5.keys, he5.keys e hm, at_mem he5.nd hm, _, upd_same, ?_, ?_⟩
          · rw [List.length_map, List.length_take]
            exact line6 (by omega)
          · rw [upd_upd, take_map_succ (f := fun e : ND.En => e.2.2) hi]
        · rintro H5 rfl
          rw [List.take_length]
          have Lf : Lz ≠ f := fun e => by
            rw [e, upd_same] at hLz
            cases hLz
          have hLz4 : H4 Lz = none := by
            rw [upd_ne Lf] at hLz
            exact hLz
          refine ⟨same_new hLz _ _ upd_same, ?_⟩
          have s6 : Same H4 (upd (upd (upd H4 f (.frz od (ND.ND P w f xs))) Lz (.lst (xs.map fun e => e.2.2))) f (ND.ND P w f xs)) := fun b o e => by
            by_cases hb : b = f
            · subst hb
              rw [upd_same, ← hf4]
              exact e
            · rw [upd_ne hb, upd_ne (ne_of_none e hLz4), upd_ne hb]
              exact e
          have hLz6 : (upd (upd (upd H4 f (.frz od (ND.ND P w f xs))) Lz (.lst (xs.map fun e => e.2.2))) f (ND.ND P w f xs)) Lz = some (.lst ((xs.map fun e => cOf e.2.2).map V.int)) := by
            rw [upd_ne Lf, upd_same, List.map_map]
            congr 2
            refine List.map_congr_left fun e he => ?_
            obtain ⟨c, hc, _⟩ := (he4.ok e he).val
            show e.2.2 = V.int (cOf e.2.2)
            rw [hc]
            rfl
          generalize upd (upd (upd H4 f (.frz od (ND.ND P w f xs))) Lz (.lst (xs.map fun e => e.2.2))) f (ND.ND P w f xs) = H6 at s6 hLz6
          have hf6 := s6 _ _ hf4
          have he6 := he4.keep (KeepT.of_same s6)
          have gL4 := g4.2 _ _ hL1 LD
          have hL6 := s6 _ _ gL4
          refine ⟨Lz, _, rfl, SqL.of hLz6, ?_⟩
          have ez : (xs.map fun e => cOf e.2.2).sum = szOf xs := rfl
          rw [ez]
          generalize hz : szOf xs = z at b1 b2 b3
          refine ⟨_, rfl, .inl ⟨rfl, _, SqL.of hL6⟩, _, rfl, f, xs, rfl, .inl hf6, he6.keys, fun ys p hperm hp => ?_⟩
          have s7 := same_new (o := .lst (ys.map fun e => V.ref e.2.1)) hp
          have hp7 := upd_same (H := H6) (a := p) (o := .lst (ys.map fun e => V.ref e.2.1))
          have he7 := he6.keep (KeepT.of_same s7)
          have hf7 := s7 _ _ hf6
          have hL7 := s7 _ _ hL6
          generalize upd H6 p (.lst (ys.map fun e => V.ref e.2.1)) = H7 at s7 hp7 he7 hf7 hL7
          have yl : ys.length = xs.length := hperm.length_eq
          refine ⟨p, rfl, ⟨_, SqL.of hp7⟩, fun Lk hLk => lc_list (xs := ys.map fun e => V.ref e.2.1) (fun i H' => Same H7 H' ∧ ∃ qs, H' Lk = some (.lst qs) ∧ DpAll K H' qs ((ys.take i).map fun e => dArc (arcOf z e))) ⟨same_new hLk, [], upd_same, .nil⟩ (fun i H' _ e => SqL.of (e.1 _ _ hp7)) ?_ ?_⟩
          · rintro i x H8 hi ⟨s8, qs, hL8, hA8⟩
            rw [List.getElem?_map] at hi
            obtain ⟨e, hye, rfl⟩ := Option.map_eq_some_iff.mp hi
            have hm := hperm.mem_iff.mp (List.mem_of_getElem? hye)
            have he8 := he7.keep (KeepT.of_same s8)
            obtain ⟨bk, hb1, hb2⟩ := he8.keys e hm
            obtain ⟨c, hc, c1, c2⟩ := (he8.ok e hm).val
            have ec : cOf e.2.2 = c := by rw [hc]; rfl
            have hcz := b3 e hm
            refine ⟨rfl, _, rfl, e.2.1, _, _, _, rfl, rfl, hb1, atI_nat (j := 0) rfl, _, rfl, e.2.1, _, _, _, rfl, rfl, hb1, atI_nat (j := 1) rfl, _, rfl, _, rfl, f, e.2.1, xs, e.1, e.2, rfl, rfl, .inl (s8 _ _ hf7), he8.keys, he8.keys e hm, at_mem he8.nd hm, ?_⟩
            have hb1s : 1 ≤ z := by omega
            have hzz : z ≤ 12 := by omega
            refine ⟨_, rfl, cOf e.2.2, z, by rw [ec, hc]; rfl, by omega, ⟨n_up (j := 5) (by show _ < 32; omega) (by decide), n_up (j := 5) (by show _ < 32; omega) (by decide)⟩, fun pf hpf => ⟨by show 3 ≤ sizeLine; decide, fun pa hpa => ?_⟩⟩
            have s9 := same_new (o := tupF (fr (cOf e.2.2) z)) hpf
            have hpf9 := upd_same (H := H8) (a := pf) (o := tupF (fr (cOf e.2.2) z))
            have s10 := s9.trans (same_new (o := .tup [.ref bk, .int e.1.2, .ref pf]) hpa)
            have hpf10 := same_new (o := .tup [.ref bk, .int e.1.2, .ref pf]) hpa _ _ hpf9
            have hpa10 := upd_same (H := upd H8 pf (tupF (fr (cOf e.2.2) z))) (a := pa) (o := .tup [.ref bk, .int e.1.2, .ref pf])
            generalize upd (upd H8 pf (tupF (fr (cOf e.2.2) z))) pa (.tup [.ref bk, .int e.1.2, .ref pf]) = H10 at s10 hpf10 hpa10
            have k10 := KeepT.of_same s10
            have hL10 := s10 _ _ hL8
            have kL := keepT_nt (o := .lst (qs ++ [.ref pa])) (nt_lst _) hL10
            have hlo := (he8.ok e hm).lo
            have dA : Dp K H10 (.ref pa) (dArc (arcOf z e)) := by
              have e1 : PyData.int ((e.1.2.toNat : Nat) : Int) = .int e.1.2 := by rw [Int.toNat_of_nonneg hlo]
              show Dp K H10 (.ref pa) (.tuple [dSh e.1.1, .int ((e.1.2.toNat : Nat) : Int), dF (fr (cOf e.2.2) z)])
              rw [e1]
              exact .tup (SqT.of hpa10) (.cons (sh_of (sqt_keep k10 hb2)) (.cons (.int _) (.cons (dp_F (SqT.of hpf10)) .nil)))
            refine ⟨_, hL10, ?_, same_mut (s8.trans s10) hLk, qs ++ [.ref pa], upd_same, ?_⟩
            · have := dpA_len hA8
              rw [List.length_map, List.length_take] at this
              exact line6 (by omega)
            · rw [List.take_add_one, hye, List.map_append]
              refine dpA_snoc (dpA_keep kL _ _ (noLs_map _ _ fun e _ => dArc_noL _) (dpA_keep k10 _ _ (noLs_map _ _ fun e _ => dArc_noL _) hA8)) (dp_keep kL _ _ (dArc_noL _) dA)
          · rintro H8 ⟨s8, qs, hL8, hA8⟩
            rw [List.length_map, List.take_length] at hA8
            refine ⟨Lk, qs, rfl, .inl ⟨SqL.of hL8, fun pr hpr => ?_⟩⟩
            have s9 := s7.trans (s8.trans (same_new (o := .tup qs) hpr))
            have hpr9 := upd_same (H := H8) (a := pr) (o := .tup qs)
            have hA9 := dpA_keep (KeepT.of_same (same_new (o := .tup qs) hpr)) _ _ (noLs_map _ _ fun e _ => dArc_noL _) hA8
            generalize upd H8 pr (.tup qs) = H9 at s9 hpr9 hA9
            have hL9 := s9 _ _ hL6
            have gT : Go S D H1 H9 := g4.trans ((Go.same g4.1 (s6.trans s9)))
            have kL := keepT_nt (o := .lst (zs ++ [.ref pr])) (nt_lst _) hL9
            have zl := dpA_len hzs
            rw [List.length_map] at zl
            have eA : (ys.map fun e => dArc (arcOf z e)) = (ys.map (arcOf z)).map dArc := by rw [List.map_map]; rfl
            rw [eA] at hA9
            refine ⟨L, zs, _, rfl, rfl, hL9, line6 (by omega), W ++ [ys.map (arcOf z)], zs ++ [.ref pr], _, _, _, _, rfl, ?_, upd_same, ?_, ?_, fun r hr => ?_⟩
            · have gg := g.trans gT
              exact goU hL d gg
            · rw [List.map_append]
              exact dpA_snoc (dpA_keep kL _ _ (noLs_map _ _ fun r _ => dRow_noL r) (dpA_keep (Go.keepT g.1 gT) _ _ (noLs_map _ _ fun r _ => dRow_noL r) hzs)) (dp_keep kL _ _ (dRow_noL _) (.tup (SqT.of hpr9) hA9))
            · rw [List.length_append, hW]
              rfl
            · rcases List.mem_append.mp hr with h | h
              · exact hWr r h
              · rw [List.mem_singleton.mp h, List.length_map, yl]
                refine ⟨hx0, hx3, fun a ha => ?_⟩
                obtain ⟨e, he, rfl⟩ := List.mem_map.mp ha
                have hm := hperm.mem_iff.mp he
                exact arc_ok hsh (he7.ok e hm) (by omega) (by omega) (b3 e hm)
    · rintro σ H1 ⟨W, zs, y4, y5, y6, y7, rfl, g, hL1, hzs, hW, hWr⟩
      refine ⟨_, rfl, L, zs, rfl, .inl ⟨SqL.of hL1, fun pq hpq => ⟨by show 2 ≤ sizeLine; decide, fun pw hpw => ?_⟩⟩⟩
      have gq := Go.new (o := .tup zs) g.1 hpq
      have gw := gq.trans (Go.new (o := .tup [.str "web", .ref pq]) gq.1 hpw)
      have hpq2 := same_new (o := .tup [.str "web", .ref pq]) hpw _ _ (upd_same (H := H1) (a := pq) (o := .tup zs))
      refine q _ _ W (g.trans gw) (.tup (SqT.of upd_same) (.cons (.str _) (.cons (.tup (SqT.of hpq2) (dpA_keep (Go.keepT g.1 gw) _ _ (noLs_map _ _ fun r _ => dRow_noL r) hzs)) .nil))) ⟨by omega, by omega, fun r hr => ?_⟩ hW
      rw [hW]
      exact hWr r hr
end
end Mt
namespace Mt
open PySem PySem.Spec PyProof.Rows L2
/-! ### bends -/
theorem slTK {X : Cx} {K : PySem.W.Frag} (h : X.K = K) : SlR X (rSlA K) := h ▸ sl_tupA
theorem sumTK {X : Cx} {K : PySem.W.Frag} (hc : X.calm = true) (h : X.K = K) : CallR X (.builtin "sum") (EnT.rSumT K) := h ▸ EnT.cr_sumT hc
def dI (l : List Int) : PyData := .tuple (l.map .int)
theorem dI_noL (l : List Int) : noL (dI l) = true := noLs_map _ _ fun _ _ => rfl
section
variable {K : PySem.W.Frag} {H : Hp} {v : V}
theorem dp_ints : ∀ {ss : List Int} {xs : List V}, DpAll K H xs (ss.map .int) → xs = ss.map V.int
  | [], _, h => dpA_nil h
  | s :: r, _, h => by
    obtain ⟨x, t, rfl, h1, h2⟩ := dpA_cons h
    rw [dp_int h1, dp_ints h2]
    rfl
theorem ints_dp : ∀ ss : List Int, DpAll K H (ss.map V.int) (ss.map .int)
  | [] => .nil
  | s :: r => .cons (.int s) (ints_dp r)
theorem i_of {p : Addr} {ss : List Int} (h : SqT K H p (ss.map V.int)) : Dp K H (.ref p) (dI ss) := .tup h (ints_dp ss)
theorem i_at {ss : List Int} (h : Dp K H v (dI ss)) : ∃ p, v = .ref p ∧ SqT K H p (ss.map V.int) := by
  obtain ⟨p, xs, rfl, h1, h2⟩ := dp_tup h
  rw [dp_ints h2] at h1
  exact ⟨p, rfl, h1⟩
end
abbrev Bd : Type := List (List Int)
def dBd (B : Bd) : PyData := .tuple (B.map dI)
theorem dBd_noL (B : Bd) : noL (dBd B) = true := noLs_map _ _ fun l _ => dI_noL l
theorem walk_zipT {K : PySem.W.Frag} {a b : Addr} {xs ys : List V} {n : Nat} (hn : n = min xs.length ys.length) : Walk (RZ.ItzT K a b) n (fun H => SqT K H a xs ∧ SqT K H b ys) (YPair (fun i => xs[i]?) (fun i => ys[i]?)) := by
  subst hn
  refine ⟨fun i _ hi q => ?_, fun _ q => ⟨xs, ys, q.1, q.2, by omega⟩, fun i H v H' _ q y => ?_⟩
  · have h1 : i < xs.length := by omega
    have h2 : i < ys.length := by omega
    exact ⟨xs, ys, xs[i], ys[i], q.1, q.2, by simp [h1], by simp [h2]⟩
  · obtain ⟨T, x, z, h1, h2, h3, h4, h5⟩ := y
    exact ⟨T, x, z, h1, h2, h3, h4 xs q.1, h5 ys q.2⟩
theorem z1 : (1 : Nat) ≤ sizeLine := by decide
theorem z2 : (2 : Nat) ≤ sizeLine := by decide
theorem z3 : (3 : Nat) ≤ sizeLine := by decide
theorem z4 : (4 : Nat) ≤ sizeLine := by decide
theorem sum_cons' (n : Int) (r : List Int) : (n :: r).sum = n + r.sum := List.sum_cons
theorem sum_nn' : ∀ {ns : List Int}, (∀ n ∈ ns, 0 ≤ n) → 0 ≤ ns.sum
  | [], _ => Int.le_refl _
  | n :: r, h => by
    rw [sum_cons']
    have := sum_nn' (ns := r) fun x hx => h x (List.mem_cons_of_mem _ hx)
    have := h n List.mem_cons_self
    omega
def bentR (m : Nat) (l : List Int) : Bool := decide (l.length = m) && (l.all (fun n => decide (0 ≤ n)) && decide (0 < l.sum))
def fitB (W : Wb) (B : Bd) : Bool := decide (B.length = W.length) && ((W.zip B).all fun p => bentR p.1.length p.2)
structure Few (n : Nat) (B : Bd) : Prop where
  len : B.length ≤ n
  row : ∀ l ∈ B, l.length ≤ n
  big : ∀ l ∈ B, ∀ x ∈ l, x.natAbs ≤ 10 ^ 30 + 1000
def spIsBent (K : PySem.W.Frag) : Sp := fun vs H Q _ => ∃ (pr pl : Addr) (xr : List V) (l : List Int), vs = [.ref pr, .ref pl] ∧ SqT K H pr xr ∧ SqT K H pl (l.map V.int) ∧ xr.length ≤ 1000 ∧ l.length ≤ 1000 ∧ ∀ H', Same H H' → Q (.bl (bentR xr.length l)) H'
def spFits (K : PySem.W.Frag) : Sp := fun vs H Q _ => ∃ (v u : V) (W : Wb) (B : Bd), vs = [v, u] ∧ Dp K H v (dWeb W) ∧ Dp K H u (dBd B) ∧ WebOk W ∧ Few 50 B ∧ ∀ H', Same H H' → Q (.bl (fitB W B)) H'
theorem bentR_len {m : Nat} {l : List Int} (h : ¬ (l.length : Int) = (m : Int)) : bentR m l = false := by
  unfold bentR
  rw [decide_eq_false (by omega), Bool.false_and]
section
variable {P : Program} {w : World} {K : PySem.W.Frag} {mg : Str → Option Value} {base : Heap}
theorem ok_is_bent (T : Txt K mg) {f : Addr} {fd : FuncData} (F : FnP K "is_bent" s_is_bent f fd) : FnOk P w K mg base CX0 1 f fd ["row", "numbers"] (spIsBent K) := by
  refine F.ok sc_is_bent (fun vs H Q E h => ?_) (fun cdv A outer s H vs Q E hr h => ?_)
  · obtain ⟨pr, pl, xr, l, rfl, _⟩ := h
    rfl
  · obtain ⟨pr, pl, xr, l, rfl, hr1, hl1, hx, hl, q⟩ := h
    refine ⟨_, PSs.nox (pss_cons (ps_if (PW.pt (pw_or (pt_cmpR op_ne (pe_callB call_len (by rfl) T.b_len (by decide +kernel) (pa_cons (pv 1) pa_nil)) (pe_callB call_len (by rfl) T.b_len (by decide +kernel) (pa_cons (pv 0) pa_nil)) (nomark _)) (pw_or1 (pt_not (pt_val (pe_callB (cr_all rfl) (by rfl) T.b_all (by decide +kernel) (pa_cons (pe_lc (own := [("number", 2)]) (g := (gName 2)) (tt := tYes) rfl sc_is_bent.nd (pi_tup (pv 1)) (blkOk_by (N := N_is_bent) (sc := defScope s_is_bent) (by decide +kernel)) (fun _ _ _ _ _ => (pg_name (i := 2) sc_is_bent.nd rfl (Or.inl rfl))) (fun _ _ _ _ _ => pts_nil) (fun _ _ _ _ _ => (pe_cmpR op_ge (pv 2) pe_int (nomark _)))) pa_nil))))))) (pss_one (ps_ret pe_bl)) pss_nil)
      (pss_one (ps_ret (pe_cmpR op_gt (pe_callB (EnT.cr_sumT rfl) (by rfl) T.b_sum (by decide +kernel) (pa_cons (pv 1) pa_nil)) pe_int (nomark _))))), ?_⟩
    refine ⟨_, rfl, _, _, rfl, .inr ⟨_, hl1, rfl⟩, _, rfl, _, _, rfl, .inr ⟨_, hr1, rfl⟩, rfl, _, rfl, ite2 (fun e => ?_) (fun e => ?_)⟩
    · have e : (!decide (V.int (((l.map V.int).length : Nat) : Int) = V.int (xr.length : Int))) = true := e
      have ne : ¬ (l.length : Int) = (xr.length : Int) := fun z => by
        rw [List.length_map, z, decide_eq_true rfl] at e
        cases e
      refine ite2 (fun _ => ?_) (fun h => absurd rfl h)
      have := q _ (Same.refl _)
      rw [bentR_len ne] at this
      exact this
    · have e : ¬ (!decide (V.int (((l.map V.int).length : Nat) : Int) = V.int (xr.length : Int))) = true := e
      have eq : l.length = xr.length := by
        by_cases z : (l.length : Int) = (xr.length : Int)
        · omega
        · rw [List.length_map, decide_eq_false (fun h => z (V.int.inj h))] at e
          exact absurd rfl e
      refine ⟨_, rfl, pl, rfl, ⟨_, hl1⟩, fun L hL => lc_tup (K := K) (a := pl) (xs := l.map V.int) (fun i H' => Same H H' ∧ H' L = some (.lst (((l.take i).map fun n => decide ((0 : Int) ≤ n)).map V.bl))) ⟨same_new hL, upd_same⟩ (fun i H' _ ⟨s, _⟩ => same_t s hl1) ?_ ?_⟩
      · rintro i x H1 hi ⟨s1, hL1⟩
        obtain ⟨n, rfl, hn⟩ := getV hi
        refine ⟨rfl, _, rfl, _, _, rfl, rfl, _, hL1, ?_, same_mut s1 hL, ?_⟩
        · rw [List.length_map, List.length_map, List.length_take]
          exact line6 (by omega)
        · rw [upd_same, List.take_add_one, hn]
          simp
      · rintro H1 ⟨s1, hL1⟩
        rw [List.length_map, List.take_of_length_le (Nat.le_refl _)] at hL1
        refine ⟨L, _, rfl, SqL.of hL1, _, rfl, ?_⟩
        have eall : ((l.map fun n => decide ((0 : Int) ≤ n)).all id) = l.all (fun n => decide ((0 : Int) ≤ n)) := by
          rw [List.all_map]
          rfl
        rw [eall]
        refine ite2 (fun e => ?_) (fun e => ?_)
        · have e : (!l.all (fun n => decide ((0 : Int) ≤ n))) = true := e
          have e : l.all (fun n => decide ((0 : Int) ≤ n)) = false := by
            cases h : l.all (fun n => decide ((0 : Int) ≤ n))
            · rfl
            · rw [h] at e
              cases e
          have := q _ s1
          unfold bentR at this
          rw [e, Bool.false_and, Bool.and_false] at this
          exact this
        · have e : ¬ (!l.all (fun n => decide ((0 : Int) ≤ n))) = true := e
          have e : l.all (fun n => decide ((0 : Int) ≤ n)) = true := by
            cases h : l.all (fun n => decide ((0 : Int) ≤ n))
            · rw [h] at e
              exact absurd rfl e
            · rfl
          refine ⟨_, rfl, pl, l, rfl, same_t s1 hl1, _, _, rfl, rfl, ?_⟩
          have := q _ s1
          unfold bentR at this
          rw [e, decide_eq_true eq, Bool.true_and, Bool.true_and] at this
          exact this
theorem ok_is_bend (T : Txt K mg) (D_is_bent : Kept P w K mg base 1 "is_bent" ["row", "numbers"] (spIsBent K)) {f : Addr} {fd : FuncData} (F : FnP K "is_bend" s_is_bend f fd) : FnOk P w K mg base CX0 2 f fd ["web", "bend"] (spFits K) := by
  refine F.ok sc_is_bend (fun vs H Q E h => ?_) (fun cdv A outer s H vs Q E hr h => ?_)
  · obtain ⟨v, u, W, B, rfl, _⟩ := h
    rfl
  · obtain ⟨v, u, W, B, rfl, hv, hu, hW, hB, q⟩ := h
    refine ⟨_, PSs.nox (pss_cons (ps_if (pt_cmpR op_ne (pe_callB call_len (by rfl) T.b_len (by decide +kernel) (pa_cons (pv 1) pa_nil)) (pe_callB call_len (by rfl) T.b_len (by decide +kernel) (pa_cons (pe_ix ix_tup (pv 0) pe_int (fun _ _ => rfl)) pa_nil)) (nomark _)) (pss_one (ps_ret pe_bl)) pss_nil)
      (pss_one (ps_ret (pe_callB (cr_all rfl) (by rfl) T.b_all (by decide +kernel) (pa_cons (pe_lc (own := [("row", 2), ("numbers", 3)]) (g := (gTup K 2 (gCons (gName 2) (gCons (gName 3) gNil)))) (tt := tYes) rfl sc_is_bend.nd (RZ.pi_zipA (by rfl) T.b_zip (pa_cons (pe_ix ix_tup (pv 0) pe_int (fun _ _ => rfl)) (pa_cons (pv 1) pa_nil))) (blkOk_by (N := N_is_bend) (sc := defScope s_is_bend) (by decide +kernel)) (fun _ _ _ _ _ => (pg_tup rfl (pgs_cons (pg_name (i := 2) sc_is_bend.nd rfl (Or.inl rfl)) (pgs_cons (pg_name (i := 3) sc_is_bend.nd rfl (Or.inl rfl)) pgs_nil)))) (fun _ _ _ _ _ => pts_nil) (fun _ _ _ _ _ => (pe_d D_is_bent (hr.mono (by decide)) (by rfl) (pa_cons (pv 2) (pa_cons (pv 3) pa_nil))))) pa_nil))))), ?_⟩
    obtain ⟨pw, pq, xq, rfl, hpw, hpq, hAq⟩ := web_at hv
    obtain ⟨pb, xb, rfl, hpb, hAb⟩ := dp_tup hu
    have ql := dpA_len hAq
    have bl := dpA_len hAb
    rw [List.length_map] at ql bl
    refine ⟨_, rfl, _, _, rfl, .inr ⟨_, hpb, rfl⟩, _, rfl, pw, _, _, _, rfl, rfl, hpw, atI_nat (j := 1) rfl, _, _, rfl, .inr ⟨_, hpq, rfl⟩, rfl, _, rfl, ite2 (fun e => ?_) (fun e => ?_)⟩
    · have e : (!decide (V.int (xb.length : Int) = V.int (xq.length : Int))) = true := e
      have ne : ¬ B.length = W.length := fun z => by
        rw [bl, ql, z, decide_eq_true rfl] at e
        cases e
      have := q _ (Same.refl _)
      unfold fitB at this
      rw [decide_eq_false ne, Bool.false_and] at this
      exact this
    · have e : ¬ (!decide (V.int (xb.length : Int) = V.int (xq.length : Int))) = true := e
      have eq : B.length = W.length := by
        by_cases z : B.length = W.length
        · exact z
        · rw [bl, ql, decide_eq_false (fun h => z (by have := V.int.inj h; omega))] at e
          exact absurd rfl e
      refine ⟨_, rfl, pw, _, _, _, rfl, rfl, hpw, atI_nat (j := 1) rfl, _, rfl, pq, pb, xq, xb, rfl, .inr ⟨hpq, hpb, fun L hL => ?_⟩⟩
      have few := hW.few
      refine lc_it (walk_zipT (n := W.length) (by rw [ql, bl, eq, Nat.min_self])) (fun i H' => Same H H' ∧ H' L = some (.lst ((((W.zip B).take i).map fun p => bentR p.1.length p.2).map V.bl))) ⟨same_new hL, upd_same⟩ (fun i H' _ e => ⟨same_t e.1 hpq, same_t e.1 hpb⟩) ?_ ?_
      · rintro i x H1 H1' hi ⟨s1, hL1⟩ ⟨T', a, b, rfl, hT, rfl, ha, hb⟩
        obtain ⟨r, hr', dr⟩ := dpA_mem hAq ha
        obtain ⟨l, hl', dl⟩ := dpA_mem hAb hb
        obtain ⟨pr, xr, rfl, hpr, hAr⟩ := dp_tup dr
        obtain ⟨pl, rfl, hpl⟩ := i_at dl
        have s2 := s1.trans (same_new (o := .tup [.ref pr, .ref pl]) hT)
        have hL2 := same_new (o := .tup [.ref pr, .ref pl]) hT _ _ hL1
        have hT2 := upd_same (H := H1) (a := T') (o := .tup [.ref pr, .ref pl])
        generalize upd H1 T' (.tup [.ref pr, .ref pl]) = H2 at s2 hL2 hT2
        have rl := dpA_len hAr
        rw [List.length_map] at rl
        have r3 := (hW.row r (List.mem_of_getElem? hr')).2.1
        have l3 := hB.row l (List.mem_of_getElem? hl')
        refine ⟨T', _, rfl, SqT.of hT2, rfl, _, _, rfl, _, _, rfl, rfl, rfl, _, rfl, _, rfl, pr, pl, xr, l, rfl, same_t s2 hpr, same_t s2 hpl, by omega, by omega, fun H3 s3 => ⟨_, s3 _ _ hL2, ?_, same_mut (s2.trans s3) hL, ?_⟩⟩
        · rw [List.length_map, List.length_map, List.length_take]
          exact line6 (by omega)
        · have ez : (W.zip B)[i]? = some (r, l) := List.getElem?_zip_eq_some.mpr ⟨hr', hl'⟩
          rw [upd_same, List.take_add_one, ez, rl]
          simp
      · rintro H1 ⟨s1, hL1⟩
        have zl : (W.zip B).length = W.length := by rw [List.length_zip, eq, Nat.min_self]
        rw [← zl, List.take_of_length_le (Nat.le_refl _)] at hL1
        refine ⟨L, _, rfl, SqL.of hL1, ?_⟩
        have := q _ s1
        unfold fitB at this
        rw [decide_eq_true eq, Bool.true_and] at this
        rw [List.all_map]
        exact this
theorem ok__law_fits (T : Txt K mg) {f : Addr} {fd : FuncData} (F : FnP K "_law_fits" s__law_fits f fd) : FnOk P w K mg base CX0 1 f fd ["web", "bend"] (spFits K) := by
  refine F.ok sc__law_fits (fun vs H Q E h => ?_) (fun cdv A outer s H vs Q E hr h => ?_)
  · obtain ⟨v, u, W, B, rfl, _⟩ := h
    rfl
  · obtain ⟨v, u, W, B, rfl, hv, hu, hW, hB, q⟩ := h
    refine ⟨_, PSs.nox (pss_cons (ps_if (pt_cmpR op_ne (pe_callB call_len (by rfl) T.b_len (by decide +kernel) (pa_cons (pv 1) pa_nil)) (pe_callB call_len (by rfl) T.b_len (by decide +kernel) (pa_cons (pe_ix ix_tup (pv 0) pe_int (fun _ _ => rfl)) pa_nil)) (nomark _)) (pss_one (ps_ret pe_bl)) pss_nil)
      (pss_cons (ps_for PassesOwn.never rfl (pi_range1 (by rfl) T.b_range (pa_cons (pe_callB call_len (by rfl) T.b_len (by decide +kernel) (pa_cons (pv 1) pa_nil)) pa_nil)) (pg_name (i := 2) sc__law_fits.nd rfl (Or.inl rfl)) (pss_cons (ps_if (PW.pt (pw_or (pt_cmpR op_ne (pe_callB call_len (by rfl) T.b_len (by decide +kernel) (pa_cons (pe_ix ix_tup (pv 1) (pv 2) (fun _ _ => rfl)) pa_nil)) (pe_callB call_len (by rfl) T.b_len (by decide +kernel) (pa_cons (pe_ix ix_tup (pe_ix ix_tup (pv 0) pe_int (fun _ _ => rfl)) (pv 2) (fun _ _ => rfl)) pa_nil)) (nomark _)) (pw_or1 (pt_cmpR op_eq (pe_callB (EnT.cr_sumT rfl) (by rfl) T.b_sum (by decide +kernel) (pa_cons (pe_ix ix_tup (pv 1) (pv 2) (fun _ _ => rfl)) pa_nil)) pe_int (nomark _))))) (pss_one (ps_ret pe_bl)) pss_nil)
      (pss_one (ps_if (pt_cmpR op_gt (pe_callB call_len (by rfl) T.b_len (by decide +kernel) (pa_cons (pe_lc (own := [("part", 3)]) (g := (gName 3)) rfl sc__law_fits.nd (pi_tup (pe_ix ix_tup (pv 1) (pv 2) (fun _ _ => rfl))) (blkOk_by (N := N__law_fits) (sc := defScope s__law_fits) (by decide +kernel)) (fun _ _ _ _ _ => (pg_name (i := 3) sc__law_fits.nd rfl (Or.inl rfl))) (fun _ _ _ _ _ => (pts_one (pt_cmpR op_lt (pv 3) pe_int (nomark _)))) (fun _ _ _ _ _ => (pv 3))) pa_nil)) pe_int (nomark _)) (pss_one (ps_ret pe_bl)) pss_nil))))
      (pss_one (ps_ret pe_bl)))), ?_⟩
    obtain ⟨pw, pq, xq, rfl, hpw, hpq, hAq⟩ := web_at hv
    obtain ⟨pb, xb, rfl, hpb, hAb⟩ := dp_tup hu
    have ql := dpA_len hAq
    have bl := dpA_len hAb
    rw [List.length_map] at ql bl
    refine ⟨_, rfl, _, _, rfl, .inr ⟨_, hpb, rfl⟩, _, rfl, pw, _, _, _, rfl, rfl, hpw, atI_nat (j := 1) rfl, _, _, rfl, .inr ⟨_, hpq, rfl⟩, rfl, _, rfl, ite2 (fun e => ?_) (fun e => ?_)⟩
    · have e : (!decide (V.int (xb.length : Int) = V.int (xq.length : Int))) = true := e
      have ne : ¬ B.length = W.length := fun z => by
        rw [bl, ql, z, decide_eq_true rfl] at e
        cases e
      have := q _ (Same.refl _)
      unfold fitB at this
      rw [decide_eq_false ne, Bool.false_and] at this
      exact this
    · have e : ¬ (!decide (V.int (xb.length : Int) = V.int (xq.length : Int))) = true := e
      have eq : B.length = W.length := by
        by_cases z : B.length = W.length
        · exact z
        · rw [bl, ql, decide_eq_false (fun h => z (by have := V.int.inj h; omega))] at e
          exact absurd rfl e
      have few := hW.few
      have zl : (W.zip B).length = W.length := by rw [List.length_zip, eq, Nat.min_self]
      have no : ∀ {i : Nat} {r : List Arc} {l : List Int}, W[i]? = some r → B[i]? = some l → bentR r.length l = false → fitB W B = false := fun {i r l} e1 e2 e3 => by
        unfold fitB
        rw [Bool.and_eq_false_iff]
        refine .inr (List.all_eq_false.mpr ⟨(r, l), List.mem_of_getElem? (List.getElem?_zip_eq_some.mpr ⟨e1, e2⟩), ?_⟩)
        rw [e3]
        exact Bool.false_ne_true
      refine ⟨_, rfl, _, _, rfl, .inr ⟨_, hpb, rfl⟩, _, rfl, by omega, by omega, for_range (lo := 0) (n := xb.length) (fun i σ H' => ∃ y2 y3 : Option V, σ = [some (.ref pw), some (.ref pb), y2, y3] ∧ Same H H' ∧ ∀ j r l, j < i → W[j]? = some r → B[j]? = some l → bentR r.length l = true) ⟨_, _, rfl, Same.refl _, fun j r l h => absurd h (Nat.not_lt_zero _)⟩ ?_ ?_⟩
      · rintro i σ H1 hi ⟨y2, y3, rfl, s1, hok⟩
        have iW : i < W.length := by omega
        obtain ⟨r, er⟩ : ∃ r, W[i]? = some r := ⟨W[i], List.getElem?_eq_getElem iW⟩
        obtain ⟨l, el⟩ : ∃ l, B[i]? = some l := ⟨B[i]'(by omega), List.getElem?_eq_getElem _⟩
        obtain ⟨vl, hvl, dl⟩ := dpA_get hAb el
        obtain ⟨pl, rfl, hpl⟩ := i_at dl
        obtain ⟨vr, hvr, dr⟩ := dpA_get hAq er
        obtain ⟨pr, xr, rfl, hpr, hAr⟩ := dp_tup dr
        have rl := dpA_len hAr
        rw [List.length_map] at rl
        have l3 := hB.row l (List.mem_of_getElem? el)
        have bad : bentR r.length l = false → Q (.bl false) H1 := fun h => by
          have := q _ s1
          rw [no er el h] at this
          exact this
        have atl : atI xb (0 + (i : Int)) = some (.ref pl) := by
          rw [Int.zero_add]
          exact atI_nat hvl
        have atr : atI xq (0 + (i : Int)) = some (.ref pr) := by
          rw [Int.zero_add]
          exact atI_nat hvr
        refine ⟨_, rfl, _, rfl, pb, _, _, _, rfl, rfl, same_t s1 hpb, atl, _, _, rfl, .inr ⟨_, same_t s1 hpl, rfl⟩, _, rfl, pw, _, _, _, rfl, rfl, same_t s1 hpw, atI_nat (j := 1) rfl, _, rfl, pq, _, _, _, rfl, rfl, same_t s1 hpq, atr, _, _, rfl, .inr ⟨_, same_t s1 hpr, rfl⟩, rfl, _, rfl, ite2 (fun e => ite2 (fun _ => ?_) (fun h => absurd rfl h)) (fun e1 => ?_)⟩
        · have e : (!decide (V.int (((l.map V.int).length : Nat) : Int) = V.int (xr.length : Int))) = true := e
          refine bad (bentR_len fun z => ?_)
          rw [List.length_map, rl, z, decide_eq_true rfl] at e
          cases e
        have e1 : ¬ (!decide (V.int (((l.map V.int).length : Nat) : Int) = V.int (xr.length : Int))) = true := e1
        have ll : l.length = r.length := by
          by_cases z : (l.length : Int) = (xr.length : Int)
          · omega
          · rw [List.length_map, decide_eq_false (fun h => z (V.int.inj h))] at e1
            exact absurd rfl e1
        refine ⟨_, rfl, _, rfl, pb, _, _, _, rfl, rfl, same_t s1 hpb, atl, pl, l, rfl, same_t s1 hpl, rfl, _, rfl, ite2 (fun e => ?_) (fun e2 => ?_)⟩
        · have e : decide (V.int l.sum = V.int 0) = true := e
          have e : l.sum = 0 := V.int.inj (of_decide_eq_true e)
          refine bad ?_
          unfold bentR
          rw [decide_eq_false (show ¬ (0 : Int) < l.sum by omega), Bool.and_false, Bool.and_false]
        have e2 : ¬ decide (V.int l.sum = V.int 0) = true := e2
        have e2 : l.sum ≠ 0 := fun z => e2 (decide_eq_true (by rw [z]))
        refine ⟨_, rfl, _, rfl, pb, _, _, _, rfl, rfl, same_t s1 hpb, atl, pl, rfl, ⟨_, same_t s1 hpl⟩, fun L hL => lc_tup (K := K) (a := pl) (xs := l.map V.int) (fun j H' => Same H1 H' ∧ H' L = some (.lst (((l.take j).filter fun n => decide (n < 0)).map V.int))) ⟨same_new hL, upd_same⟩ (fun j H' _ ⟨s, _⟩ => same_t (s1.trans s) hpl) ?_ ?_⟩
        · rintro j x H2 hj ⟨s2, hL2⟩
          obtain ⟨n, rfl, hn⟩ := getV hj
          have jl := (List.getElem?_eq_some_iff.mp hn).1
          refine ⟨rfl, _, rfl, _, _, rfl, rfl, _, rfl, ?_⟩
          by_cases c : n < 0
          · rw [decide_eq_true c]
            refine ⟨_, rfl, _, hL2, ?_, same_mut s2 hL, ?_⟩
            · rw [List.length_map]
              refine line6 (Nat.lt_of_le_of_lt (List.length_filter_le _ _) ?_)
              rw [List.length_take]
              omega
            · rw [upd_same, List.take_add_one, hn, List.filter_append]
              simp [c]
          · rw [decide_eq_false c]
            refine ⟨s2, ?_⟩
            rw [hL2, List.take_add_one, hn, List.filter_append]
            simp [c]
        · rintro H2 ⟨s2, hL2⟩
          rw [List.length_map, List.take_of_length_le (Nat.le_refl _)] at hL2
          have s12 := s1.trans s2
          refine ⟨_, _, rfl, .inl ⟨_, SqL.of hL2, rfl⟩, _, _, rfl, rfl, _, rfl, ite2 (fun e => ?_) (fun e3 => ?_)⟩
          · have e : decide ((0 : Int) < (((l.filter fun n => decide (n < 0)).map V.int).length : Nat)) = true := e
            have e := of_decide_eq_true e
            rw [List.length_map] at e
            have hb : bentR r.length l = false := by
              unfold bentR
              obtain ⟨n, hn⟩ : ∃ n, n ∈ l.filter fun n => decide (n < 0) := by
                cases hf : l.filter fun n => decide (n < 0) with
                | nil =>
                  rw [hf] at e
                  exact absurd e (by decide)
                | cons a _ => exact ⟨a, List.mem_cons_self⟩
              obtain ⟨h1, h2⟩ := List.mem_filter.mp hn
              have : l.all (fun n => decide ((0 : Int) ≤ n)) = false := List.all_eq_false.mpr ⟨n, h1, by
                have := of_decide_eq_true h2
                rw [decide_eq_false (by omega)]
                exact Bool.false_ne_true⟩
              rw [this, Bool.false_and, Bool.and_false]
            have := q _ s12
            rw [no er el hb] at this
            exact this
          · have e3 : ¬ decide ((0 : Int) < (((l.filter fun n => decide (n < 0)).map V.int).length : Nat)) = true := e3
            have e3 : ¬ (0 : Int) < (((l.filter fun n => decide (n < 0)).map V.int).length : Nat) := fun z => e3 (decide_eq_true z)
            rw [List.length_map] at e3
            have nn : ∀ n ∈ l, 0 ≤ n := fun n hn => by
              by_cases c : n < 0
              · have hm : n ∈ l.filter fun n => decide (n < 0) := List.mem_filter.mpr ⟨hn, decide_eq_true c⟩
                have := List.length_pos_of_mem hm
                omega
              · omega
            have := sum_nn' nn
            refine ⟨_, _, rfl, s12, fun j r' l' hj hr' hl' => ?_⟩
            by_cases c : j < i
            · exact hok j r' l' c hr' hl'
            · have : j = i := by omega
              subst this
              rw [er] at hr'
              rw [el] at hl'
              cases hr'
              cases hl'
              unfold bentR
              rw [decide_eq_true ll, Bool.true_and, Bool.and_eq_true]
              exact ⟨List.all_eq_true.mpr fun n hn => decide_eq_true (nn n hn), decide_eq_true (by omega)⟩
      · rintro σ H1 ⟨y2, y3, rfl, s1, hok⟩
        have := q _ s1
        have ef : fitB W B = true := by
          unfold fitB
          rw [decide_eq_true eq, Bool.true_and]
          refine List.all_eq_true.mpr fun p hp => ?_
          obtain ⟨i, hi⟩ := List.mem_iff_getElem?.mp hp
          obtain ⟨h1, h2⟩ := List.getElem?_zip_eq_some.mp hi
          have hb := (List.getElem?_eq_some_iff.mp h2).1
          exact hok i _ _ (by omega) h1 h2
        rw [ef] at this
        exact this
end
end Mt
namespace Mt
open PySem PySem.Spec PyProof.Rows L2
theorem pa_starK {X : Cx} {K : PySem.W.Frag} {e : Expr} {es : List Expr} {te : TE} {t : TA} {p : Pos} (h : X.K = K) (he : PE X e te) (hr : L2.PA X es t) (hs : starEach (.Starred e p :: es) X.env = (true, eval e X.env) :: starEach es X.env := by rfl) : L2.PA X (.Starred e p :: es) (StX.tStar K te t) := h ▸ StX.pa_star he hr hs
section
variable {P : Program} {w : World} {K : PySem.W.Frag} {mg : Str → Option Value} {base : Heap}
/-- the arcs that a row keeps under numbers: what is shown, where to, the share, the bent share -/
abbrev BArc : Type := Arc × Int
def arcsB (r : List Arc) (l : List Int) : List BArc := (r.zip l).filter fun p => decide (0 < p.2)
def dBArc (M : Int) (a : BArc) : PyData := .tuple [dSh a.1.1, .int a.1.2.1, dF a.1.2.2.1, dF (fr a.2 M)]
def spArcs (K : PySem.W.Frag) : Sp := fun vs H Q _ => ∃ (pl : Addr) (v : V) (r : List Arc) (l : List Int), vs = [v, .ref pl] ∧ Dp K H v (dRow r) ∧ SqT K H pl (l.map V.int) ∧ r.length ≤ 100 ∧ l.length ≤ 100 ∧ 0 < l.sum ∧ (∀ x ∈ l, x.natAbs ≤ 10 ^ 30 + 1000) ∧
  ∀ H' (p : Addr) (xs : List V), Same H H' → H p = none → SqL K H' p xs → DpAll K H' xs ((arcsB r l).map (dBArc l.sum)) → Q (.ref p) H'
theorem dBArc_noL (M : Int) (a : BArc) : noL (dBArc M a) = true := by
  show (noL (dSh a.1.1) && (true && (true && (true && true)))) = true
  rw [dSh_noL]
  rfl
theorem noLs_snoc : ∀ {ds : List PyData} {d : PyData}, noLs ds = true → noL d = true → noLs (ds ++ [d]) = true
  | [], d, _, h => by
    show (noL d && true) = true
    rw [h]
    rfl
  | e :: r, d, h1, h => by
    have h1 : (noL e && noLs r) = true := h1
    obtain ⟨a, b⟩ := Bool.and_eq_true_iff.mp h1
    show (noL e && noLs (r ++ [d])) = true
    rw [a, noLs_snoc b h]
    rfl
theorem sum_abs : ∀ {l : List Int} {B : Nat}, (∀ x ∈ l, x.natAbs ≤ B) → l.sum.natAbs ≤ l.length * B
  | [], _, _ => Nat.zero_le _
  | x :: r, B, h => by
    rw [sum_cons', List.length_cons, Nat.succ_mul]
    have := sum_abs (l := r) fun y hy => h y (List.mem_cons_of_mem _ hy)
    have := h x List.mem_cons_self
    omega
theorem ok_bent_arcs (T : Txt K mg) (D_make_fraction : Kept P w K mg base 1 "make_fraction" ["n", "d"] spFrac) {f : Addr} {fd : FuncData} (F : FnP K "bent_arcs" s_bent_arcs f fd) : FnOk P w K mg base CX0 2 f fd ["row", "numbers"] (spArcs K) := by
  refine F.ok sc_bent_arcs (fun vs H Q E h => ?_) (fun cdv A outer s H vs Q E hr h => ?_)
  · obtain ⟨pl, v, r, l, rfl, _⟩ := h
    rfl
  · obtain ⟨pl, v, r, l, rfl, hv, hpl, hr3, hl3, hs, hbig, q⟩ := h
    refine ⟨_, PSs.nox (pss_cons (ps_set (i := 2) sc_bent_arcs.nd rfl (Or.inr rfl) (pe_callB (EnT.cr_sumT rfl) (by rfl) T.b_sum (by decide +kernel) (pa_cons (pv 1) pa_nil)))
      (pss_one (ps_ret (pe_lc (own := [("arc", 3), ("number", 4)]) (g := (gTup K 2 (gCons (gName 3) (gCons (gName 4) gNil)))) rfl sc_bent_arcs.nd (RZ.pi_zipA (by rfl) T.b_zip (pa_cons (pv 0) (pa_cons (pv 1) pa_nil))) (blkOk_by (N := N_bent_arcs) (sc := defScope s_bent_arcs) (by decide +kernel)) (fun _ _ _ _ _ => (pg_tup rfl (pgs_cons (pg_name (i := 3) sc_bent_arcs.nd rfl (Or.inl rfl)) (pgs_cons (pg_name (i := 4) sc_bent_arcs.nd rfl (Or.inl rfl)) pgs_nil)))) (fun _ _ _ _ _ => (pts_one (pt_cmpR op_gt (pv 4) pe_int (nomark _)))) (fun _ _ _ _ _ => (pe_tup (pa_starK (K := K) rfl (pv 3) (pa_cons (pe_d D_make_fraction (hr.mono (by decide)) (by rfl) (pa_cons (pv 4) (pa_cons (pv 2) pa_nil))) pa_nil)))))))), ?_⟩
    obtain ⟨pr, xr, rfl, hpr, hAr⟩ := dp_tup hv
    have rl := dpA_len hAr
    rw [List.length_map] at rl
    refine ⟨_, rfl, pl, l, rfl, hpl, ?_⟩
    refine ⟨_, rfl, _, rfl, pr, pl, xr, _, rfl, .inr ⟨hpr, hpl, fun L hL => ?_⟩⟩
    refine lc_it (walk_zipT (n := min xr.length (l.map V.int).length) rfl) (fun i H' => Same H H' ∧ ∃ zs, H' L = some (.lst zs) ∧ DpAll K H' zs ((((r.zip l).take i).filter fun p => decide (0 < p.2)).map (dBArc l.sum))) ⟨same_new hL, [], upd_same, .nil⟩ (fun i H' _ e => ⟨same_t e.1 hpr, same_t e.1 hpl⟩) ?_ ?_
    · rintro i x H1 H1' hi ⟨s1, zs, hL1, hA1⟩ ⟨T', a, b, rfl, hT, rfl, ha, hb⟩
      obtain ⟨ar, har, da⟩ := dpA_mem hAr ha
      obtain ⟨n, rfl, hn⟩ := getV hb
      obtain ⟨pa, x0, x2, rfl, hpa, d0, d2⟩ := arc_at da
      have s2 := s1.trans (same_new (o := .tup [.ref pa, .int n]) hT)
      have hL2 := same_new (o := .tup [.ref pa, .int n]) hT _ _ hL1
      have hA2 := dpA_keep (keepT_new (o := .tup [.ref pa, .int n]) hT) _ _ (noLs_map _ _ fun _ _ => dBArc_noL _ _) hA1
      have hT2 := upd_same (H := H1) (a := T') (o := .tup [.ref pa, .int n])
      generalize upd H1 T' (.tup [.ref pa, .int n]) = H2 at s2 hL2 hA2 hT2
      have ez : (r.zip l)[i]? = some (ar, n) := List.getElem?_zip_eq_some.mpr ⟨har, hn⟩
      have hnl := List.mem_of_getElem? hn
      have il : i < l.length := (List.getElem?_eq_some_iff.mp hn).1
      refine ⟨T', _, rfl, SqT.of hT2, rfl, _, _, rfl, _, _, rfl, rfl, rfl, _, rfl, _, _, rfl, rfl, _, rfl, ?_⟩
      by_cases c : 0 < n
      · rw [decide_eq_true c]
        refine ⟨_, rfl, pa, _, rfl, .inl (same_t s2 hpa), _, rfl, _, rfl, n, l.sum, rfl, by omega, ⟨?_, ?_⟩, fun pf hpf => ⟨z4, fun pt hpt => ?_⟩⟩
        · exact Nat.lt_of_le_of_lt (hbig _ hnl) (by decide +kernel)
        · refine Nat.lt_of_le_of_lt (Nat.le_trans (sum_abs hbig) (Nat.mul_le_mul_right _ hl3)) (by decide +kernel)
        · have s3 := s2.trans (same_new (o := tupF (fr n l.sum)) hpf)
          have k3 := keepT_new (o := tupF (fr n l.sum)) hpf
          have hF := upd_same (H := H2) (a := pf) (o := tupF (fr n l.sum))
          have hL3 := same_new (o := tupF (fr n l.sum)) hpf _ _ hL2
          have hA3 := dpA_keep k3 _ _ (noLs_map _ _ fun _ _ => dBArc_noL _ _) hA2
          generalize upd H2 pf (tupF (fr n l.sum)) = H3 at s3 hF hL3 hA3 k3 hpt
          have s4 := s3.trans (same_new (o := .tup ([x0, .int ar.2.1, x2] ++ [V.ref pf])) hpt)
          have k4 := keepT_new (o := .tup ([x0, .int ar.2.1, x2] ++ [V.ref pf])) hpt
          have hP := upd_same (H := H3) (a := pt) (o := .tup ([x0, .int ar.2.1, x2] ++ [V.ref pf]))
          have hF4 := same_new (o := .tup ([x0, .int ar.2.1, x2] ++ [V.ref pf])) hpt _ _ hF
          have hL4 := same_new (o := .tup ([x0, .int ar.2.1, x2] ++ [V.ref pf])) hpt _ _ hL3
          have hA4 := dpA_keep k4 _ _ (noLs_map _ _ fun _ _ => dBArc_noL _ _) hA3
          refine ⟨_, hL4, ?_, same_mut s4 hL, _, upd_same, ?_⟩
          · have := dpA_len hA4
            rw [List.length_map] at this
            rw [this]
            refine line6 (Nat.lt_of_le_of_lt (List.length_filter_le _ _) ?_)
            rw [List.length_take]
            omega
          · rw [List.take_add_one, ez, List.filter_append, List.map_append]
            have e1 : List.map (dBArc l.sum) (List.filter (fun p => decide (0 < p.2)) (Option.toList (some (ar, n)))) = [dBArc l.sum (ar, n)] := by
              simp [c]
            rw [e1]
            have k5 := keepT_nt (o2 := .lst zs) (nt_lst _) hL4 (o := .lst (zs ++ [.ref pt]))
            refine dpA_keep k5 _ _ ?_ (dpA_snoc hA4 (.tup (SqT.of hP) (.cons ?_ (.cons (.int _) (.cons ?_ (.cons (.tup (SqT.of hF4) (.cons (.int _) (.cons (.int _) .nil))) .nil))))))
            · exact noLs_snoc (noLs_map _ _ fun _ _ => dBArc_noL _ _) (dBArc_noL _ _)
            · exact dp_keep (KeepT.of_same s4) _ _ (dSh_noL _) d0
            · exact dp_keep (KeepT.of_same s4) _ _ rfl d2
      · rw [decide_eq_false c]
        refine ⟨s2, _, hL2, ?_⟩
        rw [List.take_add_one, ez, List.filter_append]
        simpa [c] using hA2
    · rintro H1 ⟨s1, zs, hL1, hA1⟩
      have e : (r.zip l).take (min xr.length (l.map V.int).length) = r.zip l := by
        rw [List.take_of_length_le]
        rw [List.length_zip, List.length_map]
        omega
      rw [e] at hA1
      exact q _ _ _ s1 hL (SqL.of hL1) hA1
end
end Mt
namespace Mt
open PySem PySem.Spec PyProof.Rows L2
theorem keepT_ts {P : Addr} {H H' : Hp} (t : GxR.TabG H P) (a : TS P H H') : KeepT H H' := by
  obtain ⟨ps, h0, _⟩ := t
  rintro p xs (h | ⟨o, h⟩)
  · exact .inl (a.2 _ _ (fun e => by rw [e, h0] at h; cases h) h)
  · exact .inr ⟨o, a.2 _ _ (fun e => by rw [e, h0] at h; cases h) h⟩
theorem sql_ts {P p : Addr} {H H' : Hp} {K : PySem.W.Frag} {xs : List V} (t : GxR.TabG H P) (a : TS P H H') (h : SqL K H p xs) : SqL K H' p xs := by
  obtain ⟨ps, h0, _⟩ := t
  rcases h with (h | ⟨o, h⟩) | h
  · exact .inl (.inl (a.2 _ _ (fun e => by rw [e, h0] at h; cases h) h))
  · exact .inl (.inr ⟨o, a.2 _ _ (fun e => by rw [e, h0] at h; cases h) h⟩)
  · exact .inr h
abbrev BC (K : PySem.W.Frag) : Addr := (He.cT K ("bent_web", none)).1
abbrev BP (K : PySem.W.Frag) : Addr := (He.cT K ("bent_web", none)).2
def dBend (M : Int) (a : BArc) : PyData := .tuple [dSh a.1.1, .int a.1.2.1, dF (fr a.2 M)]
def dBRow (p : List Arc × List Int) : PyData := .tuple ((arcsB p.1 p.2).map (dBend p.2.sum))
def dBWeb (W : Wb) (B : Bd) : PyData := .tuple [.str "web", .tuple ((W.zip B).map dBRow)]
theorem dBend_noL (M : Int) (a : BArc) : noL (dBend M a) = true := by
  show (noL (dSh a.1.1) && (true && (true && true))) = true
  rw [dSh_noL]
  rfl
theorem dBRow_noL (p : List Arc × List Int) : noL (dBRow p) = true := noLs_map _ _ fun _ _ => dBend_noL _ _
theorem dBWeb_noL (W : Wb) (B : Bd) : noL (dBWeb W B) = true := by
  show (true && (noLs ((W.zip B).map dBRow) && true)) = true
  rw [noLs_map _ _ fun r _ => dBRow_noL r]
  rfl
def spBWeb (K : PySem.W.Frag) : Sp := fun vs H Q _ => ∃ (v u : V) (W : Wb) (B : Bd), vs = [v, u] ∧ Dp K H v (dWeb W) ∧ Dp K H u (dBd B) ∧ WebOk W ∧ Few 50 B ∧ fitB W B = true ∧ GxR.TabG H (BP K) ∧ ∀ H' v', TS (BP K) H H' → Dp K H' v' (dBWeb W B) → Q v' H'
theorem fitB_at {W : Wb} {B : Bd} {i : Nat} {r : List Arc} {l : List Int} (h : fitB W B = true) (h1 : W[i]? = some r) (h2 : B[i]? = some l) : l.length = r.length ∧ (∀ n ∈ l, 0 ≤ n) ∧ 0 < l.sum := by
  unfold fitB at h
  have h := (Bool.and_eq_true_iff.mp h).2
  have h := List.all_eq_true.mp h (r, l) (List.mem_of_getElem? (List.getElem?_zip_eq_some.mpr ⟨h1, h2⟩))
  unfold bentR at h
  obtain ⟨a, b⟩ := Bool.and_eq_true_iff.mp h
  obtain ⟨b, c⟩ := Bool.and_eq_true_iff.mp b
  exact ⟨of_decide_eq_true a, fun n hn => of_decide_eq_true (List.all_eq_true.mp b n hn), of_decide_eq_true c⟩
section
variable {P : Program} {w : World} {K : PySem.W.Frag} {mg : Str → Option Value} {base : Heap}
theorem ok_bent_web (T : Txt K mg) (D_bent_arcs : Kept P w K mg base 2 "bent_arcs" ["row", "numbers"] (spArcs K)) (TB : GxR.TabB base mg (BC K) (BP K)) {fd : FuncData} (F : FnP K "bent_web" s_bent_web (He.fAd K ("bent_web", none)) fd) : FnOk P w K mg base CX0 5 (He.fAd K ("bent_web", none)) fd ["web", "bend"] (spBWeb K) := by
  refine okC F sc_bent_web (fun vs H Q E h => ?_) (fun cdv A outer s H vs Q E hc hr h => ?_)
  · obtain ⟨v, u, W, B, rfl, _⟩ := h
    rfl
  · obtain ⟨v, u, W, B, rfl, hv, hu, hW, hB, hfit, ht, q⟩ := h
    refine ⟨_, PSs.nox (pss_cons (ps_set (i := 2) sc_bent_web.nd rfl (Or.inl rfl) (pe_lst pa_nil))
      (pss_cons (ps_for PassesOwn.never rfl (RZ.pi_zipA (by rfl) T.b_zip (pa_cons (pe_ix ix_tup (pv 0) pe_int (fun _ _ => rfl)) (pa_cons (pv 1) pa_nil))) (pg_tup rfl (pgs_cons (pg_name (i := 3) sc_bent_web.nd rfl (Or.inl rfl)) (pgs_cons (pg_name (i := 4) sc_bent_web.nd rfl (Or.inl rfl)) pgs_nil))) (pss_one (ps_expr (pe_bm PySem.F.plainAttrs_list PySem.F.slot_list_append PySem.F.type_list_append mt_append (pv 2) (pa_cons (GXW.pe_tupX (GXW.pgen_gx (k := 0) (N := [".0", "shown", "target", "_", "bent"]) (fr := []) (js := []) (g := (gTup K 4 (gCons (gName 1) (gCons (gName 2) (gCons (gName 3) (gCons (gName 4) gNil)))))) hr rfl TB hc (GXW.gsc_by (by decide +kernel)) (GXW.no_free (by decide +kernel)) (fun _ h => absurd h List.not_mem_nil) rfl (pi_list (pe_d D_bent_arcs (hr.mono (by decide)) (by rfl) (pa_cons (pv 3) (pa_cons (pv 4) pa_nil)))) (fun _ _ _ _ _ _ _ => (pg_tup rfl (pgs_cons (pg_name (i := 1) (show ([".0", "shown", "target", "_", "bent"] : List Str).Nodup by decide +kernel) rfl (Or.inl rfl)) (pgs_cons (pg_name (i := 2) (show ([".0", "shown", "target", "_", "bent"] : List Str).Nodup by decide +kernel) rfl (Or.inl rfl)) (pgs_cons (pg_name (i := 3) (show ([".0", "shown", "target", "_", "bent"] : List Str).Nodup by decide +kernel) rfl (Or.inl rfl)) (pgs_cons (pg_name (i := 4) (show ([".0", "shown", "target", "_", "bent"] : List Str).Nodup by decide +kernel) rfl (Or.inl rfl)) pgs_nil)))))) (fun _ _ _ _ _ _ _ => pts_nil) (fun _ _ _ _ _ _ _ => (pe_tup (pa_cons (pv 1) (pa_cons (pv 2) (pa_cons (pv 4) pa_nil)))))) (hr.mono (by decide)) (by rfl) T.b_tuple (by decide +kernel)) pa_nil)))))
      (pss_one (ps_ret (pe_tup (pa_cons pe_str (pa_cons (pe_callTy call_tuple_of (by rfl) T.b_tuple (by decide +kernel) (pa_cons (pv 2) pa_nil)) pa_nil))))))), ?_⟩
    obtain ⟨pw, pq, xq, rfl, hpw, hpq, hAq⟩ := web_at hv
    obtain ⟨pb, xb, rfl, hpb, hAb⟩ := dp_tup hu
    have ql := dpA_len hAq
    have bl := dpA_len hAb
    rw [List.length_map] at ql bl
    have eq : B.length = W.length := by
      unfold fitB at hfit
      exact of_decide_eq_true (Bool.and_eq_true_iff.mp hfit).1
    have few := hW.few
    refine ⟨by decide, fun L hL => ?_⟩
    have t1 := TS.new (o := .lst []) ht hL
    have hLP := tab_ne ht hL
    refine ⟨_, rfl, pw, _, _, _, rfl, rfl, same_t (same_new hL) hpw, atI_nat (j := 1) rfl, _, rfl, pq, pb, xq, xb, rfl, .inr ⟨same_t (same_new hL) hpq, same_t (same_new hL) hpb, ?_⟩⟩
    refine for_it (walk_zipT (K := K) (a := pq) (b := pb) (xs := xq) (ys := xb) (n := W.length) (by rw [ql, bl, eq, Nat.min_self])) (fun i σ H' => ∃ (zs : List V) (y3 y4 : Option V), σ = [some (.ref pw), some (.ref pb), some (.ref L), y3, y4, none, none, none, none] ∧ TS (BP K) H H' ∧ H' L = some (.lst zs) ∧ DpAll K H' zs (((W.zip B).take i).map dBRow)) ⟨[], _, _, rfl, t1, upd_same, .nil⟩ (fun i σ H' _ e => ?_) ?_ ?_
    · obtain ⟨_, _, _, _, s1, _⟩ := e
      exact ⟨sqt_keep (keepT_ts ht s1) hpq, sqt_keep (keepT_ts ht s1) hpb⟩
    · rintro i x σ H1 H1' hi ⟨zs, y3, y4, rfl, s1, hL1, hA1⟩ ⟨T', a, b, rfl, hT, rfl, ha, hb⟩
      obtain ⟨r, hr', dr⟩ := dpA_mem hAq ha
      obtain ⟨l, hl', dl⟩ := dpA_mem hAb hb
      obtain ⟨hl1, hl2, hl3⟩ := fitB_at hfit hr' hl'
      obtain ⟨pl, rfl, hpl⟩ := i_at dl
      have k1 := keepT_ts ht s1
      have t2 : TS (BP K) H (upd H1 T' (.tup [a, .ref pl])) := s1.trans (TS.new s1.1 hT)
      have hL2 := same_new (o := .tup [a, .ref pl]) hT _ _ hL1
      have hT2 := upd_same (H := H1) (a := T') (o := .tup [a, .ref pl])
      generalize eH2 : upd H1 T' (.tup [a, .ref pl]) = H2 at t2 hL2 hT2
      have k12 : KeepT H1 H2 := eH2 ▸ keepT_new hT
      have k2 := keepT_ts ht t2
      have t2' := t2.1
      have rl := (hW.row r (List.mem_of_getElem? hr')).2.1
      have ll := hB.row l (List.mem_of_getElem? hl')
      have iB : i < B.length := by omega
      have rl3 : r.length ≤ 100 := by omega
      have ll3 : l.length ≤ 100 := by omega
      refine ⟨T', _, rfl, SqT.of hT2, rfl, _, _, rfl, _, _, rfl, rfl, _, rfl, .inl ⟨rfl, _, SqL.of hL2⟩, _, rfl, _, rfl, pl, a, r, l, rfl, dp_keep k2 _ _ (dRow_noL _) dr, sqt_keep k2 hpl, rl3, ll3, hl3, hB.big l (List.mem_of_getElem? hl'), fun H3 pa xa s23 npa hpa hAa => ⟨pa, rfl, ⟨_, hpa⟩, (TS.of_same t2' s23).1, fun it H4 tb => ?_⟩⟩
      have t34 := TS.of_tab (H := H3) tb
      have t23 := TS.of_same t2' s23
      have t24 := t23.trans t34
      have hpa4 := sql_ts t23.1 t34 hpa
      have t44 : TS (BP K) H4 H4 := TS.refl t34.1
      have al := dpA_len hAa
      rw [List.length_map] at al
      have al2 : (arcsB r l).length ≤ 100 := Nat.le_trans (List.length_filter_le _ _) (by rw [List.length_zip]; omega)
      refine GXW.gx_it (walk_list (K := K) (a := pa) (xs := xa)) (fun j ys σ H' => ∃ z1 z2 z3 z4 : Option V, σ = [some (.ref it), z1, z2, z3, z4] ∧ Same H4 H' ∧ DpAll K H' ys (((arcsB r l).take j).map (dBend l.sum))) ⟨_, _, _, _, rfl, Same.refl _, .nil⟩ (fun j ys σ H' _ ⟨_, _, _, _, _, s, _⟩ => same_l s hpa4) ?_ ?_
      · rintro j x ys σ H5 H5' hj ⟨z1, z2, z3, z4, rfl, s5, hA5⟩ ⟨rfl, hx⟩
        obtain ⟨ar, har, da⟩ := dpA_mem hAa hx
        have k35 : KeepT H3 H5' := (keepT_ts t23.1 t34).trans (KeepT.of_same s5)
        obtain ⟨px, xs, rfl, hpx, hAx⟩ := dp_tup (dp_keep k35 _ _ (dBArc_noL _ _) da)
        obtain ⟨x0, r0, rfl, d0, hAx⟩ := dpA_cons hAx
        obtain ⟨x1, r1, rfl, d1, hAx⟩ := dpA_cons hAx
        obtain ⟨x2, r2, rfl, d2, hAx⟩ := dpA_cons hAx
        obtain ⟨x3, r3, rfl, d3, hAx⟩ := dpA_cons hAx
        cases dpA_nil hAx
        refine ⟨px, _, rfl, hpx, rfl, _, _, rfl, _, _, rfl, _, _, rfl, _, _, rfl, rfl, ?_⟩
        refine ⟨_, rfl, _, rfl, _, rfl, Mt.z3, fun pt hpt => ⟨?_, _, _, _, _, rfl, s5.trans (same_new hpt), ?_⟩⟩
        · have := dpA_len hA5
          rw [List.length_map, List.length_take] at this
          exact line6 (by omega)
        · have kp := keepT_new (o := .tup [x0, x1, x3]) hpt
          rw [List.take_add_one, har, List.map_append]
          refine dpA_snoc (dpA_keep kp _ _ (noLs_map _ _ fun _ _ => dBend_noL _ _) hA5) (.tup (SqT.of upd_same) (.cons (dp_keep kp _ _ (dSh_noL _) d0) (.cons ?_ (.cons (dp_keep kp _ _ rfl d3) .nil))))
          rw [dp_int d1]
          exact .int _
      · rintro ys σ H5 ⟨_, _, _, _, rfl, s5, hA5⟩ p hp
        rw [List.take_of_length_le (Nat.le_of_eq al.symm)] at hA5
        have t25 := t24.trans (TS.of_same t34.1 s5)
        have t26 := t25.trans (TS.new (o := .tup ys) t25.1 hp)
        have hp6 := upd_same (H := H5) (a := p) (o := .tup ys)
        have hA6 := dpA_keep (keepT_new (o := .tup ys) hp) _ _ (noLs_map _ _ fun _ _ => dBend_noL _ _) hA5
        have hL6 := same_new (o := .tup ys) hp _ _ (s5 _ _ (t34.2 _ _ hLP (s23 _ _ hL2)))
        generalize upd H5 p (.tup ys) = H6 at t26 hp6 hA6 hL6
        have t6 := t2.trans t26
        have kL := keepT_nt (o := .lst (zs ++ [.ref p])) (nt_lst _) hL6
        refine ⟨L, zs, _, rfl, rfl, hL6, ?_, zs ++ [.ref p], _, _, rfl, TS.mut t6 hL hLP, upd_same, ?_⟩
        · have := dpA_len hA1
          rw [List.length_map, List.length_take, List.length_zip] at this
          exact line6 (by omega)
        · have ez : (W.zip B)[i]? = some (r, l) := List.getElem?_zip_eq_some.mpr ⟨hr', hl'⟩
          rw [List.take_add_one, ez, List.map_append]
          have k16 : KeepT H1 H6 := k12.trans (keepT_ts t2' t26)
          refine dpA_snoc (dpA_keep (k16.trans kL) _ _ (noLs_map _ _ fun _ _ => dBRow_noL _) hA1) (dp_keep kL _ _ (dBRow_noL _) (.tup (SqT.of hp6) hA6))
    · rintro σ H1 ⟨zs, y3, y4, rfl, s1, hL1, hA1⟩
      rw [List.take_of_length_le (by rw [List.length_zip]; omega)] at hA1
      refine ⟨_, rfl, L, zs, rfl, .inl ⟨SqL.of hL1, fun pq hpq => ⟨by show 2 ≤ sizeLine; decide, fun pw hpw => ?_⟩⟩⟩
      have t2 := s1.trans (TS.new (o := .tup zs) s1.1 hpq)
      have t3 := t2.trans (TS.new (o := .tup [.str "web", .ref pq]) t2.1 hpw)
      have k2 := keepT_new (o := .tup zs) hpq
      have k3 := keepT_new (o := .tup [.str "web", .ref pq]) hpw
      exact q _ _ t3 (.tup (SqT.of upd_same) (.cons (.str _) (.cons (.tup (sqt_keep k3 (SqT.of upd_same)) (dpA_keep (k2.trans k3) _ _ (noLs_map _ _ fun _ _ => dBRow_noL _) hA1)) .nil)))
end
end Mt
namespace Mt
open PySem PySem.Spec PyProof.Rows L2
/-! ### data of texts, ints and tuples of them, not too wide -/
mutual
def pvW : PyData → Bool
  | .str _ => true
  | .int _ => true
  | .tuple ds => decide (ds.length ≤ 1000) && pvWs ds
  | .none => false
  | .bool _ => false
  | .list _ => false
  | .dict _ => false
def pvWs : List PyData → Bool
  | [] => true
  | d :: r => pvW d && pvWs r
end
mutual
def dep : PyData → Nat
  | .tuple ds => deps ds + 1
  | .none => 0
  | .str _ => 0
  | .int _ => 0
  | .bool _ => 0
  | .list _ => 0
  | .dict _ => 0
def deps : List PyData → Nat
  | [] => 0
  | d :: r => max (dep d) (deps r)
end
theorem pvWs_mem : ∀ {ds : List PyData} {d : PyData}, pvWs ds = true → d ∈ ds → pvW d = true
  | [], _, _, h => absurd h List.not_mem_nil
  | e :: r, d, h, m => by
    obtain ⟨h1, h2⟩ := Bool.and_eq_true_iff.mp (show (pvW e && pvWs r) = true from h)
    rcases List.mem_cons.mp m with k | k
    · rw [k]
      exact h1
    · exact pvWs_mem h2 k
theorem pvWs_all : ∀ {l : List PyData}, (∀ x ∈ l, pvW x = true) → pvWs l = true
  | [], _ => rfl
  | x :: r, h => by
    show (pvW x && pvWs r) = true
    rw [h x List.mem_cons_self, pvWs_all fun y hy => h y (List.mem_cons_of_mem _ hy)]
    rfl
theorem deps_mem : ∀ {ds : List PyData} {d : PyData}, d ∈ ds → dep d ≤ deps ds
  | [], _, h => absurd h List.not_mem_nil
  | e :: r, d, m => by
    show dep d ≤ max (dep e) (deps r)
    rcases List.mem_cons.mp m with k | k
    · rw [k]
      exact Nat.le_max_left _ _
    · exact Nat.le_trans (deps_mem k) (Nat.le_max_right _ _)
theorem deps_le {n : Nat} : ∀ {ds : List PyData}, (∀ d ∈ ds, dep d ≤ n) → deps ds ≤ n
  | [], _ => Nat.zero_le _
  | d :: r, h => Nat.max_le.mpr ⟨h d List.mem_cons_self, deps_le (ds := r) fun x hx => h x (List.mem_cons_of_mem _ hx)⟩
mutual
theorem dp_same {K : PySem.W.Frag} {H H' : Hp} (s : Same H H') : ∀ (d : PyData) (v : V), Dp K H v d → Dp K H' v d
  | .none, _, h => by
    cases h
    exact .non
  | .bool b, _, h => by
    cases h
    exact .bl b
  | .int i, _, h => by
    cases h
    exact .int i
  | .str x, _, h => by
    cases h
    exact .str x
  | .list ds, _, h => by
    cases h with
    | lst h1 h2 => exact .lst (same_l s h1) (dpA_same s ds _ h2)
  | .dict ds, n, h => by
    cases h
  | .tuple ds, _, h => by
    cases h with
    | tup h1 h2 => exact .tup (same_t s h1) (dpA_same s ds _ h2)
theorem dpA_same {K : PySem.W.Frag} {H H' : Hp} (s : Same H H') : ∀ (ds : List PyData) (xs : List V), DpAll K H xs ds → DpAll K H' xs ds
  | [], _, h => by
    cases h
    exact .nil
  | d :: ds, _, h => by
    cases h with
    | cons h1 h2 => exact .cons (dp_same s d _ h1) (dpA_same s ds _ h2)
end
def spSm (K : PySem.W.Frag) (n : Nat) : Sp := fun vs H Q _ => ∃ (t u : V) (d : PyData), vs = [t, u] ∧ Dp K H t d ∧ Dp K H u d ∧ pvW d = true ∧ dep d < n ∧ ∀ H', Same H H' → Q (.bl true) H'
section
variable {P : Program} {w : World} {K : PySem.W.Frag} {mg : Str → Option Value} {base : Heap}
theorem sm_ok (T : Txt K mg) (D__law_is_int : Kept P w K mg base 1 "_law_is_int" ["thing"] spIsInt) : ∀ (n : Nat) {f : Addr} {fd : FuncData}, FnP K "_law_same" s__law_same f fd → mg "_law_same" = some (.ref f) → Binds K fd ["told", "due"] [] → FnOk P w K mg base CX0 (n + 2) f fd ["told", "due"] (spSm K n)
  | 0, f, fd, F, hg, hb => F.ok (k := 1) sc__law_same (fun vs H Q E h => by
      obtain ⟨t, u, d, rfl, _⟩ := h
      rfl) (fun cdv A outer s H vs Q E hr h => by
      obtain ⟨t, u, d, rfl, _, _, _, h, _⟩ := h
      exact absurd h (Nat.not_lt_zero _))
  | n + 1, f, fd, F, hg, hb => by
    have D__law_same : Kept P w K mg base (n + 2) "_law_same" ["told", "due"] (spSm K n) := ⟨f, fd, sm_ok T D__law_is_int n F hg hb, hg, F.kp, hb⟩
    refine F.ok (k := n + 2) sc__law_same (fun vs H Q E h => ?_) (fun cdv A outer s H vs Q E hr h => ?_)
    · obtain ⟨t, u, d, rfl, _⟩ := h
      rfl
    · obtain ⟨t, u, d, rfl, ht, hu, hp, hn, q⟩ := h
      refine ⟨_, PSs.nox (pss_cons (ps_if (pt_val (pe_callB call_isi (by rfl) T.b_isinstance (by decide +kernel) (pa_cons (pv 1) (pa_cons (pe_bltn (v := .ty "tuple") (u := .type "tuple") (by rfl) T.b_tuple (by decide +kernel) rfl) pa_nil)))) (pss_cons (ps_if (PW.pt (pw_or (pt_not (pt_val (pe_callB call_isi (by rfl) T.b_isinstance (by decide +kernel) (pa_cons (pv 0) (pa_cons (pe_bltn (v := .ty "tuple") (u := .type "tuple") (by rfl) T.b_tuple (by decide +kernel) rfl) pa_nil))))) (pw_or1 (pt_cmpR op_ne (pe_callB call_len (by rfl) T.b_len (by decide +kernel) (pa_cons (pv 0) pa_nil)) (pe_callB call_len (by rfl) T.b_len (by decide +kernel) (pa_cons (pv 1) pa_nil)) (nomark _))))) (pss_one (ps_ret pe_bl)) pss_nil)
      (pss_one (ps_ret (pe_callB (cr_all rfl) (by rfl) T.b_all (by decide +kernel) (pa_cons (pe_lc (own := [("k", 2)]) (g := (gName 2)) (tt := tYes) rfl sc__law_same.nd (pi_range1 (by rfl) T.b_range (pa_cons (pe_callB call_len (by rfl) T.b_len (by decide +kernel) (pa_cons (pv 1) pa_nil)) pa_nil)) (blkOk_by (N := N__law_same) (sc := defScope s__law_same) (by decide +kernel)) (fun _ _ _ _ _ => (pg_name (i := 2) sc__law_same.nd rfl (Or.inl rfl))) (fun _ _ _ _ _ => pts_nil) (fun _ _ _ _ _ => (pe_d D__law_same (hr.mono (by omega)) (by rfl) (pa_cons (pe_ix (ixT (K := K) rfl) (pv 0) (pv 2) (fun _ _ => rfl)) (pa_cons (pe_ix (ixT (K := K) rfl) (pv 1) (pv 2) (fun _ _ => rfl)) pa_nil))))) pa_nil))))) pss_nil)
      (pss_cons (ps_if (pt_val (pe_callB call_isi (by rfl) T.b_isinstance (by decide +kernel) (pa_cons (pv 1) (pa_cons (pe_bltn (v := .ty "str") (u := .type "str") (by rfl) T.b_str (by decide +kernel) rfl) pa_nil)))) (pss_one (ps_ret (pe_and (pe_callB call_isi (by rfl) T.b_isinstance (by decide +kernel) (pa_cons (pv 0) (pa_cons (pe_bltn (v := .ty "str") (u := .type "str") (by rfl) T.b_str (by decide +kernel) rfl) pa_nil))) (pe_one (pe_cmpR op_eq (pv 0) (pv 1) (nomark _)))))) pss_nil)
      (pss_one (ps_ret (pe_and (pe_d D__law_is_int (hr.mono (by omega)) (by rfl) (pa_cons (pv 0) pa_nil)) (pe_one (pe_cmpR op_eq (pv 0) (pv 1) (nomark _)))))))), ?_⟩
      match d, ht, hu, hp, hn, q with
      | .str z, ht, hu, hp, hn, q =>
        obtain rfl := dp_str ht
        obtain rfl := dp_str hu
        refine ⟨_, rfl, _, .ty "tuple", .type "str", .type "tuple", false, rfl, .ty _, .base (.str _), kit_ty (by decide +kernel), false, rfl, ite2 (fun h => (nomatch h)) (fun _ => ?_)⟩
        refine ⟨_, rfl, _, .ty "str", .type "str", .type "str", true, rfl, .ty _, .base (.str _), kit_ty (by decide +kernel), true, rfl, ite2 (fun _ => ?_) (fun h => absurd rfl h)⟩
        refine ⟨_, rfl, _, .ty "str", .type "str", .type "str", true, rfl, .ty _, .base (.str _), kit_ty (by decide +kernel), true, rfl, ite2 (fun _ => ?_) (fun h => absurd rfl h)⟩
        refine ⟨_, rfl, _, rfl, rfl, ?_⟩
        rw [decide_eq_true rfl]
        exact q _ (Same.refl _)
      | .int i, ht, hu, hp, hn, q =>
        obtain rfl := dp_int ht
        obtain rfl := dp_int hu
        refine ⟨_, rfl, _, .ty "tuple", .type "int", .type "tuple", false, rfl, .ty _, .base (.int _), kit_ty (by decide +kernel), false, rfl, ite2 (fun h => (nomatch h)) (fun _ => ?_)⟩
        refine ⟨_, rfl, _, .ty "str", .type "int", .type "str", false, rfl, .ty _, .base (.int _), kit_ty (by decide +kernel), false, rfl, ite2 (fun h => (nomatch h)) (fun _ => ?_)⟩
        refine ⟨_, rfl, i, rfl, true, rfl, ite2 (fun _ => ?_) (fun h => absurd rfl h)⟩
        refine ⟨_, rfl, _, rfl, rfl, ?_⟩
        rw [decide_eq_true rfl]
        exact q _ (Same.refl _)
      | .tuple ds, ht, hu, hp, hn, q =>
        obtain ⟨pt, xs, rfl, hpt, hA⟩ := dp_tup ht
        obtain ⟨pu, ys, rfl, hpu, hB⟩ := dp_tup hu
        have xl := dpA_len hA
        have yl := dpA_len hB
        obtain ⟨hw, hp⟩ := Bool.and_eq_true_iff.mp (show (decide (ds.length ≤ 1000) && pvWs ds) = true from hp)
        have hw := of_decide_eq_true hw
        have hdd : deps ds < n := by
          have : deps ds + 1 < n + 1 := hn
          omega
        refine ⟨_, rfl, _, .ty "tuple", .type "tuple", .type "tuple", true, rfl, .ty _, sqt_ty hpu, kit_ty (by decide +kernel), true, rfl, ite2 (fun _ => ?_) (fun h => absurd rfl h)⟩
        refine ⟨_, rfl, _, .ty "tuple", .type "tuple", .type "tuple", true, rfl, .ty _, sqt_ty hpt, kit_ty (by decide +kernel), true, rfl, ite2 (fun h => (nomatch (show false = true from h))) (fun _ => ?_)⟩
        refine ⟨_, rfl, _, _, rfl, .inr ⟨_, hpt, rfl⟩, _, rfl, _, _, rfl, .inr ⟨_, hpu, rfl⟩, rfl, ?_⟩
        rw [xl, yl, decide_eq_true rfl]
        refine ⟨_, rfl, ite2 (fun h => (nomatch (show false = true from h))) (fun _ => ?_)⟩
        refine ⟨_, rfl, _, _, rfl, .inr ⟨_, hpu, rfl⟩, _, rfl, by omega, by omega, fun L hL => lc_range (lo := 0) (n := ys.length) (fun i H' => Same H H' ∧ H' L = some (.lst ((List.replicate i true).map V.bl))) ⟨same_new hL, upd_same⟩ ?_ ?_⟩
        · rintro i H1 hi ⟨s1, hL1⟩
          have hi' : i < ds.length := by omega
          have hdi : ds[i]? = some ds[i] := List.getElem?_eq_getElem hi'
          generalize ds[i] = d at hdi
          have hm := List.mem_of_getElem? hdi
          have h4 := deps_mem hm
          have ex : xs[i]? = some (xs[i]'(by omega)) := List.getElem?_eq_getElem _
          have ey : ys[i]? = some (ys[i]'(by omega)) := List.getElem?_eq_getElem _
          generalize xs[i]'(by omega) = x at ex
          generalize ys[i]'(by omega) = y at ey
          obtain ⟨d1, hd1, hx⟩ := dpA_at hA ex
          obtain ⟨d2, hd2, hy⟩ := dpA_at hB ey
          rw [hdi] at hd1 hd2
          cases hd1
          cases hd2
          refine ⟨rfl, _, rfl, _, rfl, pt, _, _, _, rfl, rfl, same_t s1 hpt, (by rw [Int.zero_add]; exact atI_nat ex), _, rfl, _, rfl, pu, _, _, _, rfl, rfl, same_t s1 hpu, (by rw [Int.zero_add]; exact atI_nat ey), x, y, d, rfl, dp_same s1 _ _ hx, dp_same s1 _ _ hy, pvWs_mem hp hm, by omega, fun H2 s2 => ⟨_, s2 _ _ hL1, by rw [List.length_map, List.length_replicate]; exact line6 (by omega), same_mut (s1.trans s2) hL, ?_⟩⟩
          rw [upd_same, List.replicate_succ', List.map_append]
          rfl
        · rintro H1 ⟨s1, hL1⟩
          refine ⟨L, List.replicate ys.length true, rfl, SqL.of hL1, ?_⟩
          rw [show (List.replicate ys.length true).all id = true from by simp]
          exact q _ s1
      | .none, _, _, hp, _, _ => nomatch hp
      | .bool _, _, _, hp, _, _ => nomatch hp
      | .list _, _, _, hp, _, _ => nomatch hp
      | .dict _, _, _, hp, _, _ => nomatch hp
end
end Mt
namespace Mt
open PySem PySem.Spec PyProof.Rows L2
def spLBent (K : PySem.W.Frag) : Sp := fun vs H Q _ => ∃ (v u : V) (W : Wb) (B : Bd), vs = [v, u] ∧ Dp K H v (dWeb W) ∧ Dp K H u (dBd B) ∧ WebOk W ∧ Few 50 B ∧ fitB W B = true ∧ ∀ H' v', Same H H' → Dp K H' v' (dBWeb W B) → Q v' H'
def spSmall : Sp := fun vs H Q _ => ∃ (S D : Addr) (m : Int), vs = [.ref D, .int m] ∧ 1 ≤ m ∧ m ≤ 60 ∧ DrawAt S D H ∧ ∀ H' (i : Int), Go S D H H' → 1 ≤ i → i ≤ max m 3 → Q (.int i) H'
def spInteger : Sp := fun vs H Q _ => ∃ (S D : Addr), vs = [.ref D] ∧ DrawAt S D H ∧ ∀ H' (i : Int), Go S D H H' → 0 ≤ i → i ≤ 10 ^ 30 + 1000 → Q (.int i) H'
theorem cpow30 : CPow 10 30 := ⟨by decide, by decide, by decide⟩
section
variable {P : Program} {w : World} {K : PySem.W.Frag} {mg : Str → Option Value} {base : Heap}
theorem ok__law_small (T : Txt K mg) (D__law_draw : Kept P w K mg base 1 "_law_draw" ["d", "many"] spDraw) (D__law_rare : Kept P w K mg base 2 "_law_rare" ["d", "many"] spRare) {f : Addr} {fd : FuncData} (F : FnP K "_law_small" s__law_small f fd) : FnOk P w K mg base CX0 3 f fd ["d", "most"] spSmall := by
  refine F.ok sc__law_small (fun vs H Q E h => ?_) (fun cdv A outer s H vs Q E hr h => ?_)
  · obtain ⟨S, D, m, rfl, _⟩ := h
    rfl
  · obtain ⟨S, D, m, rfl, h1, h2, d0, q⟩ := h
    refine ⟨_, PSs.nox (pss_cons (ps_if (pt_val (pe_d D__law_rare (hr.mono (by decide)) (by rfl) (pa_cons (pv 0) (pa_cons pe_int pa_nil)))) (pss_one (ps_ret (pe_op op_add pe_int (pe_d D__law_draw (hr.mono (by decide)) (by rfl) (pa_cons (pv 0) (pa_cons (pv 1) pa_nil)))))) pss_nil)
      (pss_one (ps_ret (pe_op op_add pe_int (pe_d D__law_draw (hr.mono (by decide)) (by rfl) (pa_cons (pv 0) (pa_cons (pe_callB (call_min2 rfl) (by rfl) T.b_min (by decide +kernel) (pa_cons pe_int (pa_cons (pv 1) pa_nil))) pa_nil))))))), ?_⟩
    refine ⟨_, rfl, S, D, 9, rfl, by decide, by decide, d0, fun H1 bb g1 => ⟨bb, rfl, ite2 (fun _ => ?_) (fun _ => ?_)⟩⟩
    · refine ⟨_, rfl, _, rfl, S, D, _, rfl, divW_of (by omega) (by omega), g1.1, fun H2 k k0 k1 g2 => ?_⟩
      exact ⟨_, _, rfl, rfl, q _ _ (g1.trans g2) (by omega) (by omega)⟩
    · refine ⟨_, rfl, _, rfl, _, _, rfl, S, D, _, rfl, divW_of (by split <;> omega) (by split <;> omega), g1.1, fun H2 k k0 k1 g2 => ?_⟩
      refine ⟨_, _, rfl, rfl, q _ _ (g1.trans g2) (by omega) ?_⟩
      split at k1 <;> omega
theorem ok__law_integer (T : Txt K mg) (D__law_draw : Kept P w K mg base 1 "_law_draw" ["d", "many"] spDraw) (D__law_rare : Kept P w K mg base 2 "_law_rare" ["d", "many"] spRare) {f : Addr} {fd : FuncData} (F : FnP K "_law_integer" s__law_integer f fd) : FnOk P w K mg base CX0 3 f fd ["d"] spInteger := by
  refine F.ok sc__law_integer (fun vs H Q E h => ?_) (fun cdv A outer s H vs Q E hr h => ?_)
  · obtain ⟨S, D, rfl, _⟩ := h
    rfl
  · obtain ⟨S, D, rfl, d0, q⟩ := h
    refine ⟨_, PSs.nox (pss_cons (ps_set (i := 1) sc__law_integer.nd rfl (Or.inl rfl) (pe_d D__law_draw (hr.mono (by decide)) (by rfl) (pa_cons (pv 0) (pa_cons pe_int pa_nil))))
      (pss_cons (ps_if (pt_cmpR op_lt (pv 1) pe_int (nomark _)) (pss_one (ps_ret pe_int)) pss_nil)
      (pss_cons (ps_if (pt_cmpR op_lt (pv 1) pe_int (nomark _)) (pss_one (ps_ret pe_int)) pss_nil)
      (pss_cons (ps_if (pt_cmpR op_lt (pv 1) pe_int (nomark _)) (pss_one (ps_ret (pe_op op_add pe_int (pe_d D__law_draw (hr.mono (by decide)) (by rfl) (pa_cons (pv 0) (pa_cons pe_int pa_nil)))))) pss_nil)
      (pss_cons (ps_if (PW.pt (pw_and (pt_cmpR op_eq (pv 1) pe_int (nomark _)) (pw_and1 (pt_val (pe_d D__law_rare (hr.mono (by decide)) (by rfl) (pa_cons (pv 0) (pa_cons pe_int pa_nil))))))) (pss_one (ps_ret (pe_op op_add (pe_op op_pow pe_int pe_int) (pe_d D__law_draw (hr.mono (by decide)) (by rfl) (pa_cons (pv 0) (pa_cons pe_int pa_nil)))))) pss_nil)
      (pss_one (ps_ret (pe_op op_add pe_int (pe_d D__law_draw (hr.mono (by decide)) (by rfl) (pa_cons (pv 0) (pa_cons pe_int pa_nil))))))))))), ?_⟩
    refine ⟨_, rfl, S, D, _, rfl, divW_of (by decide) (by decide), d0, fun H1 k k0 k1 g1 => ?_⟩
    refine ⟨_, rfl, _, _, rfl, rfl, _, rfl, ite2 (fun _ => q _ _ g1 (by decide) (by decide)) (fun _ => ?_)⟩
    refine ⟨_, rfl, _, _, rfl, rfl, _, rfl, ite2 (fun _ => q _ _ g1 (by decide) (by decide)) (fun _ => ?_)⟩
    have last : ∀ H2, Go S D H1 H2 → tRet (tOp (rI0 fun i j => V.int (i + j)) (tC (V.int 1)) (tCall spDraw [] E0 (tCons (tVar 0) (tCons (tC (V.int 1000000)) tNil)))) { nx := fun _ H' => Q V.non H', rt := Q } [some (.ref D), some (.int k)] H2 := fun H2 g12 => by
      refine ⟨_, rfl, S, D, _, rfl, divW_of (by decide) (by decide), g12.1, fun H3 a a0 a1 g3 => ?_⟩
      exact ⟨_, _, rfl, rfl, q _ _ (g1.trans (g12.trans g3)) (by omega) (by show 1 + a ≤ (10 : Int) ^ 30 + 1000; omega)⟩
    refine ⟨_, rfl, _, _, rfl, rfl, _, rfl, ite2 (fun _ => ?_) (fun _ => ?_)⟩
    · refine ⟨_, rfl, S, D, _, rfl, divW_of (by decide) (by decide), g1.1, fun H2 a a0 a1 g2 => ?_⟩
      exact ⟨_, _, rfl, rfl, q _ _ (g1.trans g2) (by omega) (by show 1 + a ≤ (10 : Int) ^ 30 + 1000; omega)⟩
    · have h7 : Go S D H1 H1 := Go.refl g1.1
      refine ⟨_, rfl, rfl, _, rfl, ite2 (fun _ => ?_) (fun _ => ?_)⟩
      · refine ⟨_, rfl, S, D, 5, rfl, by decide, by decide, g1.1, fun H2 bb g2 => ⟨bb, rfl, ite2 (fun _ => ?_) (fun _ => last H2 g2)⟩⟩
        refine ⟨_, _, rfl, rfl, cpow30, ?_⟩
        have pow30 : (fun i j : Int => V.int (i ^ j.toNat)) 10 30 = V.int (10 ^ 30) := rfl
        rw [pow30]
        refine ⟨_, rfl, S, D, _, rfl, divW_of (by decide) (by decide), g2.1, fun H3 a a0 a1 g3 => ?_⟩
        exact ⟨_, _, rfl, rfl, q _ _ (g1.trans (g2.trans g3)) (by omega) (by show 10 ^ 30 + a ≤ (10 : Int) ^ 30 + 1000; omega)⟩
      · exact ite2 (fun h => (nomatch h)) (fun _ => last H1 h7)
theorem ok__law_bent (T : Txt K mg) (D__law_frac : Kept P w K mg base 1 "_law_frac" ["n", "d"] spFrac) {f : Addr} {fd : FuncData} (F : FnP K "_law_bent" s__law_bent f fd) : FnOk P w K mg base CX0 2 f fd ["web", "bend"] (spLBent K) := by
  refine F.ok sc__law_bent (fun vs H Q E h => ?_) (fun cdv A outer s H vs Q E hr h => ?_)
  · obtain ⟨v, u, W, B, rfl, _⟩ := h
    rfl
  · obtain ⟨v, u, W, B, rfl, hv, hu, hW, hB, hfit, q⟩ := h
    refine ⟨_, PSs.nox (pss_cons (ps_set (i := 2) sc__law_bent.nd rfl (Or.inl rfl) (pe_lst pa_nil))
      (pss_cons (ps_for PassesOwn.never rfl (pi_range1 (by rfl) T.b_range (pa_cons (pe_callB call_len (by rfl) T.b_len (by decide +kernel) (pa_cons (pv 1) pa_nil)) pa_nil)) (pg_name (i := 3) sc__law_bent.nd rfl (Or.inl rfl)) (pss_cons (ps_set (i := 4) sc__law_bent.nd rfl (Or.inl rfl) (pe_lst pa_nil))
      (pss_cons (ps_for PassesOwn.never rfl (pi_range1 (by rfl) T.b_range (pa_cons (pe_callB call_len (by rfl) T.b_len (by decide +kernel) (pa_cons (pe_ix ix_tup (pv 1) (pv 3) (fun _ _ => rfl)) pa_nil)) pa_nil)) (pg_name (i := 5) sc__law_bent.nd rfl (Or.inl rfl)) (pss_one (ps_if (pt_cmpR op_gt (pe_ix ix_tup (pe_ix ix_tup (pv 1) (pv 3) (fun _ _ => rfl)) (pv 5) (fun _ _ => rfl)) pe_int (nomark _)) (pss_one (ps_expr (pe_bm PySem.F.plainAttrs_list PySem.F.slot_list_append PySem.F.type_list_append mt_append (pv 4) (pa_cons (pe_tup (pa_cons (pe_ix ix_tup (pe_ix ix_tup (pe_ix ix_tup (pe_ix ix_tup (pv 0) pe_int (fun _ _ => rfl)) (pv 3) (fun _ _ => rfl)) (pv 5) (fun _ _ => rfl)) pe_int (fun _ _ => rfl)) (pa_cons (pe_ix ix_tup (pe_ix ix_tup (pe_ix ix_tup (pe_ix ix_tup (pv 0) pe_int (fun _ _ => rfl)) (pv 3) (fun _ _ => rfl)) (pv 5) (fun _ _ => rfl)) pe_int (fun _ _ => rfl)) (pa_cons (pe_d D__law_frac (hr.mono (by decide)) (by rfl) (pa_cons (pe_ix ix_tup (pe_ix ix_tup (pv 1) (pv 3) (fun _ _ => rfl)) (pv 5) (fun _ _ => rfl)) (pa_cons (pe_callB (EnT.cr_sumT rfl) (by rfl) T.b_sum (by decide +kernel) (pa_cons (pe_ix ix_tup (pv 1) (pv 3) (fun _ _ => rfl)) pa_nil)) pa_nil))) pa_nil)))) pa_nil)))) pss_nil)))
      (pss_one (ps_expr (pe_bm PySem.F.plainAttrs_list PySem.F.slot_list_append PySem.F.type_list_append mt_append (pv 2) (pa_cons (pe_callTy call_tuple_of (by rfl) T.b_tuple (by decide +kernel) (pa_cons (pv 4) pa_nil)) pa_nil)))))))
      (pss_one (ps_ret (pe_tup (pa_cons pe_str (pa_cons (pe_callTy call_tuple_of (by rfl) T.b_tuple (by decide +kernel) (pa_cons (pv 2) pa_nil)) pa_nil))))))), ?_⟩
    obtain ⟨pw, pq, xq, rfl, hpw, hpq, hAq⟩ := web_at hv
    obtain ⟨pb, xb, rfl, hpb, hAb⟩ := dp_tup hu
    have ql := dpA_len hAq
    have bl := dpA_len hAb
    rw [List.length_map] at ql bl
    have eq : B.length = W.length := by
      unfold fitB at hfit
      exact of_decide_eq_true (Bool.and_eq_true_iff.mp hfit).1
    have few := hW.few
    refine ⟨by decide, fun L hL => ?_⟩
    have s0 := same_new (o := .lst []) hL
    refine ⟨_, rfl, _, _, rfl, .inr ⟨_, same_t s0 hpb, rfl⟩, _, rfl, by omega, by omega, for_range (lo := 0) (n := xb.length) (fun i σ H' => ∃ (zs : List V) (y3 y4 y5 : Option V), σ = [some (.ref pw), some (.ref pb), some (.ref L), y3, y4, y5] ∧ Same H H' ∧ H' L = some (.lst zs) ∧ DpAll K H' zs (((W.zip B).take i).map dBRow)) ⟨[], _, _, _, rfl, s0, upd_same, .nil⟩ ?_ ?_⟩
    · rintro i σ H1 hi ⟨zs, y3, y4, y5, rfl, s1, hL1, hA1⟩
      have iW : i < W.length := by omega
      obtain ⟨r, er⟩ : ∃ r, W[i]? = some r := ⟨W[i], List.getElem?_eq_getElem iW⟩
      obtain ⟨l, el⟩ : ∃ l, B[i]? = some l := ⟨B[i]'(by omega), List.getElem?_eq_getElem _⟩
      obtain ⟨vl, hvl, dl⟩ := dpA_get hAb el
      obtain ⟨pl, rfl, hpl⟩ := i_at dl
      obtain ⟨vr, hvr, dr⟩ := dpA_get hAq er
      obtain ⟨pr, xr, rfl, hpr, hAr⟩ := dp_tup dr
      obtain ⟨hl1, hl2, hl3⟩ := fitB_at hfit er el
      have rl := (hW.row r (List.mem_of_getElem? er)).2.1
      have xl := dpA_len hAr
      rw [List.length_map] at xl
      have atl : atI xb (0 + (i : Int)) = some (.ref pl) := by
        rw [Int.zero_add]
        exact atI_nat hvl
      have atr : atI xq (0 + (i : Int)) = some (.ref pr) := by
        rw [Int.zero_add]
        exact atI_nat hvr
      refine ⟨by decide, fun M hM => ?_⟩
      have s2 := s1.trans (same_new (o := .lst []) hM)
      refine ⟨_, rfl, _, rfl, pb, _, _, _, rfl, rfl, same_t s2 hpb, atl, _, _, rfl, .inr ⟨_, same_t s2 hpl, rfl⟩, _, rfl, ?_, ?_, for_range (lo := 0) (n := (l.map V.int).length) (fun k σ H' => ∃ (ws : List V) (y5 : Option V), σ = [some (.ref pw), some (.ref pb), some (.ref L), some (.int (0 + (i : Int))), some (.ref M), y5] ∧ Same H1 H' ∧ H' M = some (.lst ws) ∧ DpAll K H' ws ((((r.zip l).take k).filter fun p => decide (0 < p.2)).map (dBend l.sum))) ⟨[], _, rfl, same_new hM, upd_same, .nil⟩ ?_ ?_⟩
      · omega
      · rw [List.length_map]
        omega
      · rintro k σ H2 hk ⟨ws, y5, rfl, s12, hM2, hA2⟩
        rw [List.length_map] at hk
        obtain ⟨n, en⟩ : ∃ n, l[k]? = some n := ⟨l[k], List.getElem?_eq_getElem hk⟩
        obtain ⟨ar, ear⟩ : ∃ a, r[k]? = some a := ⟨r[k]'(by omega), List.getElem?_eq_getElem _⟩
        obtain ⟨va, hva, da⟩ := dpA_get hAr ear
        obtain ⟨pa, x0, x2, rfl, hpa, d0, d2⟩ := arc_at da
        have s22 := s1.trans s12
        have atn : atI (l.map V.int) (0 + (k : Int)) = some (.int n) := by
          rw [Int.zero_add]
          exact atI_nat (by rw [List.getElem?_map, en]; rfl)
        have ata : atI xr (0 + (k : Int)) = some (.ref pa) := by
          rw [Int.zero_add]
          exact atI_nat hva
        have ez : (r.zip l)[k]? = some (ar, n) := List.getElem?_zip_eq_some.mpr ⟨ear, en⟩
        have hnl := List.mem_of_getElem? en
        have ll := hB.row l (List.mem_of_getElem? el)
        have hbig := hB.big l (List.mem_of_getElem? el)
        refine ⟨_, rfl, _, rfl, pb, _, _, _, rfl, rfl, same_t s22 hpb, atl, _, rfl, pl, _, _, _, rfl, rfl, same_t s22 hpl, atn, _, _, rfl, rfl, _, rfl, ite2 (fun c => ?_) (fun c => ?_)⟩
        · have c : decide ((0 : Int) < n) = true := c
          have c := of_decide_eq_true c
          have h4 : n.natAbs < 2 ^ 4000 := Nat.lt_of_le_of_lt (hbig _ hnl) (by decide +kernel)
          have h5 : l.sum.natAbs < 2 ^ 4000 := Nat.lt_of_le_of_lt (Nat.le_trans (sum_abs hbig) (Nat.mul_le_mul_right _ ll)) (by decide +kernel)
          have s2 := s22
          refine ⟨_, rfl, .inl ⟨rfl, _, SqL.of hM2⟩, _, rfl, pw, _, _, _, rfl, rfl, same_t s2 hpw, atI_nat (j := 1) rfl, _, rfl, pq, _, _, _, rfl, rfl, same_t s2 hpq, atr, _, rfl, pr, _, _, _, rfl, rfl, same_t s2 hpr, ata, pa, _, _, _, rfl, rfl, same_t s2 hpa, atI_nat (j := 0) rfl, ?_⟩
          refine ⟨_, rfl, pw, _, _, _, rfl, rfl, same_t s2 hpw, atI_nat (j := 1) rfl, _, rfl, pq, _, _, _, rfl, rfl, same_t s2 hpq, atr, _, rfl, pr, _, _, _, rfl, rfl, same_t s2 hpr, ata, pa, _, _, _, rfl, rfl, same_t s2 hpa, atI_nat (j := 1) rfl, ?_⟩
          refine ⟨_, rfl, _, rfl, pb, _, _, _, rfl, rfl, same_t s2 hpb, atl, _, rfl, pl, _, _, _, rfl, rfl, same_t s2 hpl, atn, _, rfl, _, rfl, pb, _, _, _, rfl, rfl, same_t s2 hpb, atl, pl, l, rfl, same_t s2 hpl, n, l.sum, rfl, by omega, ⟨h4, h5⟩, fun pf hpf => ⟨z3, fun pt hpt => ?_⟩⟩
          have s3 := same_new (o := tupF (fr n l.sum)) hpf
          have hF := upd_same (H := H2) (a := pf) (o := tupF (fr n l.sum))
          generalize upd H2 pf (tupF (fr n l.sum)) = H3 at s3 hF hpt
          have s4 := s3.trans (same_new (o := .tup [x0, .int ar.2.1, .ref pf]) hpt)
          have hF4 := same_new (o := .tup [x0, .int ar.2.1, .ref pf]) hpt _ _ hF
          have hP := upd_same (H := H3) (a := pt) (o := .tup [x0, .int ar.2.1, .ref pf])
          have hM4 := s4 _ _ hM2
          have hA4 := dpA_same s4 _ _ hA2
          refine ⟨M, ws, _, rfl, rfl, hM4, ?_, ws ++ [.ref pt], _, rfl, same_mut (s12.trans s4) hM, upd_same, ?_⟩
          · have := dpA_len hA4
            rw [List.length_map] at this
            rw [this]
            refine line6 (Nat.lt_of_le_of_lt (List.length_filter_le _ _) ?_)
            rw [List.length_take]
            omega
          · rw [List.take_add_one, ez, List.filter_append, List.map_append]
            have e1 : List.map (dBend l.sum) (List.filter (fun p => decide (0 < p.2)) (Option.toList (some (ar, n)))) = [dBend l.sum (ar, n)] := by
              simp [c]
            rw [e1]
            have k5 := keepT_nt (o2 := .lst ws) (nt_lst _) hM4 (o := .lst (ws ++ [.ref pt]))
            refine dpA_keep k5 _ _ (noLs_snoc (noLs_map _ _ fun _ _ => dBend_noL _ _) (dBend_noL _ _)) (dpA_snoc hA4 (.tup (SqT.of hP) (.cons ?_ (.cons (.int _) (.cons (.tup (SqT.of hF4) (.cons (.int _) (.cons (.int _) .nil))) .nil)))))
            exact dp_same (s22.trans s4) _ _ d0
        · have c : ¬ decide ((0 : Int) < n) = true := c
          refine ⟨ws, _, rfl, s12, hM2, ?_⟩
          rw [List.take_add_one, ez, List.filter_append]
          simpa [c] using hA2
      · rintro σ H2 ⟨ws, y5, rfl, s12, hM2, hA2⟩
        rw [List.length_map, List.take_of_length_le (by rw [List.length_zip]; omega)] at hA2
        refine ⟨_, rfl, .inl ⟨rfl, _, SqL.of (s12 _ _ hL1)⟩, _, rfl, M, ws, rfl, .inl ⟨SqL.of hM2, fun pt hpt => ?_⟩⟩
        have s3 := s12.trans (same_new (o := .tup ws) hpt)
        have hP := upd_same (H := H2) (a := pt) (o := .tup ws)
        have hA3 := dpA_same (same_new (o := .tup ws) hpt) _ _ hA2
        generalize upd H2 pt (.tup ws) = H3 at s3 hP hA3
        have hL3 := s3 _ _ hL1
        have kL := keepT_nt (o2 := .lst zs) (nt_lst _) hL3 (o := .lst (zs ++ [.ref pt]))
        refine ⟨L, zs, _, rfl, rfl, hL3, ?_, zs ++ [.ref pt], _, _, _, rfl, same_mut (s1.trans s3) hL, upd_same, ?_⟩
        · have := dpA_len hA1
          rw [List.length_map, List.length_take, List.length_zip] at this
          exact line6 (by omega)
        · have ez : (W.zip B)[i]? = some (r, l) := List.getElem?_zip_eq_some.mpr ⟨er, el⟩
          rw [List.take_add_one, ez, List.map_append]
          exact dpA_snoc (dpA_keep kL _ _ (noLs_map _ _ fun _ _ => dBRow_noL _) (dpA_same s3 _ _ hA1)) (dp_keep kL _ _ (dBRow_noL _) (.tup (SqT.of hP) hA3))
    · rintro σ H1 ⟨zs, y3, y4, y5, rfl, s1, hL1, hA1⟩
      rw [List.take_of_length_le (by rw [List.length_zip]; omega)] at hA1
      refine ⟨_, rfl, L, zs, rfl, .inl ⟨SqL.of hL1, fun pq hpq => ⟨by show 2 ≤ sizeLine; decide, fun pw hpw => ?_⟩⟩⟩
      have k2 := same_new (o := .tup zs) hpq
      have k3 := same_new (o := .tup [.str "web", .ref pq]) hpw
      exact q _ _ (s1.trans (k2.trans k3)) (.tup (SqT.of upd_same) (.cons (.str _) (.cons (.tup (same_t k3 (SqT.of upd_same)) (dpA_same (k2.trans k3) _ _ hA1)) .nil)))
end
end Mt
namespace Mt
open PySem PySem.Spec PyProof.Rows L2
theorem new_tup {K : PySem.W.Frag} {H : Hp} {p : Addr} {xs : List V} {ds : List PyData} (hp : H p = none) (h : DpAll K H xs ds) : Same H (upd H p (.tup xs)) ∧ Dp K (upd H p (.tup xs)) (.ref p) (.tuple ds) := by
  have s := same_new (o := .tup xs) hp
  exact ⟨s, .tup (SqT.of upd_same) (dpA_same s _ _ h)⟩
def spDBend (K : PySem.W.Frag) : Sp := fun vs H Q _ => ∃ (S D : Addr) (v : V) (W : Wb), vs = [.ref D, v] ∧ DrawAt S D H ∧ Dp K H v (dWeb W) ∧ WebOk W ∧ W.length ≤ 20 ∧ ∀ H' v' B, Go S D H H' → Dp K H' v' (dBd B) → Few 20 B → Q v' H'
section
variable {P : Program} {w : World} {K : PySem.W.Frag} {mg : Str → Option Value} {base : Heap}
theorem ok__law_drawn_bend (T : Txt K mg) (D__law_draw : Kept P w K mg base 1 "_law_draw" ["d", "many"] spDraw) (D__law_integer : Kept P w K mg base 3 "_law_integer" ["d"] spInteger) {f : Addr} {fd : FuncData} (F : FnP K "_law_drawn_bend" s__law_drawn_bend f fd) : FnOk P w K mg base CX0 4 f fd ["d", "web"] (spDBend K) := by
  refine F.ok sc__law_drawn_bend (fun vs H Q E h => ?_) (fun cdv A outer s H vs Q E hr h => ?_)
  · obtain ⟨S, D, v, W, rfl, _⟩ := h
    rfl
  · obtain ⟨S, D, v, W, rfl, d, hv, okW, hWl, q⟩ := h
    refine ⟨_, PSs.nox (pss_cons (ps_set (i := 2) sc__law_drawn_bend.nd rfl (Or.inl rfl) (pe_lst pa_nil))
      (pss_cons (ps_for PassesOwn.never rfl (pi_tup (pe_ix ix_tup (pv 1) pe_int (fun _ _ => rfl))) (pg_name (i := 3) sc__law_drawn_bend.nd rfl (Or.inl rfl)) (pss_cons (ps_setLc (i := 4) (own := [("arc", 5)]) (g := (gName 5)) (tt := tYes) rfl sc__law_drawn_bend.nd rfl rfl (sw_true rfl rfl rfl (by decide +kernel)) (pi_tup (pv 3)) (blkOk_by (N := N__law_drawn_bend) (sc := defScope s__law_drawn_bend) (by decide +kernel)) (fun _ _ _ _ _ => (pg_name (i := 5) sc__law_drawn_bend.nd rfl (Or.inl rfl))) (fun _ _ _ _ _ => pts_nil) (fun _ _ _ _ _ => (pe_d D__law_integer (hr.mono (by decide)) (by rfl) (pa_cons (pv 0) pa_nil))))
      (Evl.pss_cut (ps_if (pt_cmpR op_eq (pe_callB (cr_sum rfl) (by rfl) T.b_sum (by decide +kernel) (pa_cons (pv 4) pa_nil)) pe_int (nomark _)) (pss_one (ps_asg (pe_op op_add pe_int (pe_d D__law_draw (hr.mono (by decide)) (by rfl) (pa_cons (pv 0) (pa_cons pe_int pa_nil)))) (pg_sub (pv 4) (pe_d D__law_draw (hr.mono (by decide)) (by rfl) (pa_cons (pv 0) (pa_cons (pe_callB call_len (by rfl) T.b_len (by decide +kernel) (pa_cons (pv 4) pa_nil)) pa_nil))) set_list))) pss_nil)
      (pss_one (ps_expr (pe_bm PySem.F.plainAttrs_list PySem.F.slot_list_append PySem.F.type_list_append mt_append (pv 2) (pa_cons (pe_callTy call_tuple_of (by rfl) T.b_tuple (by decide +kernel) (pa_cons (pv 4) pa_nil)) pa_nil)))))))
      (pss_one (ps_ret (pe_callTy call_tuple_of (by rfl) T.b_tuple (by decide +kernel) (pa_cons (pv 2) pa_nil)))))), ?_⟩
    obtain ⟨pw, pq, xq, rfl, hpw, hpq, hAq⟩ := web_at hv
    refine ⟨Nat.zero_le _, fun Bl hBl => ?_⟩
    have BlD := (d.free hBl).1
    refine ⟨_, rfl, pw, _, _, _, rfl, rfl, same_t (same_new hBl) hpw, atI_nat (j := 1) rfl, ?_⟩
    refine ⟨pq, rfl, ⟨_, same_t (same_new hBl) hpq⟩, for_tup (K := K) (a := pq) (xs := xq) (fun i σ H' => ∃ (B : List (List Int)) (y3 y4 y5 : Option V) (zs : List V), σ = [some (.ref D), some (.ref pw), some (.ref Bl), y3, y4, y5] ∧ Go S D H H' ∧ H' Bl = some (.lst zs) ∧ DpAll K H' zs (B.map dI) ∧ B.length = i ∧ Few 20 B) ⟨[], _, _, _, [], rfl, Go.new d hBl, upd_same, .nil, rfl, ⟨Nat.zero_le _, fun _ h => absurd h List.not_mem_nil, fun _ h => absurd h List.not_mem_nil⟩⟩ (fun i σ H' _ ⟨_, _, _, _, _, _, g, _⟩ => sqt_keep (Go.keepT d g) hpq) ?_ ?_⟩
    · rintro i x σ H7 hi ⟨B, y6, y7, y8, zs, rfl, g7, hB7, hz, hBl', few⟩
      obtain ⟨r, er, dr⟩ := dpA_mem hAq hi
      obtain ⟨pr, xr, rfl, hpr, hAr⟩ := dp_tup dr
      have xrl := dpA_len hAr
      rw [List.length_map] at xrl
      have d7 := g7.1
      have zl := dpA_len hz
      rw [List.length_map] at zl
      have iW := (List.getElem?_eq_some_iff.mp er).1
      have r3 := okW.row r (List.mem_of_getElem? er)
      have hpr7 := sqt_keep (Go.keepT d g7) hpr
      refine ⟨_, rfl, pr, rfl, ⟨_, hpr7⟩, fun Lp hLp => lc_tup (K := K) (a := pr) (xs := xr) (fun j H' => ∃ ns : List Int, Go S D H7 H' ∧ H' Lp = some (.lst (ns.map V.int)) ∧ ns.length = j ∧ ∀ n ∈ ns, n.natAbs ≤ 10 ^ 30 + 1000) ⟨[], Go.new d7 hLp, upd_same, rfl, fun _ h => absurd h List.not_mem_nil⟩ (fun j H' _ ⟨_, g, _⟩ => sqt_keep (Go.keepT d7 g) hpr7) ?_ ?_⟩
      · rintro j x H8 hj ⟨ns, g8, hL8, nl, nb⟩
        have LpD := (d7.free hLp).1
        refine ⟨rfl, _, rfl, S, D, rfl, g8.1, fun H9 n g9 n0 n1 => ⟨_, g9.2 _ _ hL8 LpD, by rw [List.length_map]; exact line6 (by have := (List.getElem?_eq_some_iff.mp hj).1; omega), ns ++ [n], goU hLp d7 (g8.trans g9), by rw [upd_same, List.map_append]; rfl, by rw [List.length_append, List.length_singleton, nl], fun y hy => ?_⟩⟩
        rcases List.mem_append.mp hy with h | h
        · exact nb y h
        · rw [List.mem_singleton.mp h]
          omega
      · rintro H8 ⟨ns, g8, hL8, nl, nb⟩
        have LpD := (d7.free hLp).1
        rw [xrl] at nl
        refine ⟨fun σ H' => ∃ ns : List Int, σ = [some (.ref D), some (.ref pw), some (.ref Bl), some (.ref pr), some (.ref Lp), y8] ∧ Go S D H7 H' ∧ H' Lp = some (.lst (ns.map V.int)) ∧ ns.length = r.length ∧ ∀ n ∈ ns, n.natAbs ≤ 10 ^ 30 + 1000, ?_, ?_⟩
        · refine ⟨_, rfl, Lp, ns, rfl, SqL.of hL8, rfl, _, rfl, ite2 (fun e => ?_) (fun e => ?_)⟩
          · refine ⟨_, rfl, S, D, _, rfl, divW_of (by decide) (by decide), g8.1, fun H9 a a0 a1 g9 => ?_⟩
            have hL9 := g9.2 _ _ hL8 LpD
            refine ⟨_, _, rfl, rfl, _, rfl, _, rfl, _, rfl, _, _, rfl, .inl ⟨_, SqL.of hL9, rfl⟩, S, D, _, rfl, divW_of (by rw [List.length_map]; omega) (by rw [List.length_map]; omega), g9.1, fun HA k k0 k1 gA => ?_⟩
            rw [List.length_map] at k1
            have hLA := gA.2 _ _ hL9 LpD
            have kl : k.toNat < ns.length := by omega
            have ek : ((k.toNat : Nat) : Int) = k := by omega
            refine ⟨Lp, _, k, k.toNat, rfl, rfl, hLA, ?_, ns.set k.toNat (1 + a), rfl, goU hLp d7 (g8.trans (g9.trans gA)), by rw [upd_same, List.map_set], by rw [List.length_set, nl], fun x hx => ?_⟩
            · rw [List.length_map, ← ek]
              exact Evl.ixN_nat kl
            · rcases List.mem_or_eq_of_mem_set hx with h | h
              · exact nb x h
              · omega
          · exact ⟨ns, rfl, g8, hL8, nl, nb⟩
        · rintro σ H9 ⟨ns, rfl, g9, hL9, nl, nb⟩
          have hB9 := g9.2 _ _ hB7 BlD
          have hz9 := dpA_keep (Go.keepT d7 g9) _ _ (noLs_of dI_noL B) hz
          refine ⟨_, rfl, .inl ⟨rfl, _, SqL.of hB9⟩, ?_⟩
          refine ⟨_, rfl, Lp, _, rfl, .inl ⟨SqL.of hL9, fun pt hpt => ?_⟩⟩
          obtain ⟨sA, dA⟩ := new_tup (K := K) hpt (ints_dp ns)
          have gA := Go.same g9.1 sA
          have hBA := sA _ _ hB9
          have hzA := dpA_same sA _ _ hz9
          generalize upd H9 pt (.tup (ns.map V.int)) = HA at sA dA gA hBA hzA
          have kB := keepT_nt (o := .lst (zs ++ [.ref pt])) (nt_lst _) hBA
          refine ⟨Bl, zs, _, rfl, rfl, hBA, line6 (by omega), B ++ [ns], _, _, _, zs ++ [.ref pt], rfl, goU hBl d (g7.trans (g9.trans gA)), upd_same, ?_, by rw [List.length_append, List.length_singleton, hBl'], ⟨by rw [List.length_append, List.length_singleton]; omega, fun l hl => ?_, fun l hl => ?_⟩⟩
          · rw [List.map_append]
            exact dpA_snoc (dpA_keep kB _ _ (noLs_of dI_noL B) hzA) (dp_keep kB _ _ (dI_noL ns) dA)
          · rcases List.mem_append.mp hl with h | h
            · exact few.row l h
            · rw [List.mem_singleton.mp h]
              omega
          · rcases List.mem_append.mp hl with h | h
            · exact few.big l h
            · rw [List.mem_singleton.mp h]
              exact nb
    · rintro σ H7 ⟨B, y6, y7, y8, zs, rfl, g7, hB7, hz, hBl', few⟩
      refine ⟨_, rfl, Bl, zs, rfl, .inl ⟨SqL.of hB7, fun b hb => ?_⟩⟩
      obtain ⟨s8, d8⟩ := new_tup (K := K) hb hz
      exact q _ _ B (g7.trans (Go.same g7.1 s8)) d8 few
end
end Mt
namespace Mt
open PySem PySem.Spec PyProof.Rows L2
theorem listOfT {X : Cx} {K : PySem.W.Frag} (h : X.K = K) : CallR X (.type "list") (fun xs H Q => ∃ p ys, xs = [.ref p] ∧ (SqL K H p ys ∨ SqT K H p ys) ∧ ∀ l, H l = none → Q (.ref l) (upd H l (.lst ys))) := h ▸ call_list_of
/-! ### lists of lists, their addresses apart -/
structure RF (H : Hp) (R : Addr) (ps : List Addr) (B : Bd) : Prop where
  r : H R = some (.lst (ps.map V.ref))
  len : ps.length = B.length
  row : ∀ (i : Nat) (p : Addr) (l : List Int), ps[i]? = some p → B[i]? = some l → H p = some (.lst (l.map V.int))
structure RL (H0 H : Hp) (R : Addr) (ps : List Addr) (B : Bd) : Prop extends RF H R ps B where
  nd : ps.Nodup
  new : ∀ p ∈ ps, H0 p = none
  ne : ∀ p ∈ ps, p ≠ R
  rn : H0 R = none
section
variable {H0 H H1 : Hp} {R p q S D : Addr} {ps : List Addr} {B : Bd} {l : List Int} {i j : Nat}
theorem RF.at_ (h : RF H R ps B) (hi : i < B.length) : ∃ p l, ps[i]? = some p ∧ B[i]? = some l ∧ H p = some (.lst (l.map V.int)) := by
  have h1 : ps[i]? = some (ps[i]'(by rw [h.len]; exact hi)) := List.getElem?_eq_getElem _
  have h2 : B[i]? = some B[i] := List.getElem?_eq_getElem hi
  exact ⟨_, _, h1, h2, h.row _ _ _ h1 h2⟩
theorem RL.go (d : DrawAt S D H0) (h : RL H0 H R ps B) (g : Go S D H H1) : RL H0 H1 R ps B where
  r := g.2 _ _ h.r (d.free h.rn).1
  len := h.len
  row := fun i p l h1 h2 => g.2 _ _ (h.row i p l h1 h2) (d.free (h.new p (List.mem_of_getElem? h1))).1
  nd := h.nd
  new := h.new
  ne := h.ne
  rn := h.rn
theorem RF.setRow (h : RF H R ps B) (hne : ∀ q ∈ ps, q ≠ R) (hp : H p = some (.lst (l.map V.int))) (hpR : p ≠ R) (hi : i < B.length) : RF (upd H R (.lst ((ps.map V.ref).set i (.ref p)))) R (ps.set i p) (B.set i l) where
  r := by rw [upd_same, List.map_set]
  len := by rw [List.length_set, List.length_set, h.len]
  row := fun k q m h1 h2 => by
    have hl := h.len
    rw [List.getElem?_set] at h1 h2
    by_cases c : i = k
    · subst c
      rw [if_pos rfl, if_pos (by omega)] at h1 h2
      cases h1
      cases h2
      rw [upd_ne hpR]
      exact hp
    · rw [if_neg c] at h1 h2
      rw [upd_ne (hne q (List.mem_of_getElem? h1))]
      exact h.row k q m h1 h2
theorem RL.mut (h : RL H0 H R ps B) (hp : ps[i]? = some p) : RF (upd H p (.lst (l.map V.int))) R ps (B.set i l) where
  r := by
    rw [upd_ne (h.ne p (List.mem_of_getElem? hp)).symm]
    exact h.r
  len := by rw [List.length_set, h.len]
  row := fun k q m h1 h2 => by
    have hl := h.len
    rw [List.getElem?_set] at h2
    have hi := (List.getElem?_eq_some_iff.mp hp).1
    by_cases c : i = k
    · subst c
      rw [if_pos rfl, if_pos (by omega)] at h2
      rw [hp] at h1
      cases h1
      cases h2
      exact upd_same
    · rw [if_neg c] at h2
      have ne : q ≠ p := fun e => by
        rw [e] at h1
        exact c ((List.getElem?_inj hi h.nd).mp (hp.trans h1.symm))
      rw [upd_ne ne]
      exact h.row k q m h1 h2
theorem RF.erase (h : RF H R ps B) (hne : ∀ q ∈ ps, q ≠ R) (hi : i < B.length) : RF (upd H R (.lst ((ps.map V.ref).eraseIdx i))) R (ps.eraseIdx i) (B.eraseIdx i) where
  r := by
    rw [upd_same]
    first
      | rw [List.eraseIdx_map]
      | rw [List.map_eraseIdx]
      | simp [List.eraseIdx_eq_take_drop_succ]
  len := by
    have := h.len
    rw [List.length_eraseIdx_of_lt (by omega), List.length_eraseIdx_of_lt (by omega), h.len]
  row := fun k q m h1 h2 => by
    rw [List.getElem?_eraseIdx] at h1 h2
    by_cases c : k < i
    · rw [if_pos c] at h1 h2
      rw [upd_ne (hne q (List.mem_of_getElem? h1))]
      exact h.row k q m h1 h2
    · rw [if_neg c] at h1 h2
      rw [upd_ne (hne q (List.mem_of_getElem? h1))]
      exact h.row (k + 1) q m h1 h2
theorem ins_get {α : Type} {xs : List α} {x : α} {i k : Nat} (hi : i ≤ xs.length) : (xs.take i ++ [x] ++ xs.drop i)[k]? = if k < i then xs[k]? else if k = i then some x else xs[k - 1]? := by
  have hl : (xs.take i).length = i := by rw [List.length_take]; omega
  by_cases c : k < i
  · rw [if_pos c, List.getElem?_append_left (by rw [List.length_append, hl]; omega), List.getElem?_append_left (by omega), List.getElem?_take, if_pos c]
  · rw [if_neg c]
    by_cases c2 : k = i
    · subst c2
      rw [if_pos rfl, List.getElem?_append_left (by rw [List.length_append, hl]; simp), List.getElem?_append_right (by omega), hl, Nat.sub_self]
      rfl
    · rw [if_neg c2, List.getElem?_append_right (by rw [List.length_append, hl]; simp; omega), List.length_append, hl, List.getElem?_drop]
      congr 1
      simp
      omega
theorem RF.ins (h : RF H R ps B) (hne : ∀ q ∈ ps, q ≠ R) (hp : H p = some (.lst (l.map V.int))) (hpR : p ≠ R) (hi : i ≤ B.length) : RF (upd H R (.lst ((ps.map V.ref).take i ++ [V.ref p] ++ (ps.map V.ref).drop i))) R (ps.take i ++ [p] ++ ps.drop i) (B.take i ++ [l] ++ B.drop i) where
  r := by
    rw [upd_same]
    simp [List.map_take, List.map_drop]
  len := by
    have := h.len
    simp
    omega
  row := fun k q m h1 h2 => by
    have hl := h.len
    rw [ins_get (by omega)] at h1 h2
    by_cases c : k < i
    · rw [if_pos c] at h1 h2
      rw [upd_ne (hne q (List.mem_of_getElem? h1))]
      exact h.row k q m h1 h2
    · rw [if_neg c] at h1 h2
      by_cases c2 : k = i
      · rw [if_pos c2] at h1 h2
        cases h1
        cases h2
        rw [upd_ne hpR]
        exact hp
      · rw [if_neg c2] at h1 h2
        rw [upd_ne (hne q (List.mem_of_getElem? h1))]
        exact h.row _ q m h1 h2
theorem RL.snoc (h : RL H0 H R ps B) (s : Same H0 (upd H p (.lst (l.map V.int)))) (hp : H p = none) (h0 : H0 p = none) : RL H0 (upd (upd H p (.lst (l.map V.int))) R (.lst (ps.map V.ref ++ [.ref p]))) R (ps ++ [p]) (B ++ [l]) where
  r := by
    rw [upd_same, List.map_append]
    rfl
  len := by rw [List.length_append, List.length_append, h.len]; rfl
  row := fun k q m h1 h2 => by
    have hl := h.len
    have hpR : p ≠ R := fun e => by
      rw [e, h.r] at hp
      cases hp
    by_cases c : k < ps.length
    · rw [List.getElem?_append_left c] at h1
      rw [List.getElem?_append_left (by omega)] at h2
      have hq := h.row k q m h1 h2
      rw [upd_ne (h.ne q (List.mem_of_getElem? h1)), upd_ne (ne_of_none hq hp)]
      exact hq
    · have hk := (List.getElem?_eq_some_iff.mp h1).1
      rw [List.length_append, List.length_singleton] at hk
      rw [List.getElem?_append_right (by omega)] at h1 h2
      have e1 : k - ps.length = 0 := by omega
      have e2 : k - B.length = 0 := by omega
      rw [e1] at h1
      rw [e2] at h2
      cases h1
      cases h2
      rw [upd_ne hpR, upd_same]
  nd := by
    refine List.nodup_append.mpr ⟨h.nd, by simp, fun x hx y hy => ?_⟩
    rw [List.mem_singleton.mp hy]
    rintro rfl
    obtain ⟨k, hk⟩ := List.mem_iff_getElem?.mp hx
    have hk2 := (List.getElem?_eq_some_iff.mp hk).1
    have hl := h.len
    have := h.row k x (B[k]'(by omega)) hk (List.getElem?_eq_getElem _)
    rw [hp] at this
    cases this
  new := fun q hq => by
    rcases List.mem_append.mp hq with e | e
    · exact h.new q e
    · rw [List.mem_singleton.mp e]
      exact h0
  ne := fun q hq => by
    rcases List.mem_append.mp hq with e | e
    · exact h.ne q e
    · rw [List.mem_singleton.mp e]
      intro e
      rw [e, h.r] at hp
      cases hp
  rn := h.rn
theorem Few.up {n : Nat} (h : Few n B) : Few (n + 1) B := ⟨by have := h.len; omega, fun l hl => by have := h.row l hl; omega, h.big⟩
theorem Few.set {n : Nat} (h : Few n B) (hl : l.length ≤ n + 1) (hb : ∀ x ∈ l, x.natAbs ≤ 10 ^ 30 + 1000) : Few (n + 1) (B.set i l) :=
  ⟨by rw [List.length_set]; exact h.up.len, fun m hm => by
    rcases List.mem_or_eq_of_mem_set hm with e | e
    · exact h.up.row m e
    · rw [e]
      exact hl, fun m hm => by
    rcases List.mem_or_eq_of_mem_set hm with e | e
    · exact h.big m e
    · rw [e]
      exact hb⟩
theorem Few.set2 {n : Nat} (h : Few n B) {m : List Int} (hl : l ∈ B) (hm : m ∈ B) : Few (n + 1) ((B.set i l).set j m) := by
  have h1 : Few n (B.set i l) := ⟨by rw [List.length_set]; exact h.len, fun m hm => by
    rcases List.mem_or_eq_of_mem_set hm with e | e
    · exact h.row m e
    · rw [e]
      exact h.row l hl, fun m hm => by
    rcases List.mem_or_eq_of_mem_set hm with e | e
    · exact h.big m e
    · rw [e]
      exact h.big l hl⟩
  exact h1.set (by have := h.row m hm; omega) (h.big m hm)
theorem Few.erase {n : Nat} (h : Few n B) : Few (n + 1) (B.eraseIdx i) := ⟨Nat.le_trans (List.length_eraseIdx_le ..) h.up.len, fun m hm => h.up.row m (List.mem_of_mem_eraseIdx hm), fun m hm => h.big m (List.mem_of_mem_eraseIdx hm)⟩
theorem Few.ins {n : Nat} (h : Few n B) (hl : l ∈ B) : Few (n + 1) (B.take i ++ [l] ++ B.drop i) := by
  have mem : ∀ m ∈ B.take i ++ [l] ++ B.drop i, m ∈ B := fun m hm => by
    rcases List.mem_append.mp hm with e | e
    · rcases List.mem_append.mp e with e | e
      · exact List.mem_of_mem_take e
      · rw [List.mem_singleton.mp e]
        exact hl
    · exact List.mem_of_mem_drop e
  refine ⟨?_, fun m hm => h.up.row m (mem m hm), fun m hm => h.big m (mem m hm)⟩
  have := h.len
  simp
  omega
end
def spSpoil (K : PySem.W.Frag) : Sp := fun vs H Q _ => ∃ (S D : Addr) (v : V) (B : Bd) (n : Nat), vs = [.ref D, v] ∧ DrawAt S D H ∧ Dp K H v (dBd B) ∧ Few n B ∧ n ≤ 40 ∧ ∀ H' v' B', Go S D H H' → Dp K H' v' (dBd B') → Few (n + 1) B' → Q v' H'
section
variable {P : Program} {w : World} {K : PySem.W.Frag} {mg : Str → Option Value} {base : Heap}
theorem ok__law_spoiled (T : Txt K mg) (D__law_draw : Kept P w K mg base 1 "_law_draw" ["d", "many"] spDraw) (D__law_integer : Kept P w K mg base 3 "_law_integer" ["d"] spInteger) {f : Addr} {fd : FuncData} (F : FnP K "_law_spoiled" s__law_spoiled f fd) : FnOk P w K mg base CX0 4 f fd ["d", "bend"] (spSpoil K) := by
  refine F.ok sc__law_spoiled (fun vs H Q E h => ?_) (fun cdv A outer s H vs Q E hr h => ?_)
  · obtain ⟨S, D, v, B, n, rfl, _⟩ := h
    rfl
  · obtain ⟨S, D, v, B, n, rfl, d, hv, few, hn, q⟩ := h
    refine ⟨_, PSs.nox (pss_cons (ps_setLc (i := 2) (own := [("parts", 3)]) (g := (gName 3)) (tt := tYes) rfl sc__law_spoiled.nd rfl rfl (sw_true rfl rfl rfl (by decide +kernel)) (pi_tup (pv 1)) (blkOk_by (N := N__law_spoiled) (sc := defScope s__law_spoiled) (by decide +kernel)) (fun _ _ _ _ _ => (pg_name (i := 3) sc__law_spoiled.nd rfl (Or.inl rfl))) (fun _ _ _ _ _ => pts_nil) (fun _ _ _ _ _ => (pe_callTy (listOfT (K := K) rfl) (by rfl) T.b_list (by decide +kernel) (pa_cons (pv 3) pa_nil))))
      (pss_cons (ps_set (i := 4) sc__law_spoiled.nd rfl (Or.inl rfl) (pe_d D__law_draw (hr.mono (by decide)) (by rfl) (pa_cons (pv 0) (pa_cons pe_int pa_nil))))
      (pss_cons (ps_if (pt_cmpR op_eq (pe_callB call_len (by rfl) T.b_len (by decide +kernel) (pa_cons (pv 2) pa_nil)) pe_int (nomark _)) (pss_one (ps_ret (pe_tup (pa_cons (pe_tup (pa_cons pe_int pa_nil)) pa_nil)))) pss_nil)
      (pss_cons (ps_if (pt_cmpR op_eq (pv 4) pe_int (nomark _)) (pss_one (ps_ret (pe_tup pa_nil))) pss_nil)
      (pss_cons (ps_set (i := 5) sc__law_spoiled.nd rfl (Or.inl rfl) (pe_d D__law_draw (hr.mono (by decide)) (by rfl) (pa_cons (pv 0) (pa_cons (pe_callB call_len (by rfl) T.b_len (by decide +kernel) (pa_cons (pv 2) pa_nil)) pa_nil))))
      (Evl.pss_cut (ps_if (pt_cmpR op_eq (pv 4) pe_int (nomark _)) (pss_one (ps_expr (pe_bm PySem.F.plainAttrs_list PySem.F.slot_list_pop PySem.F.type_list_pop mt_popAt (pv 2) (pa_cons (pv 5) pa_nil)))) (pss_one (ps_if (pt_cmpR op_eq (pv 4) pe_int (nomark _)) (pss_one (ps_expr (pe_bm PySem.F.plainAttrs_list PySem.F.slot_list_insert PySem.F.type_list_insert mt_insert (pv 2) (pa_cons (pe_d D__law_draw (hr.mono (by decide)) (by rfl) (pa_cons (pv 0) (pa_cons (pe_op op_add (pe_callB call_len (by rfl) T.b_len (by decide +kernel) (pa_cons (pv 2) pa_nil)) pe_int) pa_nil))) (pa_cons (pe_callTy call_list_of (by rfl) T.b_list (by decide +kernel) (pa_cons (pe_ix ix_list (pv 2) (pv 5) (fun _ _ => rfl)) pa_nil)) pa_nil))))) (pss_one (ps_if (pt_cmpR op_eq (pv 4) pe_int (nomark _)) (pss_cons (ps_set (i := 6) sc__law_spoiled.nd rfl (Or.inl rfl) (pe_d D__law_draw (hr.mono (by decide)) (by rfl) (pa_cons (pv 0) (pa_cons (pe_callB call_len (by rfl) T.b_len (by decide +kernel) (pa_cons (pv 2) pa_nil)) pa_nil))))
      (pss_cons (ps_set (i := 7) sc__law_spoiled.nd rfl (Or.inl rfl) (pe_ix ix_list (pv 2) (pv 5) (fun _ _ => rfl)))
      (pss_cons (ps_asg (pe_ix ix_list (pv 2) (pv 6) (fun _ _ => rfl)) (pg_sub (pv 2) (pv 5) set_list))
      (pss_one (ps_asg (pv 7) (pg_sub (pv 2) (pv 6) set_list)))))) (pss_one (ps_if (pt_cmpR op_eq (pv 4) pe_int (nomark _)) (pss_one (ps_asg (pe_lc (own := [("part", 8)]) (g := (gName 8)) (tt := tYes) rfl sc__law_spoiled.nd (pi_list (pe_ix ix_list (pv 2) (pv 5) (fun _ _ => rfl))) (blkOk_by (N := N__law_spoiled) (sc := defScope s__law_spoiled) (by decide +kernel)) (fun _ _ _ _ _ => (pg_name (i := 8) sc__law_spoiled.nd rfl (Or.inl rfl))) (fun _ _ _ _ _ => pts_nil) (fun _ _ _ _ _ => pe_int)) (pg_sub (pv 2) (pv 5) set_list))) (pss_one (ps_if (pt_cmpR op_eq (pv 4) pe_int (nomark _)) (pss_one (ps_asg (pe_lst pa_nil) (pg_sub (pv 2) (pv 5) set_list))) (pss_one (ps_if (pt_cmpR op_eq (pv 4) pe_int (nomark _)) (pss_one (ps_expr (pe_bm PySem.F.plainAttrs_list PySem.F.slot_list_insert PySem.F.type_list_insert mt_insert (pe_ix ix_list (pv 2) (pv 5) (fun _ _ => rfl)) (pa_cons (pe_d D__law_draw (hr.mono (by decide)) (by rfl) (pa_cons (pv 0) (pa_cons (pe_op op_add (pe_callB call_len (by rfl) T.b_len (by decide +kernel) (pa_cons (pe_ix ix_list (pv 2) (pv 5) (fun _ _ => rfl)) pa_nil)) pe_int) pa_nil))) (pa_cons (pe_d D__law_integer (hr.mono (by decide)) (by rfl) (pa_cons (pv 0) pa_nil)) pa_nil))))) (pss_one (ps_if (pt_cmpR op_gt (pe_callB call_len (by rfl) T.b_len (by decide +kernel) (pa_cons (pe_ix ix_list (pv 2) (pv 5) (fun _ _ => rfl)) pa_nil)) pe_int (nomark _)) (pss_cons (ps_set (i := 9) sc__law_spoiled.nd rfl (Or.inl rfl) (pe_d D__law_draw (hr.mono (by decide)) (by rfl) (pa_cons (pv 0) (pa_cons (pe_callB call_len (by rfl) T.b_len (by decide +kernel) (pa_cons (pe_ix ix_list (pv 2) (pv 5) (fun _ _ => rfl)) pa_nil)) pa_nil))))
      (pss_one (ps_if (pt_cmpR op_eq (pv 4) pe_int (nomark _)) (pss_one (ps_expr (pe_bm PySem.F.plainAttrs_list PySem.F.slot_list_pop PySem.F.type_list_pop mt_popAt (pe_ix ix_list (pv 2) (pv 5) (fun _ _ => rfl)) (pa_cons (pv 9) pa_nil)))) (pss_one (ps_if (pt_cmpR op_eq (pv 4) pe_int (nomark _)) (pss_one (ps_asg (pe_op op_sub (pe_un un_neg pe_int) (pe_op op_mul (pe_d D__law_draw (hr.mono (by decide)) (by rfl) (pa_cons (pv 0) (pa_cons pe_int pa_nil))) (pe_d D__law_draw (hr.mono (by decide)) (by rfl) (pa_cons (pv 0) (pa_cons pe_int pa_nil))))) (pg_sub (pe_ix ix_list (pv 2) (pv 5) (fun _ _ => rfl)) (pv 9) set_list))) (pss_one (ps_if (pt_cmpR op_eq (pv 4) pe_int (nomark _)) (pss_one (ps_asg pe_int (pg_sub (pe_ix ix_list (pv 2) (pv 5) (fun _ _ => rfl)) (pv 9) set_list))) (pss_one (ps_asg (pe_d D__law_integer (hr.mono (by decide)) (by rfl) (pa_cons (pv 0) pa_nil)) (pg_sub (pe_ix ix_list (pv 2) (pv 5) (fun _ _ => rfl)) (pv 9) set_list)))))))))) pss_nil)))))))))))))
      (pss_one (ps_ret (pe_callTy call_tuple_of (by rfl) T.b_tuple (by decide +kernel) (pa_cons (pe_lc (own := [("parts", 3)]) (g := (gName 3)) (tt := tYes) rfl sc__law_spoiled.nd (pi_list (pv 2)) (blkOk_by (N := N__law_spoiled) (sc := defScope s__law_spoiled) (by decide +kernel)) (fun _ _ _ _ _ => (pg_name (i := 3) sc__law_spoiled.nd rfl (Or.inl rfl))) (fun _ _ _ _ _ => pts_nil) (fun _ _ _ _ _ => (pe_callTy (tupOfT (K := K) rfl) (by rfl) T.b_tuple (by decide +kernel) (pa_cons (pv 3) pa_nil)))) pa_nil)))))))))), ?_⟩
    obtain ⟨pb, xb, rfl, hpb, hAb⟩ := dp_tup hv
    have bl := dpA_len hAb
    rw [List.length_map] at bl
    have fl := few.len
    refine ⟨_, rfl, pb, rfl, ⟨_, hpb⟩, fun R hR => lc_tup (K := K) (a := pb) (xs := xb) (fun i H' => ∃ ps : List Addr, Same H H' ∧ RL H H' R ps (B.take i)) ⟨[], same_new hR, ⟨⟨upd_same, rfl, fun _ _ _ h => (nomatch h)⟩, List.nodup_nil, fun _ h => absurd h List.not_mem_nil, fun _ h => absurd h List.not_mem_nil, hR⟩⟩ (fun i H' _ ⟨_, s, _⟩ => same_t s hpb) ?_ ?_⟩
    · rintro i x H1 hi ⟨ps, s1, h1⟩
      obtain ⟨l, el, dl⟩ := dpA_mem hAb hi
      obtain ⟨pl, rfl, hpl⟩ := i_at dl
      have il := (List.getElem?_eq_some_iff.mp el).1
      refine ⟨rfl, _, rfl, pl, _, rfl, .inr (same_t s1 hpl), fun p hp => ?_⟩
      have s2 := s1.trans (same_new (o := .lst (l.map V.int)) hp)
      have h0 : H p = none := by
        cases z : H p with
        | none => rfl
        | some o =>
          rw [s1 _ _ z] at hp
          cases hp
      have h2 := h1.snoc s2 hp h0
      have hne : R ≠ p := ne_of_none h1.r hp
      refine ⟨_, by rw [upd_ne hne]; exact h1.r, ?_, ps ++ [p], same_mut s2 hR, ?_⟩
      · rw [List.length_map, h1.len, List.length_take]
        exact line6 (by omega)
      · rw [List.take_add_one, el]
        exact h2
    · rintro H1 ⟨ps, s1, h1⟩
      rw [List.take_of_length_le (by omega)] at h1
      have g1 : Go S D H H1 := Go.same d s1
      have RD := (d.free hR).1
      refine ⟨_, rfl, S, D, _, rfl, divW_of (by decide) (by decide), g1.1, fun H2 kd k0 k1 g2 => ?_⟩
      have h2 := h1.go d g2
      have g2 := g1.trans g2
      refine ⟨_, rfl, _, _, rfl, .inl ⟨_, SqL.of h2.r, rfl⟩, rfl, _, rfl, ite2 (fun _ => ?_) (fun e => ?_)⟩
      · refine ⟨z1, fun p1 hp1 => ⟨z1, fun p2 hp2 => ?_⟩⟩
        obtain ⟨sa, da⟩ := new_tup (K := K) (ds := [.int 1]) hp1 (.cons (.int 1) .nil)
        obtain ⟨sb, db⟩ := new_tup (K := K) hp2 (.cons da .nil)
        refine q _ _ [[1]] (g2.trans (Go.same g2.1 (sa.trans sb))) db ⟨by show 1 ≤ n + 1; omega, fun l hl => ?_, fun l hl => ?_⟩
        · rw [List.mem_singleton.mp hl]
          show 1 ≤ n + 1
          omega
        · rw [List.mem_singleton.mp hl]
          intro x hx
          rw [List.mem_singleton.mp hx]
          decide
      · have e : ¬ decide (V.int (((ps.map V.ref).length : Nat) : Int) = V.int 0) = true := e
        have bp : 0 < B.length := by
          rcases Nat.eq_zero_or_pos B.length with z | z
          · rw [List.length_map, h2.len, z] at e
            exact absurd rfl e
          · exact z
        refine ⟨_, rfl, rfl, _, rfl, ite2 (fun _ => ?_) (fun _ => ?_)⟩
        · exact ⟨Nat.zero_le _, fun p hp => q _ _ [] (g2.trans (Go.new g2.1 hp)) (.tup (SqT.of upd_same) .nil) ⟨Nat.zero_le _, fun _ h => absurd h List.not_mem_nil, fun _ h => absurd h List.not_mem_nil⟩⟩
        · have lenR : ((ps.map V.ref).length : Int) = B.length := by rw [List.length_map, h2.len]
          refine ⟨_, rfl, _, rfl, _, _, rfl, .inl ⟨_, SqL.of h2.r, rfl⟩, S, D, _, rfl, divW_of (by omega) (by omega), g2.1, fun H3 at_ a0 a1 g3 => ?_⟩
          have h3 := h2.go d g3
          have g3 := g2.trans g3
          obtain ⟨i, rfl⟩ : ∃ i : Nat, at_ = i := ⟨at_.toNat, by omega⟩
          have hi : i < B.length := by omega
          obtain ⟨p, l, ep, el, hp⟩ := h3.at_ hi
          have hlB := List.mem_of_getElem? el
          have hll := few.row l hlB
          have hlb := few.big l hlB
          have hpD : p ≠ D := (d.free (h3.new p (List.mem_of_getElem? ep))).1
          have hpN : H p = none := h3.new p (List.mem_of_getElem? ep)
          have hpR : p ≠ R := h3.ne p (List.mem_of_getElem? ep)
          have atR : atI (ps.map V.ref) (i : Int) = some (V.ref p) := atI_nat (by rw [List.getElem?_map, ep]; rfl)
          have xR : ixN (ps.map V.ref).length (i : Int) = some i := Evl.ixN_nat (by rw [List.length_map, h3.len]; exact hi)
          have fin : ∀ (y6 y7 y9 : Option V) (H' : Hp) (l' : List Int), Go S D H3 H' → l'.length ≤ n + 1 → (∀ x ∈ l', x.natAbs ≤ 10 ^ 30 + 1000) → ∀ o, o = l'.map V.int → ∃ (ps' : List Addr) (B' : Bd) (z6 z7 z9 : Option V), [some (V.ref D), some (V.ref pb), some (V.ref R), none, some (V.int kd), some (V.int (i : Int)), y6, y7, none, y9] = [some (.ref D), some (.ref pb), some (.ref R), none, some (.int kd), some (.int (i : Int)), z6, z7, none, z9] ∧ Go S D H (upd H' p (.lst o)) ∧ RF (upd H' p (.lst o)) R ps' B' ∧ Few (n + 1) B' := fun y6 y7 y9 H' l' g h1 h2 o ho => by
            subst ho
            exact ⟨ps, B.set i l', _, _, _, rfl, goU hpN d (g3.trans g), (h3.go d g).mut ep, few.set h1 h2⟩
          refine ⟨fun σ H' => ∃ (ps' : List Addr) (B' : Bd) (y6 y7 y9 : Option V), σ = [some (.ref D), some (.ref pb), some (.ref R), none, some (.int kd), some (.int (i : Int)), y6, y7, none, y9] ∧ Go S D H H' ∧ RF H' R ps' B' ∧ Few (n + 1) B', ?_, ?_⟩
          · refine ⟨_, rfl, rfl, _, rfl, ite2 (fun _ => ?_) (fun _ => ⟨_, rfl, rfl, _, rfl, ite2 (fun _ => ?_) (fun _ => ⟨_, rfl, rfl, _, rfl, ite2 (fun _ => ?_) (fun _ => ⟨_, rfl, rfl, _, rfl, ite2 (fun _ => ?_) (fun _ => ⟨_, rfl, rfl, _, rfl, ite2 (fun _ => ?_) (fun _ => ⟨_, rfl, rfl, _, rfl, ite2 (fun _ => ?_) (fun _ => ?_)⟩)⟩)⟩)⟩)⟩)⟩
            · refine ⟨_, rfl, .inl ⟨rfl, _, SqL.of h3.r⟩, _, rfl, R, _, _, i, .ref p, rfl, rfl, h3.r, by omega, by omega, ?_, by rw [List.getElem?_map, ep]; rfl, ps.eraseIdx i, B.eraseIdx i, _, _, _, rfl, goU hR d g3, h3.erase h3.ne hi, few.erase⟩
              exact (ixN_seq xR).1
            · refine ⟨_, rfl, .inl ⟨rfl, _, SqL.of h3.r⟩, _, rfl, _, rfl, _, _, rfl, .inl ⟨_, SqL.of h3.r, rfl⟩, _, _, rfl, rfl, S, D, _, rfl, divW_of (by omega) (by omega), g3.1, fun H4 k k0 k1 g4 => ?_⟩
              have h4 := h3.go d g4
              have hp4 := g4.2 _ _ hp hpD
              refine ⟨_, rfl, _, rfl, R, _, _, _, rfl, rfl, SqL.of h4.r, atR, p, _, rfl, .inl (SqL.of hp4), fun pn hpn => ?_⟩
              have g5 : Go S D H4 (upd H4 pn (.lst (l.map V.int))) := Go.new g4.1 hpn
              have h5 := h4.go d g5
              have hnR : pn ≠ R := (ne_of_none h4.r hpn).symm
              refine ⟨R, _, _, _, rfl, rfl, h5.r, ?_, k0, by omega, ps.take k.toNat ++ [pn] ++ ps.drop k.toNat, B.take k.toNat ++ [l] ++ B.drop k.toNat, _, _, _, rfl, goU hR d (g3.trans (g4.trans g5)), h5.ins h5.ne upd_same hnR (by omega), few.ins hlB⟩
              rw [List.length_map, h3.len]
              exact line6 (by omega)
            · refine ⟨_, rfl, _, rfl, _, _, rfl, .inl ⟨_, SqL.of h3.r, rfl⟩, S, D, _, rfl, divW_of (by omega) (by omega), g3.1, fun H4 b b0 b1 g4 => ?_⟩
              have h4 := h3.go d g4
              have hp4 := g4.2 _ _ hp hpD
              obtain ⟨j, rfl⟩ : ∃ j : Nat, b = j := ⟨b.toNat, by omega⟩
              have hj : j < B.length := by omega
              obtain ⟨p2, l2, ep2, el2, hp2⟩ := h4.at_ hj
              have hp2R : p2 ≠ R := h4.ne p2 (List.mem_of_getElem? ep2)
              have atR2 : atI (ps.map V.ref) (j : Int) = some (V.ref p2) := atI_nat (by rw [List.getElem?_map, ep2]; rfl)
              have xR2 : ixN ((ps.map V.ref).set i (.ref p2)).length (j : Int) = some j := Evl.ixN_nat (by rw [List.length_set, List.length_map, h3.len]; exact hj)
              have r1 := h4.setRow h4.ne hp2 hp2R hi
              have ne1 : ∀ q ∈ ps.set i p2, q ≠ R := fun q hq => by
                rcases List.mem_or_eq_of_mem_set hq with e | e
                · exact h4.ne q e
                · rw [e]
                  exact hp2R
              have r2 := r1.setRow ne1 (l := l) (p := p) (i := j) (by rw [upd_ne hpR]; exact hp4) hpR (by rw [List.length_set]; exact hj)
              rw [List.map_set] at r2
              exact ⟨_, rfl, _, rfl, R, _, _, _, rfl, rfl, SqL.of h4.r, atR, _, rfl, _, rfl, R, _, _, _, rfl, rfl, SqL.of h4.r, atR2, _, rfl, _, rfl, R, _, _, i, rfl, rfl, h4.r, xR, _, rfl, _, rfl, _, rfl, R, _, _, j, rfl, rfl, upd_same, xR2, _, _, _, _, _, rfl, goU hR d (goU hR d (g3.trans g4)), r2, few.set2 (List.mem_of_getElem? el2) hlB⟩
            · refine ⟨_, rfl, _, rfl, R, _, _, _, rfl, rfl, SqL.of h3.r, atR, p, rfl, ⟨_, SqL.of hp⟩, fun L hL => lc_list (xs := l.map V.int) (fun j H' => Same H3 H' ∧ H' L = some (.lst ((List.replicate j (0 : Int)).map V.int))) ⟨same_new hL, upd_same⟩ (fun j H' _ e => SqL.of (e.1 _ _ hp)) ?_ ?_⟩
              · rintro j x H4 hj ⟨s4, hL4⟩
                have hj' := (List.getElem?_eq_some_iff.mp hj).1
                rw [List.length_map] at hj'
                refine ⟨rfl, _, hL4, ?_, same_mut s4 hL, ?_⟩
                · rw [List.length_map, List.length_replicate]
                  exact line6 (by omega)
                · rw [upd_same, List.replicate_succ', List.map_append]
                  rfl
              · rintro H4 ⟨s4, hL4⟩
                have g4 := Go.same g3.1 s4
                have h4 := h3.go d g4
                have hLR : L ≠ R := (ne_of_none h3.r hL).symm
                refine ⟨_, rfl, _, rfl, R, _, _, i, rfl, rfl, h4.r, xR, _, _, _, _, _, rfl, goU hR d (g3.trans g4), h4.setRow h4.ne hL4 hLR hi, few.set ?_ fun x hx => ?_⟩
                · rw [List.length_replicate, List.length_map]
                  omega
                · rw [List.eq_of_mem_replicate hx]
                  decide
            · refine ⟨Nat.zero_le _, fun L hL => ?_⟩
              have g4 : Go S D H3 (upd H3 L (.lst [])) := Go.new g3.1 hL
              have h4 := h3.go d g4
              have hLR : L ≠ R := (ne_of_none h3.r hL).symm
              exact ⟨_, rfl, _, rfl, R, _, _, i, rfl, rfl, h4.r, xR, _, _, _, _, _, rfl, goU hR d (g3.trans g4), h4.setRow (l := []) h4.ne upd_same hLR hi, few.set (Nat.zero_le _) fun _ h => absurd h List.not_mem_nil⟩
            · refine ⟨_, rfl, _, rfl, R, _, _, _, rfl, rfl, SqL.of h3.r, atR, .inl ⟨rfl, _, SqL.of hp⟩, _, rfl, _, rfl, _, rfl, R, _, _, _, rfl, rfl, SqL.of h3.r, atR, _, _, rfl, .inl ⟨_, SqL.of hp, rfl⟩, _, _, rfl, rfl, S, D, _, rfl, divW_of (by omega) (by rw [List.length_map]; omega), g3.1, fun H4 k k0 k1 g4 => ?_⟩
              rw [List.length_map] at k1
              refine ⟨_, rfl, S, D, rfl, g4.1, fun H5 z g5 zz0 zz1 => ?_⟩
              have g35 := g4.trans g5
              refine ⟨p, _, _, _, rfl, rfl, g35.2 _ _ hp hpD, by rw [List.length_map]; exact line6 (by omega), k0, by omega, fin _ _ _ H5 (l.take k.toNat ++ [z] ++ l.drop k.toNat) g35 ?_ (fun x hx => ?_) _ ?_⟩
              · simp
                omega
              · rcases List.mem_append.mp hx with e | e
                · rcases List.mem_append.mp e with e | e
                  · exact hlb x (List.mem_of_mem_take e)
                  · rw [List.mem_singleton.mp e]
                    omega
                · exact hlb x (List.mem_of_mem_drop e)
              · simp [List.map_take, List.map_drop]
            · refine ⟨_, rfl, _, rfl, R, _, _, _, rfl, rfl, SqL.of h3.r, atR, _, _, rfl, .inl ⟨_, SqL.of hp, rfl⟩, _, _, rfl, rfl, _, rfl, ite2 (fun c => ?_) (fun _ => ⟨ps, B, _, _, _, rfl, g3, h3.toRF, few.up⟩)⟩
              have c : decide ((0 : Int) < (((l.map V.int).length : Nat) : Int)) = true := c
              have c := of_decide_eq_true c
              rw [List.length_map] at c
              refine ⟨_, rfl, _, rfl, _, rfl, R, _, _, _, rfl, rfl, SqL.of h3.r, atR, _, _, rfl, .inl ⟨_, SqL.of hp, rfl⟩, S, D, _, rfl, divW_of (by rw [List.length_map]; omega) (by rw [List.length_map]; omega), g3.1, fun H4 k k0 k1 g4 => ?_⟩
              rw [List.length_map] at k1
              obtain ⟨j, rfl⟩ : ∃ j : Nat, k = j := ⟨k.toNat, by omega⟩
              have hj : j < l.length := by omega
              have xL : ixN (l.map V.int).length (j : Int) = some j := Evl.ixN_nat (by rw [List.length_map]; exact hj)
              have h4 := h3.go d g4
              have hp4 := g4.2 _ _ hp hpD
              have fset : ∀ (y6 y7 : Option V) (H' : Hp) (z : Int), Go S D H3 H' → z.natAbs ≤ 10 ^ 30 + 1000 → rSetL (V.ref p) (V.int (j : Int)) (V.int z) H' fun H5 => ∃ (ps' : List Addr) (B' : Bd) (z6 z7 z9 : Option V), [some (V.ref D), some (V.ref pb), some (V.ref R), none, some (V.int kd), some (V.int (i : Int)), y6, y7, none, some (V.int (j : Int))] = [some (.ref D), some (.ref pb), some (.ref R), none, some (.int kd), some (.int (i : Int)), z6, z7, none, z9] ∧ Go S D H H5 ∧ RF H5 R ps' B' ∧ Few (n + 1) B' := fun y6 y7 H' z g hz =>
                ⟨p, _, _, j, rfl, rfl, g.2 _ _ hp hpD, xL, fin y6 y7 _ H' (l.set j z) g (by rw [List.length_set]; omega) (fun x hx => by
                  rcases List.mem_or_eq_of_mem_set hx with e | e
                  · exact hlb x e
                  · rw [e]
                    exact hz) _ (by rw [List.map_set])⟩
              refine ⟨_, rfl, rfl, _, rfl, ite2 (fun _ => ?_) (fun _ => ⟨_, rfl, rfl, _, rfl, ite2 (fun _ => ?_) (fun _ => ⟨_, rfl, rfl, _, rfl, ite2 (fun _ => ?_) (fun _ => ?_)⟩)⟩)⟩
              · have ej : l[j]? = some l[j] := List.getElem?_eq_getElem hj
                refine ⟨_, rfl, _, rfl, R, _, _, _, rfl, rfl, SqL.of h4.r, atR, .inl ⟨rfl, _, SqL.of hp4⟩, _, rfl, p, _, _, j, .int l[j], rfl, rfl, hp4, by omega, by omega, (ixN_seq xL).1, by rw [List.getElem?_map, ej]; rfl, fin _ _ _ H4 (l.eraseIdx j) g4 ?_ (fun x hx => hlb x (List.mem_of_mem_eraseIdx hx)) _ ?_⟩
                · have := List.length_eraseIdx_le l j
                  omega
                · first
                    | rw [List.eraseIdx_map]
                    | rw [List.map_eraseIdx]
                    | simp [List.eraseIdx_eq_take_drop_succ]
              · refine ⟨_, rfl, _, rfl, S, D, _, rfl, divW_of (by decide) (by decide), g4.1, fun H5 a a0 a1 g5 => ⟨_, rfl, S, D, _, rfl, divW_of (by decide) (by decide), g5.1, fun H6 b b0 b1 g6 => ?_⟩⟩
                have g36 := g4.trans (g5.trans g6)
                have h6 := h3.go d g36
                have hab : 0 ≤ a * b ∧ a * b ≤ 2 * 400000 := ⟨Int.mul_nonneg a0 b0, Int.mul_le_mul (by omega) (by omega) b0 (by decide)⟩
                exact ⟨a, b, rfl, rfl, .inl ⟨by omega, by omega⟩, _, _, rfl, rfl, _, rfl, _, rfl, R, _, _, _, rfl, rfl, SqL.of h6.r, atR, _, rfl, fset _ _ H6 _ g36 (by omega)⟩
              · exact ⟨_, rfl, _, rfl, R, _, _, _, rfl, rfl, SqL.of h4.r, atR, _, rfl, fset _ _ H4 0 g4 (by decide)⟩
              · refine ⟨_, rfl, S, D, rfl, g4.1, fun H5 z g5 zz0 zz1 => ?_⟩
                have g35 := g4.trans g5
                have h5 := h3.go d g35
                exact ⟨_, rfl, _, rfl, R, _, _, _, rfl, rfl, SqL.of h5.r, atR, _, rfl, fset _ _ H5 z g35 (by omega)⟩
          · rintro σ H4 ⟨ps', B', y6, y7, y9, rfl, g4, h4, few4⟩
            have l4 := few4.len
            refine ⟨_, rfl, R, rfl, ⟨_, SqL.of h4.r⟩, fun L hL => lc_list (xs := ps'.map V.ref) (fun k H' => Same H4 H' ∧ ∃ zs, H' L = some (.lst zs) ∧ DpAll K H' zs ((B'.take k).map dI)) ⟨same_new hL, [], upd_same, .nil⟩ (fun k H' _ e => SqL.of (e.1 _ _ h4.r)) ?_ ?_⟩
            · rintro k x H5 hk ⟨s5, zs, hL5, hA5⟩
              rw [List.getElem?_map] at hk
              obtain ⟨p', ep', rfl⟩ := Option.map_eq_some_iff.mp hk
              have kb : k < B'.length := by
                have := (List.getElem?_eq_some_iff.mp ep').1
                have := h4.len
                omega
              have eb : B'[k]? = some B'[k] := List.getElem?_eq_getElem kb
              generalize B'[k] = m at eb
              have hp5 := s5 _ _ (h4.row k p' m ep' eb)
              refine ⟨rfl, _, rfl, p', _, rfl, .inl ⟨SqL.of hp5, fun pt hpt => ?_⟩⟩
              obtain ⟨s6, d6⟩ := new_tup (K := K) hpt (ints_dp m)
              have hL6 := s6 _ _ hL5
              have hA6 := dpA_same s6 _ _ hA5
              have kL := keepT_nt (o := .lst (zs ++ [.ref pt])) (nt_lst _) hL6
              refine ⟨_, hL6, ?_, same_mut (s5.trans s6) hL, _, upd_same, ?_⟩
              · have := dpA_len hA6
                rw [List.length_map, List.length_take] at this
                exact line6 (by omega)
              · rw [List.take_add_one, eb, List.map_append]
                exact dpA_snoc (dpA_keep kL _ _ (noLs_of dI_noL _) hA6) (dp_keep kL _ _ (dI_noL m) d6)
            · rintro H5 ⟨s5, zs, hL5, hA5⟩
              rw [List.length_map, h4.len, List.take_length] at hA5
              refine ⟨L, zs, rfl, .inl ⟨SqL.of hL5, fun pt hpt => ?_⟩⟩
              obtain ⟨s6, d6⟩ := new_tup (K := K) hpt hA5
              exact q _ _ B' (g4.trans (Go.same g4.1 (s5.trans s6))) d6 few4
end
end Mt
namespace Mt
open PySem PySem.Spec PyProof.Rows L2
theorem pool_ok : ∀ z ∈ POOL, PyData.strOk z = true := by
  have : (POOL.all fun z => PyData.strOk z) = true := by decide +kernel
  exact List.all_eq_true.mp this
def spLawB (K : PySem.W.Frag) : Sp := fun vs H Q _ => ∃ (a : Addr) (ns : List Int), vs = [.ref a] ∧ SqL K H a (ns.map V.int) ∧ ns.length ≤ 63 ∧ H (BP K) = some (.tbl #[]) ∧ ∀ H', Q (.bl true) H'
theorem pvW_tup {ds : List PyData} (h : ds.length ≤ 1000) (h2 : ∀ d ∈ ds, pvW d = true) : pvW (.tuple ds) = true := by
  show (decide (ds.length ≤ 1000) && pvWs ds) = true
  rw [decide_eq_true h, pvWs_all h2]
  rfl
theorem dep_tup {ds : List PyData} {n : Nat} (h : ∀ d ∈ ds, dep d ≤ n) : dep (.tuple ds) ≤ n + 1 := Nat.succ_le_succ (deps_le h)
theorem pvW_map {α : Type} {f : α → PyData} {l : List α} (h : l.length ≤ 1000) (h2 : ∀ x ∈ l, pvW (f x) = true) : pvW (.tuple (l.map f)) = true :=
  pvW_tup (by rw [List.length_map]; exact h) fun d hd => by
    obtain ⟨x, hx, rfl⟩ := List.mem_map.mp hd
    exact h2 x hx
theorem dep_map {α : Type} {f : α → PyData} {l : List α} {n : Nat} (h : ∀ x ∈ l, dep (f x) ≤ n) : dep (.tuple (l.map f)) ≤ n + 1 :=
  dep_tup fun d hd => by
    obtain ⟨x, hx, rfl⟩ := List.mem_map.mp hd
    exact h x hx
theorem pvW_bent {W : Wb} {B : Bd} (h : WebOk W) : pvW (dBWeb W B) = true := by
  have few := h.few
  refine pvW_tup (by decide : 2 ≤ 1000) fun d hd => ?_
  rcases List.mem_cons.mp hd with rfl | hd
  · rfl
  rw [List.mem_singleton.mp hd]
  refine pvW_map (by rw [List.length_zip]; omega) fun p hp => ?_
  obtain ⟨h1, h2⟩ := List.of_mem_zip hp
  have hr := h.row _ h1
  refine pvW_map (Nat.le_trans (List.length_filter_le _ _) (by rw [List.length_zip]; omega)) fun a ha => ?_
  have ha := (List.mem_filter.mp ha).1
  have hok := hr.2.2 _ (List.of_mem_zip ha).1
  refine pvW_tup (by decide : 3 ≤ 1000) fun d hd => ?_
  rcases List.mem_cons.mp hd with rfl | hd
  · exact pvW_map (by have := hok.sl; omega) fun _ _ => rfl
  rcases List.mem_cons.mp hd with rfl | hd
  · rfl
  rw [List.mem_singleton.mp hd]
  rfl
theorem dep_bent (W : Wb) (B : Bd) : dep (dBWeb W B) < 6 := by
  refine Nat.lt_succ_of_le (dep_tup (n := 4) fun d hd => ?_)
  rcases List.mem_cons.mp hd with rfl | hd
  · exact Nat.zero_le _
  rw [List.mem_singleton.mp hd]
  refine dep_map (n := 3) fun p hp => dep_map (n := 2) fun a ha => dep_tup (n := 1) fun d hd => ?_
  rcases List.mem_cons.mp hd with rfl | hd
  · exact dep_map (n := 0) fun _ _ => Nat.le_refl _
  rcases List.mem_cons.mp hd with rfl | hd
  · exact Nat.zero_le _
  rw [List.mem_singleton.mp hd]
  exact Nat.le_refl _
section
variable {P : Program} {w : World} {K : PySem.W.Frag} {mg : Str → Option Value} {base : Heap}
set_option maxHeartbeats 0 in
theorem ok_law (T : Txt K mg) (D_is_bend : Kept P w K mg base 2 "is_bend" ["web", "bend"] (spFits K)) (D_bent_web : Kept P w K mg base 5 "bent_web" ["web", "bend"] (spBWeb K)) (D__law_begin : Kept P w K mg base 1 "_law_begin" ["script"] (spBegin K)) (D__law_draw : Kept P w K mg base 1 "_law_draw" ["d", "many"] spDraw) (D__law_pick : Kept P w K mg base 2 "_law_pick" ["d", "row"] (spPick K)) (D__law_pop : Kept P w K mg base 2 "_law_pop" ["d", "row"] spPop) (D__law_small : Kept P w K mg base 3 "_law_small" ["d", "most"] spSmall) (D__law_pool : Kept P w K mg base 1 "_law_pool" [] spPool) (D__law_drawn_web : Kept P w K mg base 4 "_law_drawn_web" ["d", "states", "marks"] (spDWeb K)) (D__law_same : Kept P w K mg base 8 "_law_same" ["told", "due"] (spSm K 6)) (D__law_drawn_bend : Kept P w K mg base 4 "_law_drawn_bend" ["d", "web"] (spDBend K)) (D__law_spoiled : Kept P w K mg base 4 "_law_spoiled" ["d", "bend"] (spSpoil K)) (D__law_fits : Kept P w K mg base 1 "_law_fits" ["web", "bend"] (spFits K)) (D__law_bent : Kept P w K mg base 2 "_law_bent" ["web", "bend"] (spLBent K)) {f : Addr} {fd : FuncData} (F : FnP K "law" s_law f fd) : FnOk P w K mg base CX0 9 f fd ["script"] (spLawB K) := by
  refine F.ok sc_law (fun vs H Q E h => ?_) (fun cdv A outer s H vs Q E hr h => ?_)
  · obtain ⟨a, ns, rfl, _⟩ := h
    rfl
  · obtain ⟨a, ns, rfl, hS, hl, hT, q⟩ := h
    refine ⟨_, PSs.nox (pss_cons (ps_set (i := 1) sc_law.nd rfl (Or.inr rfl) (pe_d D__law_begin (hr.mono (by decide)) (by rfl) (pa_cons (pv 0) pa_nil)))
      (pss_cons (ps_set (i := 2) sc_law.nd rfl (Or.inr rfl) (pe_d0 D__law_pool (hr.mono (by decide)) (by rfl)))
      (pss_cons (ps_setLc (i := 3) (own := [("k", 4)]) (g := (gName 4)) (tt := tYes) rfl sc_law.nd rfl rfl (sw_true rfl rfl rfl (by decide +kernel)) (pi_range1 (by rfl) T.b_range (pa_cons pe_int pa_nil)) (blkOk_by (N := N_law) (sc := defScope s_law) (by decide +kernel)) (fun _ _ _ _ _ => (pg_name (i := 4) sc_law.nd rfl (Or.inl rfl))) (fun _ _ _ _ _ => pts_nil) (fun _ _ _ _ _ => (pe_d D__law_pop (hr.mono (by decide)) (by rfl) (pa_cons (pv 1) (pa_cons (pv 2) pa_nil)))))
      (pss_cons (ps_set (i := 5) sc_law.nd rfl (Or.inl rfl) (pe_lst pa_nil))
      (pss_cons (ps_set (i := 6) sc_law.nd rfl (Or.inl rfl) (pe_lst pa_nil))
      (pss_cons (ps_for PassesOwn.never rfl (pi_range1 (by rfl) T.b_range (pa_cons pe_int pa_nil)) (pg_name (i := 7) sc_law.nd rfl (Or.inl rfl)) (pss_cons (ps_expr (pe_bm PySem.F.plainAttrs_list PySem.F.slot_list_append PySem.F.type_list_append mt_append (pv 5) (pa_cons (pe_d D__law_drawn_web (hr.mono (by decide)) (by rfl) (pa_cons (pv 1) (pa_cons (pe_d D__law_small (hr.mono (by decide)) (by rfl) (pa_cons (pv 1) (pa_cons pe_int pa_nil))) (pa_cons (pv 3) pa_nil)))) pa_nil)))
      (pss_one (ps_expr (pe_bm PySem.F.plainAttrs_list PySem.F.slot_list_append PySem.F.type_list_append mt_append (pv 6) (pa_cons (pe_d D__law_drawn_bend (hr.mono (by decide)) (by rfl) (pa_cons (pv 1) (pa_cons (pe_ix ix_list (pv 5) (pv 7) (fun _ _ => rfl)) pa_nil))) pa_nil))))))
      (pss_cons (ps_for PassesOwn.never rfl (pi_range1 (by rfl) T.b_range (pa_cons (pe_op op_add pe_int (pe_d D__law_draw (hr.mono (by decide)) (by rfl) (pa_cons (pv 1) (pa_cons pe_int pa_nil)))) pa_nil)) (pg_name (i := 7) sc_law.nd rfl (Or.inl rfl)) (pss_one (ps_expr (pe_bm PySem.F.plainAttrs_list PySem.F.slot_list_append PySem.F.type_list_append mt_append (pv 6) (pa_cons (pe_d D__law_spoiled (hr.mono (by decide)) (by rfl) (pa_cons (pv 1) (pa_cons (pe_d D__law_pick (hr.mono (by decide)) (by rfl) (pa_cons (pv 1) (pa_cons (pv 6) pa_nil))) pa_nil))) pa_nil)))))
      (pss_cons (ps_for PassesOwn.never rfl (pi_list (pv 6)) (pg_name (i := 8) sc_law.nd rfl (Or.inl rfl)) (pss_one (ps_for PassesOwn.never rfl (pi_list (pv 5)) (pg_name (i := 9) sc_law.nd rfl (Or.inl rfl)) (pss_cons (ps_set (i := 10) sc_law.nd rfl (Or.inl rfl) (pe_d D__law_fits (hr.mono (by decide)) (by rfl) (pa_cons (pv 9) (pa_cons (pv 8) pa_nil))))
      (pss_cons (ps_set (i := 11) sc_law.nd rfl (Or.inl rfl) (pe_d D_is_bend (hr.mono (by decide)) (by rfl) (pa_cons (pv 9) (pa_cons (pv 8) pa_nil))))
      (pss_cons (ps_if (PW.pt (pw_or (pt_not (pt_val (pe_callB call_isi (by rfl) T.b_isinstance (by decide +kernel) (pa_cons (pv 11) (pa_cons (pe_bltn (v := .ty "bool") (u := .type "bool") (by rfl) T.b_bool (by decide +kernel) rfl) pa_nil))))) (pw_or1 (pt_cmpR op_ne (pv 11) (pv 10) (nomark _))))) (pss_one (ps_ret pe_bl)) pss_nil)
      (pss_one (ps_if (PW.pt (pw_and (pt_truth (pv 10) (by intro _; rfl)) (pw_and1 (pt_not (pt_val (pe_d D__law_same (hr.mono (by decide)) (by rfl) (pa_cons (pe_d D_bent_web (hr.mono (by decide)) (by rfl) (pa_cons (pv 9) (pa_cons (pv 8) pa_nil))) (pa_cons (pe_d D__law_bent (hr.mono (by decide)) (by rfl) (pa_cons (pv 9) (pa_cons (pv 8) pa_nil))) pa_nil)))))))) (pss_one (ps_ret pe_bl)) pss_nil))))))))
      (pss_one (ps_ret pe_bl)))))))))), ?_⟩
    refine ⟨_, rfl, a, ns, rfl, hS, hl, fun S D H1 s1 nD d1 => ?_⟩
    have hT1 := s1 _ _ hT
    have PD : BP K ≠ D := ne_of_none hT nD
    refine ⟨rfl, fun N hN => ?_⟩
    have ND := (d1.free hN).1
    have g2 : Go S D H1 (upd H1 N (.lst (POOL.map V.str))) := Go.new d1 hN
    have hN2 := upd_same (H := H1) (a := N) (o := .lst (POOL.map V.str))
    generalize upd H1 N (.lst (POOL.map V.str)) = H2 at g2 hN2
    refine ⟨_, rfl, by decide, by decide, fun m hm => lc_range (lo := 0) (n := 3) (fun j H' => ∃ nms ms : List Str, Go S D H1 H' ∧ H' N = some (.lst (nms.map V.str)) ∧ H' m = some (.lst (ms.map V.str)) ∧ nms.length + j = POOL.length ∧ ms.length = j ∧ (∀ z ∈ nms, z ∈ POOL) ∧ ∀ z ∈ ms, z ∈ POOL)
      ⟨POOL, [], goU (g2.free d1 hm) d1 g2, by rw [upd_ne (ne_of_none hN2 hm)]; exact hN2, upd_same, rfl, rfl, fun _ h => h, fun _ h => absurd h List.not_mem_nil⟩ ?_ ?_⟩
    · rintro j H4 hj ⟨nms, ms, g4, hN4, hM4, hl4, hm4, ho1, ho2⟩
      have pl : POOL.length ≤ 1000 ∧ 3 ≤ POOL.length := by decide +kernel
      have mD := (g2.1.free hm).1
      have mN : m ≠ N := (ne_of_none hN2 hm).symm
      refine ⟨rfl, _, rfl, _, rfl, S, D, N, nms.map V.str, rfl, g4.1, ND, hN4, by rw [List.length_map]; omega, by rw [List.length_map]; omega, fun H5 jx x g5 hx => ?_⟩
      rw [List.getElem?_map] at hx
      obtain ⟨z, hz, rfl⟩ := Option.map_eq_some_iff.mp hx
      have hjx := (List.getElem?_eq_some_iff.mp hz).1
      have ee : (nms.map V.str).eraseIdx jx = (nms.eraseIdx jx).map V.str := by
        first
          | exact List.eraseIdx_map ..
          | exact (List.map_eraseIdx ..).symm
          | simp [List.eraseIdx_eq_take_drop_succ]
      rw [ee]
      have hM5 := g5.2 _ _ hM4 mD
      refine ⟨_, by rw [upd_ne mN]; exact hM5, by rw [List.length_map]; exact line6 (by omega), nms.eraseIdx jx, ms ++ [z], goU (g2.free d1 hm) d1 (goU hN d1 (g4.trans g5)), by rw [upd_ne mN.symm, upd_same], by rw [upd_same, List.map_append]; rfl, ?_, by rw [List.length_append, List.length_singleton, hm4], fun y hy => ho1 y (List.mem_of_mem_eraseIdx hy), fun y hy => ?_⟩
      · rw [List.length_eraseIdx_of_lt hjx]
        omega
      · rcases List.mem_append.mp hy with h | h
        · exact ho2 y h
        · rw [List.mem_singleton.mp h]
          exact ho1 z (List.mem_of_getElem? hz)
    · rintro H4 ⟨nms, ms, g4, hN4, hM4, hl4, hm4, ho1, ho2⟩
      have mo : ShOk ms := fun z hz => pool_ok z (ho2 z hz)
      have mD := (g2.1.free hm).1
      refine ⟨Nat.zero_le _, fun Wl hWl => ?_⟩
      have WD := (g4.1.free hWl).1
      have g5 : Go S D H4 (upd H4 Wl (.lst [])) := Go.new g4.1 hWl
      have hW5 := upd_same (H := H4) (a := Wl) (o := .lst [])
      have hM5 := g5.2 _ _ hM4 mD
      generalize upd H4 Wl (.lst []) = H5 at g5 hW5 hM5
      refine ⟨Nat.zero_le _, fun Bl hBl => ?_⟩
      have BD := (g5.1.free hBl).1
      have BW : Bl ≠ Wl := (ne_of_none hW5 hBl).symm
      have g6 : Go S D H5 (upd H5 Bl (.lst [])) := Go.new g5.1 hBl
      have hB6 := upd_same (H := H5) (a := Bl) (o := .lst [])
      have hW6 := g6.2 _ _ hW5 WD
      have hM6 := g6.2 _ _ hM5 mD
      generalize upd H5 Bl (.lst []) = H6 at g6 hB6 hW6 hM6
      have hT6 := (g4.trans (g5.trans g6)).2 _ _ hT1 PD
      have g16 := g4.trans (g5.trans g6)
      have h1W : H1 Wl = none := g4.free d1 hWl
      have h1B : H1 Bl = none := (g4.trans g5).free d1 hBl
      have Wm : Wl ≠ m := (ne_of_none hM4 hWl).symm
      refine ⟨_, rfl, by decide, by decide, for_range (lo := 0) (n := 2) (fun i σ H' => ∃ (Ws : List Wb) (Bs : List Bd) (zs us : List V) (y7 : Option V), σ = [some (.ref a), some (.ref D), some (.ref N), some (.ref m), none, some (.ref Wl), some (.ref Bl), y7, none, none, none, none] ∧ Go S D H1 H' ∧ H' m = some (.lst (ms.map V.str)) ∧ H' Wl = some (.lst zs) ∧ H' Bl = some (.lst us) ∧ DpAll K H' zs (Ws.map dWeb) ∧ DpAll K H' us (Bs.map dBd) ∧ Ws.length = i ∧ Bs.length = i ∧ (∀ W ∈ Ws, WebOk W) ∧ ∀ B ∈ Bs, Few 20 B) ⟨[], [], [], [], _, rfl, g16, hM6, hW6, hB6, .nil, .nil, rfl, rfl, fun _ h => absurd h List.not_mem_nil, fun _ h => absurd h List.not_mem_nil⟩ ?_ ?_⟩
      · rintro i σ H7 hi ⟨Ws, Bs, zs, us, y7, rfl, g7, hM7, hW7, hB7, hzs, hus, wl, bl, okW, fewB⟩
        refine ⟨_, rfl, .inl ⟨rfl, _, SqL.of hW7⟩, _, rfl, _, rfl, S, D, 5, rfl, by decide, by decide, g7.1, fun H8 n g8 n0 n1 => ?_⟩
        have Bm : Bl ≠ m := (ne_of_none hM5 hBl).symm
        have hM8 := g8.2 _ _ hM7 mD
        refine ⟨_, rfl, S, D, m, n, ms, rfl, g8.1, mD, hM8, by omega, by omega, mo, n0, by omega, fun H9 v W g9 hv okv lenv => ?_⟩
        have g79 := g8.trans g9
        have d7 := g7.1
        have hM9 := g9.2 _ _ hM8 mD
        have hW9 := g79.2 _ _ hW7 WD
        have hB9 := g79.2 _ _ hB7 BD
        have hzs9 := dpA_keep (Go.keepT d7 g79) _ _ (noLs_map _ _ fun _ _ => dWeb_noL _) hzs
        have hus9 := dpA_keep (Go.keepT d7 g79) _ _ (noLs_map _ _ fun _ _ => dBd_noL _) hus
        have zl := dpA_len hzs9
        have ul := dpA_len hus9
        rw [List.length_map] at zl ul
        refine ⟨Wl, zs, _, rfl, rfl, hW9, line6 (by omega), ?_⟩
        have kW := keepT_nt (o := .lst (zs ++ [v])) (nt_lst _) hW9
        have gA := goU (o := .lst (zs ++ [v])) h1W d1 (g7.trans g79)
        have hWA := upd_same (H := H9) (a := Wl) (o := .lst (zs ++ [v]))
        have hBA : upd H9 Wl (.lst (zs ++ [v])) Bl = some (.lst us) := by rw [upd_ne BW]; exact hB9
        have hMA : upd H9 Wl (.lst (zs ++ [v])) m = some (.lst (ms.map V.str)) := by rw [upd_ne Wm.symm]; exact hM9
        have hzsA := dpA_keep kW _ _ (noLs_map _ _ fun _ _ => dWeb_noL _) hzs9
        have husA := dpA_keep kW _ _ (noLs_map _ _ fun _ _ => dBd_noL _) hus9
        have hvA := dp_keep kW _ _ (dWeb_noL _) hv
        generalize upd H9 Wl (.lst (zs ++ [v])) = HA at gA hWA hBA hMA hzsA husA hvA
        have atv : atI (zs ++ [v]) (0 + (i : Int)) = some v := by
          rw [Int.zero_add]
          refine atI_nat ?_
          rw [List.getElem?_append_right (by omega), zl, wl, Nat.sub_self]
          rfl
        refine ⟨_, rfl, .inl ⟨rfl, _, SqL.of hBA⟩, _, rfl, _, rfl, _, rfl, Wl, _, _, _, rfl, rfl, SqL.of hWA, atv, S, D, v, W, rfl, gA.1, hvA, okv, by omega, fun HB u B gB hu fewu => ?_⟩
        have dA := gA.1
        have hBB := gB.2 _ _ hBA BD
        have hWB := gB.2 _ _ hWA WD
        have hMB := gB.2 _ _ hMA mD
        have kB := keepT_nt (o := .lst (us ++ [u])) (nt_lst _) hBB
        have kAB := (Go.keepT dA gB).trans kB
        refine ⟨Bl, us, _, rfl, rfl, hBB, line6 (by omega), Ws ++ [W], Bs ++ [B], zs ++ [v], us ++ [u], _, rfl, goU h1B d1 (gA.trans gB), by rw [upd_ne Bm.symm]; exact hMB, by rw [upd_ne BW.symm]; exact hWB, upd_same, ?_, ?_, by rw [List.length_append, wl]; rfl, by rw [List.length_append, bl]; rfl, fun X hX => ?_, fun X hX => ?_⟩
        · rw [List.map_append]
          exact dpA_snoc (dpA_keep kAB _ _ (noLs_map _ _ fun _ _ => dWeb_noL _) hzsA) (dp_keep kAB _ _ (dWeb_noL _) hvA)
        · rw [List.map_append]
          exact dpA_snoc (dpA_keep kAB _ _ (noLs_map _ _ fun _ _ => dBd_noL _) husA) (dp_keep kB _ _ (dBd_noL _) hu)
        · rcases List.mem_append.mp hX with e | e
          · exact okW X e
          · rw [List.mem_singleton.mp e]
            exact okv
        · rcases List.mem_append.mp hX with e | e
          · exact fewB X e
          · rw [List.mem_singleton.mp e]
            exact fewu
      · rintro σ H7 ⟨Ws, Bs, zs, us, y7, rfl, g7, hM7, hW7, hB7, hzs, hus, wl, bl, okW, fewB⟩
        refine ⟨_, rfl, S, D, _, rfl, divW_of (by decide) (by decide), g7.1, fun H8 k k0 k1 g8 => ⟨_, _, rfl, rfl, _, rfl, by omega, by omega, for_range (lo := 0) (n := (1 + k).toNat) (fun i σ H' => ∃ (Bs : List Bd) (us : List V) (y7 : Option V), σ = [some (.ref a), some (.ref D), some (.ref N), some (.ref m), none, some (.ref Wl), some (.ref Bl), y7, none, none, none, none] ∧ Go S D H1 H' ∧ H' Wl = some (.lst zs) ∧ H' Bl = some (.lst us) ∧ DpAll K H' zs (Ws.map dWeb) ∧ DpAll K H' us (Bs.map dBd) ∧ Bs.length = 2 + i ∧ ∀ B ∈ Bs, Few (20 + i) B) ⟨Bs, us, _, rfl, g7.trans g8, g8.2 _ _ hW7 WD, g8.2 _ _ hB7 BD, dpA_keep (Go.keepT g7.1 g8) _ _ (noLs_map _ _ fun _ _ => dWeb_noL _) hzs, dpA_keep (Go.keepT g7.1 g8) _ _ (noLs_map _ _ fun _ _ => dBd_noL _) hus, by omega, fun B hB => fewB B hB⟩ ?_ ?_⟩⟩
        · rintro i σ H9 hi ⟨Bs, us, y7, rfl, g9, hW9, hB9, hzs9, hus9, bl, fewB⟩
          have ul := dpA_len hus9
          rw [List.length_map] at ul
          have d9 := g9.1
          have d7 := g7.1
          refine ⟨_, rfl, .inl ⟨rfl, _, SqL.of hB9⟩, _, rfl, _, rfl, _, rfl, S, D, .ref Bl, us, rfl, d9, fun H' g => .inr (.inl ⟨Bl, rfl, SqL.of (g.2 _ _ hB9 BD)⟩), by omega, by omega, fun HA x hx gA => ?_⟩
          obtain ⟨jx, hjx⟩ := List.mem_iff_getElem?.mp hx
          obtain ⟨B, eB, dB⟩ := dpA_mem hus9 hjx
          have dBA := dp_keep (Go.keepT d9 gA) _ _ (dBd_noL _) dB
          refine ⟨S, D, x, B, 20 + i, rfl, gA.1, dBA, fewB B (List.mem_of_getElem? eB), by omega, fun HB u B' gB hu fewu => ?_⟩
          have g9B := gA.trans gB
          have hBB := g9B.2 _ _ hB9 BD
          have hWB := g9B.2 _ _ hW9 WD
          have kB := keepT_nt (o := .lst (us ++ [u])) (nt_lst _) hBB
          have k9B := (Go.keepT d9 g9B).trans kB
          refine ⟨Bl, us, _, rfl, rfl, hBB, line6 (by omega), Bs ++ [B'], us ++ [u], _, rfl, goU h1B d1 (g9.trans g9B), by rw [upd_ne BW.symm]; exact hWB, upd_same, dpA_keep k9B _ _ (noLs_map _ _ fun _ _ => dWeb_noL _) hzs9, ?_, by rw [List.length_append, bl]; simp; omega, fun X hX => ?_⟩
          · rw [List.map_append]
            exact dpA_snoc (dpA_keep k9B _ _ (noLs_map _ _ fun _ _ => dBd_noL _) hus9) (dp_keep kB _ _ (dBd_noL _) hu)
          · rcases List.mem_append.mp hX with e | e
            · exact (fewB X e).up
            · rw [List.mem_singleton.mp e]
              exact fewu
        · rintro σ H9 ⟨Bs, us, y7, rfl, g9, hW9, hB9, hzs9, hus9, bl, fewB⟩
          have hT9 := g9.2 _ _ hT1 PD
          have t9 : GxR.TabG H9 (BP K) := ⟨_, hT9, trivial⟩
          have WP := ne_of_none hT1 h1W
          have BlP := ne_of_none hT1 h1B
          have zl := dpA_len hzs9
          have ul := dpA_len hus9
          rw [List.length_map] at zl ul
          refine ⟨_, rfl, Bl, rfl, ⟨_, SqL.of hB9⟩, for_list (K := K) (a := Bl) (xs := us) (fun i σ H' => ∃ y8 y9 y10 y11 : Option V, σ = [some (.ref a), some (.ref D), some (.ref N), some (.ref m), none, some (.ref Wl), some (.ref Bl), y7, y8, y9, y10, y11] ∧ TS (BP K) H9 H') ⟨_, _, _, _, rfl, TS.refl t9⟩ (fun i σ H' _ ⟨_, _, _, _, _, t⟩ => SqL.of (t.2 _ _ BlP.symm hB9)) ?_ ?_⟩
          · rintro i x σ HA hx ⟨y8, y9, y10, y11, rfl, tA⟩
            obtain ⟨B, eB, dB⟩ := dpA_mem hus9 hx
            have fB := fewB B (List.mem_of_getElem? eB)
            have fB : Few 50 B := ⟨by have := fB.len; omega, fun l hl => by have := fB.row l hl; omega, fB.big⟩
            refine ⟨_, rfl, Wl, rfl, ⟨_, SqL.of (tA.2 _ _ WP.symm hW9)⟩, for_list (K := K) (a := Wl) (xs := zs) (fun i σ H' => ∃ y9 y10 y11 : Option V, σ = [some (.ref a), some (.ref D), some (.ref N), some (.ref m), none, some (.ref Wl), some (.ref Bl), y7, some x, y9, y10, y11] ∧ TS (BP K) H9 H') ⟨_, _, _, rfl, tA⟩ (fun i σ H' _ ⟨_, _, _, _, t⟩ => SqL.of (t.2 _ _ WP.symm hW9)) ?_ ?_⟩
            · rintro j z σ HB hz ⟨y9, y10, y11, rfl, tB⟩
              obtain ⟨W, eW, dW⟩ := dpA_mem hzs9 hz
              have oW := okW W (List.mem_of_getElem? eW)
              have kB := keepT_ts t9 tB
              have dWB := dp_keep kB _ _ (dWeb_noL _) dW
              have dBB := dp_keep kB _ _ (dBd_noL _) dB
              refine ⟨_, rfl, _, rfl, z, x, W, B, rfl, dWB, dBB, oW, fB, fun HC sC => ?_⟩
              refine ⟨_, rfl, _, rfl, z, x, W, B, rfl, dp_same sC _ _ dWB, dp_same sC _ _ dBB, oW, fB, fun HD sD => ?_⟩
              have tD := tB.trans (TS.of_same tB.1 (sC.trans sD))
              have tC := tB.trans (TS.of_same tB.1 sC)
              refine ⟨_, rfl, _, .ty "bool", .type "bool", .type "bool", true, rfl, .ty _, .base (.bl _), kit_ty (by decide +kernel), true, rfl, ite2 (fun h => (nomatch h)) (fun _ => ?_)⟩
              refine ⟨_, rfl, _, rfl, rfl, _, rfl, ite2 (fun e => ?_) (fun _ => ?_)⟩
              · have e : (!decide (V.bl (fitB W B) = V.bl (fitB W B))) = true := e
                rw [decide_eq_true rfl] at e
                cases e
              refine ⟨_, rfl, fitB W B, rfl, ite2 (fun hf => ?_) (fun _ => ite2 (fun h => (nomatch h)) (fun _ => ⟨_, _, _, rfl, tD⟩))⟩
              have sCD := sC.trans sD
              have dWD := dp_same sCD _ _ dWB
              have dBD := dp_same sCD _ _ dBB
              refine ⟨_, rfl, _, rfl, z, x, W, B, rfl, dWD, dBD, oW, fB, hf, tD.1, fun HE v1 tE dv1 => ?_⟩
              have kE := keepT_ts tD.1 tE
              refine ⟨_, rfl, _, rfl, z, x, W, B, rfl, dp_keep kE _ _ (dWeb_noL _) dWD, dp_keep kE _ _ (dBd_noL _) dBD, oW, fB, hf, fun HF v2 sF dv2 => ?_⟩
              refine ⟨v1, v2, dBWeb W B, rfl, dp_same sF _ _ dv1, dv2, pvW_bent oW, dep_bent W B, fun HG sG => ?_⟩
              have tG := tD.trans (tE.trans (TS.of_same tE.1 (sF.trans sG)))
              exact ⟨true, rfl, ite2 (fun h => (nomatch h)) (fun _ => ⟨_, _, _, rfl, tG⟩)⟩
            · rintro σ HB ⟨y9, y10, y11, rfl, tB⟩
              exact ⟨_, _, _, _, rfl, tB⟩
          · rintro σ HA ⟨y8, y9, y10, y11, rfl, tA⟩
            exact q _
end
end Mt
namespace Mt
open PySem PySem.Spec PyProof.Rows L2
def dd_make_fraction : He.DefD := ⟨("make_fraction", none), "make_fraction", "make_fraction", defArgs s_make_fraction, defBody s_make_fraction, defScope s_make_fraction, [], []⟩
def dd_is_bend : He.DefD := ⟨("is_bend", none), "is_bend", "is_bend", defArgs s_is_bend, defBody s_is_bend, defScope s_is_bend, [], []⟩
def dd_is_bent : He.DefD := ⟨("is_bent", none), "is_bent", "is_bent", defArgs s_is_bent, defBody s_is_bent, defScope s_is_bent, [], []⟩
def dd_bent_web : He.DefD := ⟨("bent_web", none), "bent_web", "bent_web", defArgs s_bent_web, defBody s_bent_web, defScope s_bent_web, [], []⟩
def dd_bent_arcs : He.DefD := ⟨("bent_arcs", none), "bent_arcs", "bent_arcs", defArgs s_bent_arcs, defBody s_bent_arcs, defScope s_bent_arcs, [], []⟩
def dd__law_begin : He.DefD := ⟨("_law_begin", none), "_law_begin", "_law_begin", defArgs s__law_begin, defBody s__law_begin, defScope s__law_begin, [], []⟩
def dd__law_draw : He.DefD := ⟨("_law_draw", none), "_law_draw", "_law_draw", defArgs s__law_draw, defBody s__law_draw, defScope s__law_draw, [], []⟩
def dd__law_pick : He.DefD := ⟨("_law_pick", none), "_law_pick", "_law_pick", defArgs s__law_pick, defBody s__law_pick, defScope s__law_pick, [], []⟩
def dd__law_pop : He.DefD := ⟨("_law_pop", none), "_law_pop", "_law_pop", defArgs s__law_pop, defBody s__law_pop, defScope s__law_pop, [], []⟩
def dd__law_rare : He.DefD := ⟨("_law_rare", none), "_law_rare", "_law_rare", defArgs s__law_rare, defBody s__law_rare, defScope s__law_rare, [], []⟩
def dd__law_small : He.DefD := ⟨("_law_small", none), "_law_small", "_law_small", defArgs s__law_small, defBody s__law_small, defScope s__law_small, [], []⟩
def dd__law_pool : He.DefD := ⟨("_law_pool", none), "_law_pool", "_law_pool", defArgs s__law_pool, defBody s__law_pool, defScope s__law_pool, [], []⟩
def dd__law_is_int : He.DefD := ⟨("_law_is_int", none), "_law_is_int", "_law_is_int", defArgs s__law_is_int, defBody s__law_is_int, defScope s__law_is_int, [], []⟩
def dd__law_frac : He.DefD := ⟨("_law_frac", none), "_law_frac", "_law_frac", defArgs s__law_frac, defBody s__law_frac, defScope s__law_frac, [], []⟩
def dd__law_drawn_shown : He.DefD := ⟨("_law_drawn_shown", none), "_law_drawn_shown", "_law_drawn_shown", defArgs s__law_drawn_shown, defBody s__law_drawn_shown, defScope s__law_drawn_shown, [], []⟩
def dd__law_drawn_web : He.DefD := ⟨("_law_drawn_web", none), "_law_drawn_web", "_law_drawn_web", defArgs s__law_drawn_web, defBody s__law_drawn_web, defScope s__law_drawn_web, [], []⟩
def dd__law_same : He.DefD := ⟨("_law_same", none), "_law_same", "_law_same", defArgs s__law_same, defBody s__law_same, defScope s__law_same, [], []⟩
def dd__law_integer : He.DefD := ⟨("_law_integer", none), "_law_integer", "_law_integer", defArgs s__law_integer, defBody s__law_integer, defScope s__law_integer, [], []⟩
def dd__law_drawn_bend : He.DefD := ⟨("_law_drawn_bend", none), "_law_drawn_bend", "_law_drawn_bend", defArgs s__law_drawn_bend, defBody s__law_drawn_bend, defScope s__law_drawn_bend, [], []⟩
def dd__law_spoiled : He.DefD := ⟨("_law_spoiled", none), "_law_spoiled", "_law_spoiled", defArgs s__law_spoiled, defBody s__law_spoiled, defScope s__law_spoiled, [], []⟩
def dd__law_fits : He.DefD := ⟨("_law_fits", none), "_law_fits", "_law_fits", defArgs s__law_fits, defBody s__law_fits, defScope s__law_fits, [], []⟩
def dd__law_bent : He.DefD := ⟨("_law_bent", none), "_law_bent", "_law_bent", defArgs s__law_bent, defBody s__law_bent, defScope s__law_bent, [], []⟩
def dd_law : He.DefD := ⟨("law", none), "law", "law", defArgs s_law, defBody s_law, defScope s_law, [], []⟩
def dds : List He.DefD := [dd_make_fraction, dd_is_bend, dd_is_bent, dd_bent_web, dd_bent_arcs, dd__law_begin, dd__law_draw, dd__law_pick, dd__law_pop, dd__law_rare, dd__law_small, dd__law_pool, dd__law_is_int, dd__law_frac, dd__law_drawn_shown, dd__law_drawn_web, dd__law_same, dd__law_integer, dd__law_drawn_bend, dd__law_spoiled, dd__law_fits, dd__law_bent, dd_law]
def fas : List He.Fa := [.glo "make_fraction", .glo "is_bend", .glo "is_bent", .glo "bent_web", .glo "bent_arcs", .glo "_law_begin", .glo "_law_draw", .glo "_law_pick", .glo "_law_pop", .glo "_law_rare", .glo "_law_small", .glo "_law_pool", .glo "_law_is_int", .glo "_law_frac", .glo "_law_drawn_shown", .glo "_law_drawn_web", .glo "_law_same", .glo "_law_integer", .glo "_law_drawn_bend", .glo "_law_spoiled", .glo "_law_fits", .glo "_law_bent", .glo "law", .free "int", .free "abs", .free "len", .free "isinstance", .free "bool", .free "tuple", .free "list", .free "range", .free "sum", .free "all", .free "sorted", .free "min", .free "zip", .free "str"]
def tss : List He.Tab := []
def tfs : List He.Defn := [("bent_web", none)]
def exM (K : PySem.W.Frag) : Bool := He.eqO (PySem.W.nsIn K mainGlobals "gcd") (some (some (.builtin "math.gcd")))
abbrev R : PySem.W.OpenRow := PySem.W.OpenLaw.row PySem.Challenge.rw_meantrace_k67_bends_judged
abbrev hk : PySem.W.Hook := He.hookX 4 fas dds tss tfs exM
def ob (s : PySem.W.SharedT) : He.AlX := He.obsX 4 fas dds tss tfs exM (HandSHeadRun.getT s)
theorem ob_eq (s : PySem.W.SharedT) : ob s = hk.obs s.abs := He.obsX_eq (HandSHeadRun.getT_eq s)
def names : List PySem.Str := ["make_fraction", "is_bend", "is_bent", "bent_web", "bent_arcs", "_law_begin", "_law_draw", "_law_pick", "_law_pop", "_law_rare", "_law_small", "_law_pool", "_law_is_int", "_law_frac", "_law_drawn_shown", "_law_drawn_web", "_law_same", "_law_integer", "_law_drawn_bend", "_law_spoiled", "_law_fits", "_law_bent"]
theorem run (w : World) : HandSHeadRun.RunEqI R (PySem.W.view R.prog [0, 26]) hk ob 3000 names w := by
  refine PySem.W.byRow2 "special-get-raises" (P := fun w => HandSHeadRun.RunEqI R (PySem.W.view R.prog [0, 26]) hk ob 3000 names w) (fun w => ?_) (fun w => ?_) w
  · unfold HandSHeadRun.RunEqI; kernel_rfl
  · unfold HandSHeadRun.RunEqI; kernel_rfl
theorem facts {P : Program} {w : World} {K : PySem.W.Frag} {h : Heap} {mg : Str → Option Value} {f : Addr} (X : K.In h) (G : h.Ns mainGlobals mg) (hfa : mg ("law" : Str) = some (.ref f)) (c : He.SaysX fas dds tss tfs exM w h K) :
    ∃ fd : FuncData, (∀ (s : Shared) (v : Value), BindsTo s fd ⟨[v], []⟩ [("script", v)]) ∧ ∀ base : Heap, K.In base → base.Ns mainGlobals mg → GxR.TabB base mg (He.cT K ("bent_web", none)).1 (He.cT K ("bent_web", none)).2 → FnOk P w K mg base CX0 9 f fd ["script"] (spLawB K) := by
  obtain ⟨fd, F⟩ := c.t.d.def_ 22 (d := dd_law) rfl
  have e := hfa.symm.trans (He.glo_ok X G (c.t.d.fact 22 (f := .glo "law") rfl))
  cases e
  have T : Txt K mg := ⟨He.free_ok X G (c.t.d.fact 23 (f := .free "int") rfl), He.free_ok X G (c.t.d.fact 24 (f := .free "abs") rfl), He.free_ok X G (c.t.d.fact 25 (f := .free "len") rfl), He.free_ok X G (c.t.d.fact 26 (f := .free "isinstance") rfl), He.free_ok X G (c.t.d.fact 27 (f := .free "bool") rfl), He.free_ok X G (c.t.d.fact 28 (f := .free "tuple") rfl), He.free_ok X G (c.t.d.fact 29 (f := .free "list") rfl), He.free_ok X G (c.t.d.fact 30 (f := .free "range") rfl), He.free_ok X G (c.t.d.fact 31 (f := .free "sum") rfl), He.free_ok X G (c.t.d.fact 32 (f := .free "all") rfl), He.free_ok X G (c.t.d.fact 33 (f := .free "sorted") rfl), He.free_ok X G (c.t.d.fact 34 (f := .free "min") rfl), He.free_ok X G (c.t.d.fact 35 (f := .free "zip") rfl), He.free_ok X G (c.t.d.fact 36 (f := .free "str") rfl), PySem.W.mg_of X G (He.eqO_ok c.more)⟩
  have b := FunD.bindsA (ps := ["script"]) F fun _ _ _ _ _ _ us hl => match us, hl with | [_], _ => rfl
  refine ⟨fd, fun s v => b s [v] rfl, fun base _ _ TB_bent_web => ?_⟩
  have D_make_fraction := (show Kept P w K mg base (1) "make_fraction" ["n", "d"] spFrac from kept_of (st := s_make_fraction) X G (c.t.d.def_ 0 (d := dd_make_fraction) rfl) (c.t.d.fact 0 (f := .glo "make_fraction") rfl) (fun _ _ _ _ _ _ us hl => match us, hl with | [_, _], _ => rfl) (fun f fd F => ok_make_fraction T F))
  have D_is_bent := (show Kept P w K mg base (1) "is_bent" ["row", "numbers"] (spIsBent K) from kept_of (st := s_is_bent) X G (c.t.d.def_ 2 (d := dd_is_bent) rfl) (c.t.d.fact 2 (f := .glo "is_bent") rfl) (fun _ _ _ _ _ _ us hl => match us, hl with | [_, _], _ => rfl) (fun f fd F => ok_is_bent T F))
  have D__law_begin := (show Kept P w K mg base (1) "_law_begin" ["script"] (spBegin K) from kept_of (st := s__law_begin) X G (c.t.d.def_ 5 (d := dd__law_begin) rfl) (c.t.d.fact 5 (f := .glo "_law_begin") rfl) (fun _ _ _ _ _ _ us hl => match us, hl with | [_], _ => rfl) (fun f fd F => ok__law_begin T F))
  have D__law_draw := (show Kept P w K mg base (1) "_law_draw" ["d", "many"] spDraw from kept_of (st := s__law_draw) X G (c.t.d.def_ 6 (d := dd__law_draw) rfl) (c.t.d.fact 6 (f := .glo "_law_draw") rfl) (fun _ _ _ _ _ _ us hl => match us, hl with | [_, _], _ => rfl) (fun f fd F => ok__law_draw T F))
  have D__law_pool := (show Kept P w K mg base (1) "_law_pool" [] spPool from kept_of (st := s__law_pool) X G (c.t.d.def_ 11 (d := dd__law_pool) rfl) (c.t.d.fact 11 (f := .glo "_law_pool") rfl) (fun _ _ _ _ _ _ us hl => match us, hl with | [], _ => rfl) (fun f fd F => ok__law_pool T F))
  have D__law_is_int := (show Kept P w K mg base (1) "_law_is_int" ["thing"] spIsInt from kept_of (st := s__law_is_int) X G (c.t.d.def_ 12 (d := dd__law_is_int) rfl) (c.t.d.fact 12 (f := .glo "_law_is_int") rfl) (fun _ _ _ _ _ _ us hl => match us, hl with | [_], _ => rfl) (fun f fd F => ok__law_is_int T F))
  have D__law_frac := (show Kept P w K mg base (1) "_law_frac" ["n", "d"] spFrac from kept_of (st := s__law_frac) X G (c.t.d.def_ 13 (d := dd__law_frac) rfl) (c.t.d.fact 13 (f := .glo "_law_frac") rfl) (fun _ _ _ _ _ _ us hl => match us, hl with | [_, _], _ => rfl) (fun f fd F => ok__law_frac T F))
  have D__law_fits := (show Kept P w K mg base (1) "_law_fits" ["web", "bend"] (spFits K) from kept_of (st := s__law_fits) X G (c.t.d.def_ 20 (d := dd__law_fits) rfl) (c.t.d.fact 20 (f := .glo "_law_fits") rfl) (fun _ _ _ _ _ _ us hl => match us, hl with | [_, _], _ => rfl) (fun f fd F => ok__law_fits T F))
  have D_is_bend := (show Kept P w K mg base (2) "is_bend" ["web", "bend"] (spFits K) from kept_of (st := s_is_bend) X G (c.t.d.def_ 1 (d := dd_is_bend) rfl) (c.t.d.fact 1 (f := .glo "is_bend") rfl) (fun _ _ _ _ _ _ us hl => match us, hl with | [_, _], _ => rfl) (fun f fd F => ok_is_bend T D_is_bent F))
  have D_bent_arcs := (show Kept P w K mg base (2) "bent_arcs" ["row", "numbers"] (spArcs K) from kept_of (st := s_bent_arcs) X G (c.t.d.def_ 4 (d := dd_bent_arcs) rfl) (c.t.d.fact 4 (f := .glo "bent_arcs") rfl) (fun _ _ _ _ _ _ us hl => match us, hl with | [_, _], _ => rfl) (fun f fd F => ok_bent_arcs T D_make_fraction F))
  have D__law_pick := (show Kept P w K mg base (2) "_law_pick" ["d", "row"] (spPick K) from kept_of (st := s__law_pick) X G (c.t.d.def_ 7 (d := dd__law_pick) rfl) (c.t.d.fact 7 (f := .glo "_law_pick") rfl) (fun _ _ _ _ _ _ us hl => match us, hl with | [_, _], _ => rfl) (fun f fd F => ok__law_pick T D__law_draw F))
  have D__law_pop := (show Kept P w K mg base (2) "_law_pop" ["d", "row"] spPop from kept_of (st := s__law_pop) X G (c.t.d.def_ 8 (d := dd__law_pop) rfl) (c.t.d.fact 8 (f := .glo "_law_pop") rfl) (fun _ _ _ _ _ _ us hl => match us, hl with | [_, _], _ => rfl) (fun f fd F => ok__law_pop T D__law_draw F))
  have D__law_rare := (show Kept P w K mg base (2) "_law_rare" ["d", "many"] spRare from kept_of (st := s__law_rare) X G (c.t.d.def_ 9 (d := dd__law_rare) rfl) (c.t.d.fact 9 (f := .glo "_law_rare") rfl) (fun _ _ _ _ _ _ us hl => match us, hl with | [_, _], _ => rfl) (fun f fd F => ok__law_rare T D__law_draw F))
  have D__law_bent := (show Kept P w K mg base (2) "_law_bent" ["web", "bend"] (spLBent K) from kept_of (st := s__law_bent) X G (c.t.d.def_ 21 (d := dd__law_bent) rfl) (c.t.d.fact 21 (f := .glo "_law_bent") rfl) (fun _ _ _ _ _ _ us hl => match us, hl with | [_, _], _ => rfl) (fun f fd F => ok__law_bent T D__law_frac F))
  have D__law_small := (show Kept P w K mg base (3) "_law_small" ["d", "most"] spSmall from kept_of (st := s__law_small) X G (c.t.d.def_ 10 (d := dd__law_small) rfl) (c.t.d.fact 10 (f := .glo "_law_small") rfl) (fun _ _ _ _ _ _ us hl => match us, hl with | [_, _], _ => rfl) (fun f fd F => ok__law_small T D__law_draw D__law_rare F))
  have D__law_drawn_shown := (show Kept P w K mg base (3) "_law_drawn_shown" ["d", "marks"] (spShown K) from kept_of (st := s__law_drawn_shown) X G (c.t.d.def_ 14 (d := dd__law_drawn_shown) rfl) (c.t.d.fact 14 (f := .glo "_law_drawn_shown") rfl) (fun _ _ _ _ _ _ us hl => match us, hl with | [_, _], _ => rfl) (fun f fd F => ok__law_drawn_shown T D__law_pick F))
  have D__law_integer := (show Kept P w K mg base (3) "_law_integer" ["d"] spInteger from kept_of (st := s__law_integer) X G (c.t.d.def_ 17 (d := dd__law_integer) rfl) (c.t.d.fact 17 (f := .glo "_law_integer") rfl) (fun _ _ _ _ _ _ us hl => match us, hl with | [_], _ => rfl) (fun f fd F => ok__law_integer T D__law_draw D__law_rare F))
  have D__law_drawn_web := (show Kept P w K mg base (4) "_law_drawn_web" ["d", "states", "marks"] (spDWeb K) from kept_of (st := s__law_drawn_web) X G (c.t.d.def_ 15 (d := dd__law_drawn_web) rfl) (c.t.d.fact 15 (f := .glo "_law_drawn_web") rfl) (fun _ _ _ _ _ _ us hl => match us, hl with | [_, _, _], _ => rfl) (fun f fd F => ok__law_drawn_web T D__law_draw D__law_frac D__law_drawn_shown F))
  have D__law_drawn_bend := (show Kept P w K mg base (4) "_law_drawn_bend" ["d", "web"] (spDBend K) from kept_of (st := s__law_drawn_bend) X G (c.t.d.def_ 18 (d := dd__law_drawn_bend) rfl) (c.t.d.fact 18 (f := .glo "_law_drawn_bend") rfl) (fun _ _ _ _ _ _ us hl => match us, hl with | [_, _], _ => rfl) (fun f fd F => ok__law_drawn_bend T D__law_draw D__law_integer F))
  have D__law_spoiled := (show Kept P w K mg base (4) "_law_spoiled" ["d", "bend"] (spSpoil K) from kept_of (st := s__law_spoiled) X G (c.t.d.def_ 19 (d := dd__law_spoiled) rfl) (c.t.d.fact 19 (f := .glo "_law_spoiled") rfl) (fun _ _ _ _ _ _ us hl => match us, hl with | [_, _], _ => rfl) (fun f fd F => ok__law_spoiled T D__law_draw D__law_integer F))
  have D_bent_web := (show Kept P w K mg base (5) "bent_web" ["web", "bend"] (spBWeb K) from kept_ofC (st := s_bent_web) X G (c.t.d.def_ 3 (d := dd_bent_web) rfl) (c.t.d.fact 3 (f := .glo "bent_web") rfl) (fun _ _ _ _ _ _ us hl => match us, hl with | [_, _], _ => rfl) (fun fd F => ok_bent_web T D_bent_arcs TB_bent_web F))
  obtain ⟨fdS, FS⟩ := c.t.d.def_ 16 (d := dd__law_same) rfl
  have gS := He.glo_ok X G (c.t.d.fact 16 (f := .glo "_law_same") rfl)
  have bS : Binds K fdS ["told", "due"] [] := FunD.bindsN (ps := ["told", "due"]) FS fun _ _ _ _ _ _ us hl => match us, hl with | [_, _], _ => rfl
  have D__law_same : Kept P w K mg base 8 "_law_same" ["told", "due"] (spSm K 6) := ⟨_, fdS, sm_ok T D__law_is_int 6 FS gS bS, gS, FS.kp, bS⟩
  exact ok_law T D_is_bend D_bent_web D__law_begin D__law_draw D__law_pick D__law_pop D__law_small D__law_pool D__law_drawn_web D__law_same D__law_drawn_bend D__law_spoiled D__law_fits D__law_bent F
end Mt
open PySem PySem.W PySem.Calls PyProof.Rows
set_option maxHeartbeats 0 in
theorem PySem.Challenge.cw_meantrace_k67_bends_judged_holds : PySem.Challenge.rw_meantrace_k67_bends_judged.Holds := by
  w_on; o_law
  refine HandSHeadRun.head_imp (r := OpenLaw.row PySem.Challenge.rw_meantrace_k67_bends_judged) (q := view (OpenLaw.row PySem.Challenge.rw_meantrace_k67_bends_judged).prog [0, 26]) (H := Mt.hk) (ob := Mt.ob) (M := 3000) (loose := Mt.names) (d := HandSHeadRun.topDef (OpenLaw.row PySem.Challenge.rw_meantrace_k67_bends_judged).prog 26) (kwd := []) Mt.ob_eq
     Mt.run (by kernel_rfl) (by kernel_rfl) (by kernel_rfl) (by rfl) (by first | assumption | decide +kernel) (by decide +kernel) ⟨rfl, rfl, rfl, rfl, rfl, by decide +kernel⟩ ?hw ?hc
  case hw => w_witness2
  case hc =>
    refine LamX.walk_ofTsE (l := PySem.Challenge.rw_meantrace_k67_bends_judged) (n := 63) (k := 9) (x := "script") (CX := fun _ => L2.CX0) rfl (by decide) (by kernel_rfl) ⟨rfl, by decide, by decide⟩ ?F (fun _ _ _ _ _ z => z)
    intro w mg fa h Y G hmg0
    obtain ⟨K, KX, c⟩ := Y
    have hmg : mg ("law" : PySem.Str) = some (.ref fa) := by
      have e : (HandSHeadRun.topDef (OpenLaw.row PySem.Challenge.rw_meantrace_k67_bends_judged).prog 26).name = ("law" : PySem.Str) := by kernel_rfl
      rw [← e]
      exact hmg0
    obtain ⟨fd, hb, hF⟩ := Mt.facts (P := (PySem.Challenge.rw_meantrace_k67_bends_judged).prog) (w := w) KX G hmg c
    have mem : ∀ p ∈ [He.cT K ("bent_web", none)], ∃ q ∈ Mt.tfs, p = He.cT K q := fun p hp => by
      obtain ⟨q, hq, e⟩ := List.mem_map.mp (show p ∈ Mt.tfs.map (He.cT K) from hp)
      exact ⟨q, hq, e.symm⟩
    refine ⟨K, KX, fd, [He.cT K ("bent_web", none)], Mt.spLawB K, fun p hp => ?_, fun p hp => ?_, fun p hp => ?_, hb, fun H a ns hl hbits hT hS => ?_, fun base kb gb tb => hF base kb gb (let t := tb _ List.mem_cons_self; ⟨t.code, t.bm, t.gP⟩)⟩
    · obtain ⟨q, hq, e⟩ := mem p hp
      rw [e]
      exact c.empty q hq
    · obtain ⟨q, hq, e⟩ := mem p hp
      rw [e]
      exact c.out q hq
    · obtain ⟨q, hq, e⟩ := mem p hp
      rw [e]
      exact PySem.W.codeHd_of_K KX (c.hd q hq)
    · exact ⟨a, ns, rfl, hS, hl, hT _ List.mem_cons_self, fun _ => rfl⟩
