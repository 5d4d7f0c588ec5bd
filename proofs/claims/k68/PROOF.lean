import PyProof.Rows.All
import Wide.All
import OpenK.AllK
import Wide.FinOn
import KE.KStateDown
import HandS.ForMost
import HandS.Wide
import HandS.IsInst
import HandS.Walk
import HandS.Style
import HandS.Evl
import HandS.StrMore
import HandS.Exc
import HandS.WordsExc
import HandS.Defaults
import HandS.Head0
import HandS.Head1
import HandS.Head2
import HandS.HeadEnd
import HandS.HeadHook1
import HandS.HeadHook2
import HandS.Gcd
import HandS.Head3
import HandS.Star
import HandS.RaiseMore
import HandS.AnyAll
import HandS.Conv
import HandS.More
import HandS.Small
import HandS.HeadHook3
import HandS.HeadHook4
import HandS.HeadWalk
import HandS.EndTab
import PyProof.GenCompT
import PyProof.TupleOfGen
import PyProof.WalksPairs
import KE.KTupSum
import KE.DataMinMax
import HandS.SortKw
import HandS.TupAny
import HandS.TupMul
import KE.KDictKeyed
import KE.SortData
import KE.KDictSum
import KE.KDictPairs
import HandS.Zip
import HandS.Codes
import HandS.TryElse
import HandS.HeadNt
import HandS.Property
import HandS.SetBool
import HandS.SetKeys
import HandS.Nested
import HandS.ExcInit
import HandS.ExcField
import HandS.ExcIs
import HandS.FStr
import KE.KExcSuper
import KE.KSuper
import HandS.TupSets
import HandS.ExcCtx
import HandS.Hot
import HandS.HotCalls
import HandS.ExcOwn
import HandS.ExcInitHot
import KE.KIsAll
import KE.GoesMore
import PyProof.EnumMake
import PyProof.Draws
import PyProof.EnumFor
import PySem.Challenge.RW_meantrace_k68_bent_walks
set_option Elab.async false
set_option linter.all false
set_option maxRecDepth 100000
/-! Our own words over the hand layer: defs of the top by name, the draws' state, heaps that go on. -/
namespace Mt
open PySem PySem.Spec PyProof.Rows L2
section
variable {P : Program} {w : World} {K : PySem.W.Frag} {mg : Str → Option Value} {base : Heap}
abbrev FnP (K : PySem.W.Frag) (x : Str) (st : Stmt) (f : Addr) (fd : FuncData) : Prop := FunD K x x (defArgs st) (defBody st) (defScope st) [] [] f fd
/-- a def that keeps its promise -/
def Kept (P : Program) (w : World) (K : PySem.W.Frag) (mg : Str → Option Value) (base : Heap) (k : Nat) (x : Str) (ps : List Str) (sp : Sp) : Prop :=
  ∃ f fd, FnOk P w K mg base CX0 k f fd ps sp ∧ mg x = some (.ref f) ∧ PySem.W.keepIn K (.ref f) = true ∧ Binds K fd ps []
/-- what the head tells: facts by names, defs, one more word of one's own -/
abbrev AlM : Type := He.AlD × Bool
def obsM (n : Nat) (fa : List He.Fa) (fn : List He.DefD) (ex : PySem.W.Frag → Bool) (g : Addr → Option Obj) : AlM := (He.obsDG n fa fn g, ex (He.frG g (He.asD g n)))
def SaysM (fa : List He.Fa) (fn : List He.DefD) (ex : PySem.W.Frag → Bool) (K : PySem.W.Frag) : Prop := He.SaysD fa fn K ∧ ex K = true
def hookM (n : Nat) (fa : List He.Fa) (fn : List He.DefD) (ex : PySem.W.Frag → Bool) : PySem.W.Hook where
  α := AlM
  obs := fun s => obsM n fa fn ex s.heap.get?
  val := fun _ => (He.valD fn, true)
  says := fun _ h => ∃ K : PySem.W.Frag, K.In h ∧ SaysM fa fn ex K
  of := fun _ _ e => ⟨_, He.frG_in, congrArg (fun z : AlM => z.1) e, congrArg (fun z : AlM => z.2) e⟩
  keeps := fun _ _ _ ⟨K, hK, c⟩ k => ⟨K, PySem.W.Frag.In.keeps hK k, c⟩
theorem obsM_eq {n : Nat} {fa : List He.Fa} {fn : List He.DefD} {ex : PySem.W.Frag → Bool} {g : Addr → Option Obj} {s : Shared} (h : ∀ a, g a = s.heap.get? a) : obsM n fa fn ex g = (hookM n fa fn ex).obs s := by
  have e : g = s.heap.get? := funext h
  rw [e] <;> rfl
theorem kept_of {h : Heap} (X : K.In h) (G : h.Ns mainGlobals mg) {x : Str} {ps : List Str} {st : Stmt} {k : Nat} {sp : Sp}
    (hd : ∃ fd, FnP K x st (He.ga K x) fd) (hg : (He.Fa.glo x).ok K = true)
    (hb : ∀ (kV doc pm : Value) (an : Option Addr) (cdv ct : Value) (us : List Value), us.length = ps.length → bindArgs (PySem.W.fnOf x x (defArgs st) (defBody st) (defScope st) .none kV doc pm an cdv ct) ⟨us, []⟩ = pure (ps.zip us))
    (ok : ∀ f fd, FnP K x st f fd → FnOk P w K mg base CX0 k f fd ps sp) : Kept P w K mg base k x ps sp := by
  obtain ⟨fd, F⟩ := hd
  exact ⟨_, fd, ok _ fd F, He.glo_ok X G hg, F.kp, F.bindsN hb⟩
end
section
variable {X : Cx}
theorem pe_d {k : Nat} {x : Str} {ps : List Str} {sp : Sp} {e : Expr} {es : List Expr} {t : TA} {p pos : Pos} (D : Kept X.prog X.w X.K X.mg X.base k x ps sp) (hr : Room k X.A) (hg : Gl X x) (ha : PA X (e :: es) t)
    (hdb : (x == ("__debug__" : Str)) = false := by decide) (he : starEach (e :: es) X.env = (false, eval e X.env) :: starEach es X.env := by rfl) (hpl : (backTo pos (starEach es X.env)).any (·.1) = false := by rfl) :
    PE X (.Call (.Name x p) (e :: es) [] pos) (tCall sp [] E0 t) := by
  obtain ⟨f, fd, F, g, kp, b⟩ := D
  exact pe_call F hr hg g kp b .nil pass0 ha hdb he hpl
theorem pe_d0 {k : Nat} {x : Str} {ps : List Str} {sp : Sp} {p pos : Pos} (D : Kept X.prog X.w X.K X.mg X.base k x ps sp) (hr : Room k X.A) (hg : Gl X x) (hdb : (x == ("__debug__" : Str)) = false := by decide) :
    PE X (.Call (.Name x p) [] [] pos) (tCall sp [] E0 tNil) := by
  obtain ⟨f, fd, F, g, kp, b⟩ := D
  exact pe_call0 F hr hg g kp b .nil pass0 hdb
/-- a text of the module; an object of the module -/
theorem pe_gs {x z : Str} {pos : Pos} (h : ∃ t, X.mg x = some (.str z t)) (hg : Gl X x) (hd : (x == ("__debug__" : Str)) = false := by decide) : PE X (.Name x pos) (tC (.str z)) := by
  obtain ⟨t, h⟩ := h
  exact pe_glob hg h ⟨_, rfl⟩ hd
/-- xs[i] op= e reads xs[i] -/
theorem get_list : PGet X (rIxL X.K) := by
  intro pins s σ H o i ov iv Q I ro ri h
  obtain ⟨p, xs, i, z, rfl, rfl, hq, he, q⟩ := h
  cases ro
  obtain ⟨t, rfl⟩ := ri
  obtain ⟨its, r, pl, hz⟩ := I.list hq
  obtain ⟨j, h1, h2, h3, h4, h5⟩ := atI_get he
  obtain ⟨w, ew, rw'⟩ := r.get h2
  have hl := r.length
  have hn := line63
  have fin : EP X pins σ Q w s := ⟨z, H, I, rw', q⟩
  by_cases h0 : 0 ≤ i
  · have hj : i.toNat = j := by
      rw [seqIndex_of h0 h5] at h1
      exact Option.some.inj h1
    exact wpAny_mono (wpAny_getItem_list (Q := fun r s' => r = w ∧ EP X pins σ Q r s') pl.isList h0 (by omega) (by rw [hj]; simpa using ew) ⟨rfl, fin⟩) (fun _ _ q => q.2) (fun _ _ q => q)
  · have hj : (i + (its.toArray.size : Int)).toNat = j := by
      rw [seqIndex_neg (by omega) h4] at h1
      rw [List.size_toArray, ← hl]
      exact Option.some.inj h1
    exact wpAny_mono (wpAny_getItem_list_neg (Q := fun r s' => r = w ∧ EP X pins σ Q r s') pl.isList (by omega) (by rw [List.size_toArray] <;> omega) (by omega) (by rw [hj]; simpa using ew) ⟨rfl, fin⟩) (fun _ _ q => q.2) (fun _ _ q => q)
end

/-! ### the draws: [cells, place, rest, seed] at D -/
structure DrawAt (S D : Addr) (H : Hp) : Prop where
  ne : S ≠ D
  cells : ∃ cs : List Int, H S = some (.lst (cs.map V.int))
  at_ : ∃ i r c : Int, 0 ≤ i ∧ H D = some (.lst [.ref S, .int i, .int r, .int c])
/-- all else that is tracked stays -/
def Keep (D : Addr) (H H' : Hp) : Prop := ∀ b o, H b = some o → b ≠ D → H' b = some o
def Go (S D : Addr) (H H' : Hp) : Prop := DrawAt S D H' ∧ Keep D H H'
theorem Keep.refl {D : Addr} {H : Hp} : Keep D H H := fun _ _ h _ => h
theorem Keep.trans {D : Addr} {H H1 H2 : Hp} (a : Keep D H H1) (b : Keep D H1 H2) : Keep D H H2 := fun x o h n => b x o (a x o h n) n
theorem Go.trans {S D : Addr} {H H1 H2 : Hp} (a : Go S D H H1) (b : Go S D H1 H2) : Go S D H H2 := ⟨b.1, a.2.trans b.2⟩
theorem Keep.set {D : Addr} {H H' : Hp} {o : HO} (k : Keep D H H') : Keep D H (upd H' D o) := fun b u h n => by
  rw [upd_ne n]
  exact k b u h n
theorem DrawAt.set {S D : Addr} {H : Hp} (d : DrawAt S D H) {i r c : Int} (h : 0 ≤ i) : DrawAt S D (upd H D (.lst [.ref S, .int i, .int r, .int c])) :=
  ⟨d.ne, d.cells.imp fun cs h => by rw [upd_ne d.ne]; exact h, ⟨i, r, c, h, upd_same⟩⟩
theorem DrawAt.new {S D p : Addr} {H : Hp} {o : HO} (d : DrawAt S D H) (h : H p = none) : DrawAt S D (upd H p o) := by
  obtain ⟨cs, h1⟩ := d.cells
  obtain ⟨i, r, c, h0, h2⟩ := d.at_
  exact ⟨d.ne, ⟨cs, by rw [upd_ne (ne_of_none h1 h)]; exact h1⟩, ⟨i, r, c, h0, by rw [upd_ne (ne_of_none h2 h)]; exact h2⟩⟩
theorem Keep.new {D p : Addr} {H : Hp} {o : HO} (h : H p = none) : Keep D H (upd H p o) := fun b u e _ => by
  rw [upd_ne (ne_of_none e h)]
  exact e
theorem Go.new {S D p : Addr} {H : Hp} {o : HO} (d : DrawAt S D H) (h : H p = none) : Go S D H (upd H p o) := ⟨d.new h, Keep.new h⟩
theorem Go.same {S D : Addr} {H H' : Hp} (d : DrawAt S D H) (h : Same H H') : Go S D H H' := by
  obtain ⟨cs, h1⟩ := d.cells
  obtain ⟨i, r, c, h0, h2⟩ := d.at_
  exact ⟨⟨d.ne, ⟨cs, h _ _ h1⟩, ⟨i, r, c, h0, h _ _ h2⟩⟩, fun b o e _ => h b o e⟩
theorem Go.refl {S D : Addr} {H : Hp} (d : DrawAt S D H) : Go S D H H := ⟨d, Keep.refl⟩
/-- a fresh place stays fresh when looked at from behind -/
theorem DrawAt.free {S D p : Addr} {H : Hp} (d : DrawAt S D H) (h : H p = none) : p ≠ D ∧ p ≠ S := by
  obtain ⟨cs, h1⟩ := d.cells
  obtain ⟨i, r, c, h0, h2⟩ := d.at_
  exact ⟨(ne_of_none h2 h).symm, (ne_of_none h1 h).symm⟩
theorem Go.free {S D p : Addr} {H H' : Hp} (g : Go S D H H') (d : DrawAt S D H) (h : H' p = none) : H p = none := by
  cases q : H p with
  | none => rfl
  | some o =>
    by_cases e : p = D
    · exact absurd e (g.1.free h).1
    · rw [g.2 p o q e] at h
      cases h
def spDraw : Sp := fun vs H Q _ => ∃ (S D : Addr) (many : Int), vs = [.ref D, .int many] ∧ CDivW 0 many ∧ DrawAt S D H ∧ ∀ H' v, 0 ≤ v → v < many → Go S D H H' → Q (.int v) H'
end Mt
/-! ### dicts whose keys are (tuple of texts, int), at the library's level, told in our heap -/
namespace ND
open PySem PySem.Spec PyProof.Rows L2
abbrev KN : Type := List Str × Int
def nk (k : KN) : NestedKey := .tup [.tup (k.1.map .text), .num k.2]
theorem texts_inj : ∀ {a b : List Str}, a.map NestedKey.text = b.map NestedKey.text → a = b
  | [], [], _ => rfl
  | x :: a, y :: b, h => by
    obtain ⟨h1, h2⟩ := List.cons.inj (show NestedKey.text x :: a.map .text = .text y :: b.map .text from h)
    rw [NestedKey.text.inj h1, texts_inj h2]
  | [], _ :: _, h => by cases h
  | _ :: _, [], h => by cases h
theorem nk_inj {a b : KN} (h : nk a = nk b) : a = b := by
  unfold nk at h
  obtain ⟨h1, h2⟩ := List.cons.inj (NestedKey.tup.inj h)
  exact Prod.ext (texts_inj (NestedKey.tup.inj h1)) (NestedKey.num.inj (List.cons.inj h2).1)
/-- an entry: the key, where its tuple stands, the value -/
abbrev En : Type := KN × Addr × V
abbrev EnV : Type := NestedKey × Addr × Value
def RelE (p : En) (q : EnV) : Prop := q.1 = nk p.1 ∧ p.2.1 = q.2.1 ∧ RelV p.2.2 q.2.2
def NdP (P : Program) (w : World) (a : Addr) (xs : List En) (h : Heap) : Prop := xs.length ≤ sizeLine ∧ (a == sysModules) = false ∧ ∃ ys : List EnV, Paired RelE xs ys ∧
  ∃ o es ep, h.get? a = some o ∧ o.ExactDict ∧ o.data = .dict es ep ∧ es.toList = ys.map (entryOfKey (nestedKind P w)) ∧ (ys.map (·.1)).Nodup
def ND (P : Program) (w : World) (a : Addr) (xs : List En) : HO := .ext (NdP P w a xs)
theorem nd_ok {P : Program} {w : World} {H : Hp} {h : Heap} {a : Addr} {xs : List En} (x : NdP P w a xs h) : ObjOk P w H h a (ND P w a xs) := by
  refine ⟨x, ?_, fun h1 h2 y k => ?_⟩
  · obtain ⟨_, _, _, _, o, _, _, e, _⟩ := x
    exact ⟨o, e⟩
  · obtain ⟨y1, y2, ys, y3, o, es, ep, e, r⟩ := y
    exact ⟨y1, y2, ys, y3, o, es, ep, k o e, r⟩
/-- the key's tuples stand -/
def NkT (K : PySem.W.Frag) (H : Hp) (k : KN) (a : Addr) : Prop := ∃ b, SqT K H a [.ref b, .int k.2] ∧ SqT K H b (k.1.map V.str)
def KeysOk (K : PySem.W.Frag) (H : Hp) (xs : List En) : Prop := ∀ x ∈ xs, NkT K H x.1 x.2.1
theorem all_texts {h : Heap} : ∀ {ss : List Str} {us : List Value}, Vals (ss.map V.str) us → NestedAll h (ss.map .text) us
  | [], _, .nil => .nil
  | s :: r, _, .cons e t => by
    obtain ⟨tk, rfl⟩ := e
    exact .cons (.text s tk) (all_texts t)
theorem dep_texts : ∀ ss : List Str, NestedKey.depthAll (ss.map .text) = 0
  | [] => by simp [NestedKey.depthAll]
  | s :: r => by
    show NestedKey.depthAll (.text s :: r.map .text) = 0
    rw [NestedKey.depthAll, dep_texts r]
    simp [NestedKey.depth]
section
variable {X : Cx} {pins : List (Addr × Obj)} {σ : L2.St} {H : Hp} {s : Shared} {a b : Addr} {xs : List En} {k : KN}
theorem key_is (I : Inv X pins σ H s) (h : NkT X.K H k a) : (nestedKind X.prog X.w).is s.heap (nk k) a := by
  obtain ⟨b, h1, h2⟩ := h
  obtain ⟨its, rv, ⟨o, e1, e2, n, e3⟩, _⟩ := I.tuple h1
  obtain ⟨its2, rv2, ⟨o2, f1, f2, n2, f3⟩, _⟩ := I.tuple h2
  obtain ⟨u1, u2, rfl, r1, r2⟩ := Vals.two rv
  obtain rfl : u1 = Value.ref b := r1
  obtain ⟨t, rfl⟩ := r2
  refine ⟨.tup e1 e2 e3 (.cons (.tup f1 f2 f3 ?_) (.cons (.int _ _) .nil)), ?_⟩
  · exact all_texts rv2
  · show NestedKey.depth (.tup [.tup (k.1.map .text), .num k.2]) ≤ 8
    simp [NestedKey.depth, NestedKey.depthAll, dep_texts]
theorem rel_mem {xs : List En} {ys : List EnV} (r : Paired RelE xs ys) : ∀ y ∈ ys, ∃ x ∈ xs, RelE x y := by
  induction r with
  | nil => intro y hy; cases hy
  | cons e t ih =>
    intro y hy
    rcases List.mem_cons.mp hy with h | h
    · subst h
      exact ⟨_, List.mem_cons_self, e⟩
    · obtain ⟨x, h1, h2⟩ := ih y h
      exact ⟨x, List.mem_cons_of_mem _ h1, h2⟩
theorem nd_rd (I : Inv X pins σ H s) (h : Rd H a (ND X.prog X.w a xs)) (hk : KeysOk X.K H xs) : (a == sysModules) = false ∧ xs.length ≤ sizeLine ∧ ∃ ys : List EnV, Paired RelE xs ys ∧ s.heap.DictOfH (nestedKind X.prog X.w) a ys := by
  obtain ⟨⟨h1, h2, ys, h3, o, es, ep, h4, h5, h6, h7, h8⟩, _⟩ := h.ok I.hok
  refine ⟨h2, h1, ys, h3, o, es, ep, h4, h5, h6, h7, fun y hy => ?_, h8⟩
  obtain ⟨x, hx, e1, e2, _⟩ := rel_mem h3 y hy
  rw [e1, ← e2]
  exact key_is I (hk x hx)
end
/-- what stands at a key; the entries behind a store -/
def atN (xs : List En) (k : KN) : Option (Addr × V) := (xs.find? fun x => decide (x.1 = k)).map (·.2)
def putN (xs : List En) (k : KN) (a : Addr) (v : V) : List En := if (atN xs k).isSome then xs.map (fun x => if x.1 = k then (x.1, x.2.1, v) else x) else xs ++ [(k, a, v)]
theorem rel_at {xs : List En} {ys : List EnV} (r : Paired RelE xs ys) (k : KN) : (atN xs k = none ∧ atKey ys (nk k) = none) ∨ ∃ p q, atN xs k = some p ∧ atKey ys (nk k) = some q ∧ p.1 = q.1 ∧ RelV p.2 q.2 := by
  induction r with
  | nil => exact .inl ⟨rfl, rfl⟩
  | @cons x y xs ys e t ih =>
    obtain ⟨e1, e2, e3⟩ := e
    by_cases h : x.1 = k
    · refine .inr ⟨x.2, y.2, ?_, ?_, e2, e3⟩
      · unfold atN
        rw [List.find?_cons, decide_eq_true h]
        rfl
      · unfold atKey
        rw [List.find?_cons, decide_eq_true (by rw [e1, h])]
        rfl
    · have hn : ¬ y.1 = nk k := fun e => h (nk_inj (by rw [← e1, e]))
      have a1 : atN (x :: xs) k = atN xs k := by
        unfold atN
        rw [List.find?_cons, decide_eq_false h]
      have a2 : atKey (y :: ys) (nk k) = atKey ys (nk k) := by
        unfold atKey
        rw [List.find?_cons, decide_eq_false hn]
      rw [a1, a2]
      exact ih
theorem rel_app {xs : List En} {ys : List EnV} (r : Paired RelE xs ys) {x : En} {y : EnV} (e : RelE x y) : Paired RelE (xs ++ [x]) (ys ++ [y]) := by
  induction r with
  | nil => exact .cons e .nil
  | cons e' t ih => exact .cons e' ih
theorem rel_map {xs : List En} {ys : List EnV} (r : Paired RelE xs ys) {k : KN} {v : V} {u : Value} (rv : RelV v u) : Paired RelE (xs.map (fun x => if x.1 = k then (x.1, x.2.1, v) else x)) (ys.map (putAt (nk k) u)) := by
  induction r with
  | nil => exact .nil
  | @cons x y xs ys e t ih =>
    obtain ⟨e1, e2, e3⟩ := e
    rw [List.map_cons, List.map_cons]
    refine .cons ?_ ih
    by_cases h : x.1 = k
    · rw [if_pos h, show putAt (nk k) u y = (y.1, y.2.1, u) from if_pos (by rw [e1, h])]
      exact ⟨e1, e2, rv⟩
    · rw [if_neg h, show putAt (nk k) u y = y from if_neg fun e => h (nk_inj (by rw [← e1, e]))]
      exact ⟨e1, e2, e3⟩
theorem rel_put {xs : List En} {ys : List EnV} (r : Paired RelE xs ys) {k : KN} {a : Addr} {v : V} {u : Value} (rv : RelV v u) : Paired RelE (putN xs k a v) (storedH ys (nk k) a u) := by
  rcases rel_at r k with ⟨h1, h2⟩ | ⟨p, q, h1, h2, _, _⟩
  · rw [storedH_new h2]
    unfold putN
    rw [h1]
    exact rel_app r ⟨rfl, rfl, rv⟩
  · rw [storedH_old h2]
    unfold putN
    rw [h1]
    exact rel_map r rv
theorem len_put (xs : List En) (k : KN) (a : Addr) (v : V) : (putN xs k a v).length ≤ xs.length + 1 := by
  unfold putN
  split
  · rw [List.length_map]
    exact Nat.le_succ _
  · rw [List.length_append]
    exact Nat.le_refl _
theorem keys_put {K : PySem.W.Frag} {H H' : Hp} {xs : List En} {k : KN} {a : Addr} {v : V} (h : KeysOk K H xs) (hk : NkT K H k a) : KeysOk K H (putN xs k a v) := by
  unfold putN
  split
  · intro x hx
    obtain ⟨y, hy, rfl⟩ := List.mem_map.mp hx
    have := h y hy
    split
    · exact this
    · exact this
  · intro x hx
    rcases List.mem_append.mp hx with h1 | h1
    · exact h x h1
    · rw [List.mem_singleton.mp h1]
      exact hk
section
variable {X : Cx} {o i value : Expr} {pos pos' : Pos} {td ty tv : TE}
def tNNew (P : Program) (w : World) : TE := fun _ H Q => ∀ p, H p = none → Q (.ref p) (upd H p (ND P w p []))
theorem pe_nnew : PE X (.Dict [] [] pos) (tNNew X.prog X.w) := ⟨fun pins s σ H Q I h =>
  wpAny_Dict_empty ⟨.ref s.heap.objs.size, _, I.laid (a := s.heap.objs.size) (o := ND X.prog X.w s.heap.objs.size []) (t' := s.toks) (fun _ _ q => Heap.get?_push_of_some _ q) (Nat.le_refl _)
    (nd_ok ⟨Nat.zero_le _, beq_eq_false_iff_ne.mpr (Ne.symm (Nat.ne_of_lt I.big)), [], .nil, _, #[], 0, Heap.get?_push_size _ rfl, ⟨rfl, rfl, rfl⟩, rfl, rfl, List.nodup_nil⟩), rfl, h _ (I.hok.fresh (Nat.le_refl _))⟩⟩
/-- d[y] = v -/
def sNPut (P : Program) (w : World) (K : PySem.W.Frag) (td ty tv : TE) : TS := fun D σ H => tv σ H fun v H1 => td σ H1 fun x H2 => ty σ H2 fun y H3 => ∃ (a b : Addr) (xs : List En) (k : KN), x = .ref a ∧ y = .ref b ∧ H3 a = some (ND P w a xs) ∧ KeysOk K H3 xs ∧ NkT K H3 k b ∧ xs.length < sizeLine ∧
  D.nx σ (upd H3 a (ND P w a (putN xs k b v)))
theorem ps_nput (hu : X.A.units + 64 < cLine) (ho : PE X o td) (hi : PE X i ty) (hv : PE X value tv) (hs : swapsWith value (some (.Subscript o i pos')) pos.line X.env = pure false) :
    PS X (.Assign [.Subscript o i pos'] value pos) (sNPut X.prog X.w X.K td ty tv) := by
  refine ⟨fun pins s σ H D I h => ?_⟩
  refine wpAny_Assign_Subscript (thn (hv.run pins s σ H _ I h) fun r s1 ⟨v, H1, I1, rv, q1⟩ => thn (ho.run pins s1 σ H1 _ I1 q1) fun u s2 ⟨x, H2, I2, rx, q2⟩ => thn (hi.run pins s2 σ H2 _ I2 q2) fun iv s3 ⟨y, H3, I3, ry, a, b, xs, k, ex, ey, hd, hk, hb, hl, q3⟩ => ?_) hs
  subst ex ey
  obtain rfl : u = Value.ref a := rx
  obtain rfl : iv = Value.ref b := ry
  obtain ⟨h1, h2, ys, h3, hm⟩ := nd_rd I3 (.inl hd) hk
  have hz : ys.length ≤ sizeLine := by
    have := Paired.length h3
    omega
  refine wpAny_setItem_heap (hsz := hz) (show X.A.units + 1 + 8 < cLine by omega) (key_is I3 hb) hm fun h' dd' hsb => ⟨σ, _, ?_, q3⟩
  obtain ⟨q, es, ep, g1, g2, g3, g4, _, g5⟩ := dd'
  refine d_write I3 (by rw [hd]; exact True.intro) hsb ⟨q, g1⟩ (nd_ok ⟨?_, h1, _, rel_put h3 rv, q, es, ep, g1, g2, g3, g4, g5⟩)
  have := len_put xs k b v
  omega
/-- d[y] -/
def tNGet (P : Program) (w : World) (K : PySem.W.Frag) (td ty : TE) : TE := fun σ H Q => td σ H fun x H1 => ty σ H1 fun y H2 => ∃ (a b : Addr) (xs : List En) (k : KN) (p : Addr × V), x = .ref a ∧ y = .ref b ∧ Rd H2 a (ND P w a xs) ∧ KeysOk K H2 xs ∧ NkT K H2 k b ∧ atN xs k = some p ∧ Q p.2 H2
theorem pe_nget (hu : X.A.units + 64 < cLine) (ho : PE X o td) (hi : PE X i ty) (hs : NoSl i) : PE X (.Subscript o i pos) (tNGet X.prog X.w X.K td ty) := by
  refine ⟨fun pins s σ H Q I h => ?_⟩
  refine subD_of PySem.F.slot_dict_getitem.lookup hs (thn (ho.run pins s σ H _ I h) fun u s1 ⟨x, H1, I1, rx, q1⟩ => thn (hi.run pins s1 σ H1 _ I1 q1) fun iv s2 ⟨y, H2, I2, ry, a, b, xs, k, p, ex, ey, hd, hk, hb, hat, q2⟩ => ?_)
  subst ex ey
  obtain rfl : u = Value.ref a := rx
  obtain rfl : iv = Value.ref b := ry
  obtain ⟨h1, h2, ys, h3, hm⟩ := nd_rd I2 hd hk
  rcases rel_at h3 k with ⟨z, _⟩ | ⟨p', q', e1, e2, e3, e4⟩
  · rw [hat] at z
    cases z
  · rw [hat] at e1
    cases e1
    exact ⟨hm.typeIs, wpAny_getItem_heap (show X.A.units + 1 + 8 < cLine by omega) (key_is I2 hb) hm e2 ⟨p.2, H2, I2.tok _, e4, q2⟩⟩
end
end ND
namespace ND
open PySem PySem.Spec PyProof.Rows L2
section
variable {X : Cx} {pins : List (Addr × Obj)} {σ : L2.St} {H : Hp} {s : Shared} {d : Addr} {o : Obj} {xs : List En}
theorem frzN (I : Inv X pins σ H s) (h : H d = some (.frz o (ND X.prog X.w d xs))) :
    (d == sysModules) = false ∧ s.heap.get? d = some o ∧ o.ExactDict ∧ xs.length ≤ sizeLine ∧ ∃ (es : Array DictEntry) (ep : Nat), o.data = .dict es ep ∧ es.size = xs.length ∧
      ∀ (i : Nat) (e : En), xs[i]? = some e → ∃ en : DictEntry, es[i]? = some en ∧ en.key = .ref e.2.1 := by
  obtain ⟨hd, ⟨hz, hs, ys, pr, o', es, ep, ho, hx, hdt, he, _⟩, _⟩ := I.hok d _ h
  rw [hd] at ho
  cases ho
  refine ⟨hs, hd, hx, hz, es, ep, hdt, ?_, fun i e hi => ?_⟩
  · have l1 : es.size = ys.length := by
      have := congrArg List.length he
      rw [List.length_map, Array.length_toList] at this
      exact this
    have l2 : xs.length = ys.length := Paired.length pr
    omega
  · obtain ⟨y, hy, e1, e2, _⟩ := paired_get pr hi
    have q := entry_at he i
    rw [hy] at q
    exact ⟨_, q, congrArg Value.ref e2.symm⟩
end
def Itn (P : Program) (w : World) (d : Addr) (o : Obj) (xs : List En) : It :=
  ⟨fun i H => H d = some (.frz o (ND P w d xs)) ∧ i < xs.length, fun i H x H' => H' = H ∧ ∃ e : En, xs[i]? = some e ∧ x = .ref e.2.1, fun i H => H d = some (.frz o (ND P w d xs)) ∧ xs.length ≤ i⟩
section
variable {P : Program} {w : World} {K : PySem.W.Frag} {tg : Expr} {d : Addr} {o : Obj} {es : Array DictEntry} {ep : Nat} {xs : List En}
theorem turn_n (it : Addr) (hod : o.data = .dict es ep) : Turn P w K tg (Itn P w d o xs) [it] it (fun i h => h.IsKeyIter it d i xs.length ep) where
  mem := by simp
  obj := fun i h st b hb => by
    have e : b = it := by simpa using hb
    subst e
    obtain ⟨oi, e, c, dd⟩ := st
    exact ⟨oi, e, fun v z => by rw [dd] at z; cases z⟩
  keep := fun i h h' st k => st.at fun oi e => k it (by simp) oi e
  item := by
    intro X hP hw hK hc i pins s σ H E I hf st hg
    subst hP hw hK
    obtain ⟨hd, hi⟩ := hg
    obtain ⟨f0, f1, f2, f3, f4, f5⟩ := hf it (by simp)
    obtain ⟨hs, hgd, hx, hz, es', ep', hdt, hsz, ent⟩ := frzN I hd
    obtain ⟨rfl, rfl⟩ := dict_ep hod hdt
    obtain ⟨e, he⟩ : ∃ p, xs[i]? = some p := ⟨xs[i], List.getElem?_eq_getElem hi⟩
    obtain ⟨en, hen, hkey⟩ := ent i e he
    refine next_key_item st hgd hdt hsz hen fun h' st' sb => ?_
    have I1 : Inv X pins σ H { s with heap := h' } := I.turned (t' := s.toks) (fun b ob hb e => (sb.2 b hb).trans e) f0 f1 f3 f4 f5
    obtain ⟨oi, eo, c, dd⟩ := id st'
    exact ⟨en.key, rfl, go_of (s := { s with heap := h' }) eo c dd (by decide) ⟨.ref e.2.1, H, I1, hkey, ⟨rfl, e, he, rfl⟩, st', fun b hb => (hf b hb).1⟩⟩
  done := by
    intro X hP hw hK hc i pins s σ H E I hf st hg
    subst hP hw hK
    obtain ⟨hd, hi⟩ := hg
    obtain ⟨f0, f1, f2, f3, f4, f5⟩ := hf it (by simp)
    obtain ⟨hs, hgd, hx, hz, es', ep', hdt, hsz, ent⟩ := frzN I hd
    obtain ⟨rfl, rfl⟩ := dict_ep hod hdt
    exact next_key_end (I.ok.hd hc) st hgd hdt hsz hi fun h' eb => ⟨rfl, I.turned (t' := s.toks) (fun b ob hb e => eb b ob hb e) f0 f1 f3 f4 f5⟩
  self := fun A i s Q E st h => by
    refine wpAny_pyIter_slot st.typeIs F.slot_dict_keyiterator_iter (wpAny_call_entry F.slot_dict_keyiterator_iter st.typeIs F.entry_dict_keyiterator_iter ?_ (F.args_dict_keyiterator_iter_1 _))
    show wpAny _ _ (ret (.ref it)) _ _ s
    exact wpAny_pure ⟨_, rfl, "dict_keyiterator", _, st.typeIs, F.slot_dict_keyiterator_next.lookup, h⟩
end
/-- for key in d: the dict locked -/
def iKeysN (P : Program) (w : World) (td : TE) : TI := fun σ H R => td σ H fun x H1 => ∃ d o xs, x = .ref d ∧ H1 d = some (.frz o (ND P w d xs)) ∧ R (Itn P w d o xs) H1
theorem pi_keysN {X : Cx} {tg e : Expr} {td : TE} (he : PE X e td) : PI X tg e (iKeysN X.prog X.w td) := by
  refine ⟨fun pins s σ H R I h => ?_⟩
  refine thn (he.run pins s σ H _ I h) fun u s1 ⟨x, H1, I1, rx, d, o, xs, ex, hd, q⟩ => ?_
  subst ex
  obtain rfl : u = Value.ref d := rx
  obtain ⟨hs, hgd, hx, hz, es, ep, hdt, hsz, ent⟩ := frzN I1 hd
  refine iter_keys hs hgd hx hdt (pi_one (tk := s1.toks) I1 _ (turn_n _ hdt) ⟨_, Heap.get?_push_size _ rfl, rfl, ?_⟩ q)
  rw [hsz] <;> rfl
theorem walk_keysN {P : Program} {w : World} {d : Addr} {o : Obj} {xs : List En} : Walk (Itn P w d o xs) xs.length (fun H => H d = some (.frz o (ND P w d xs))) (fun i H x H' => H' = H ∧ ∃ e : En, xs[i]? = some e ∧ x = .ref e.2.1) :=
  ⟨fun _ _ hi q => ⟨q, hi⟩, fun _ q => ⟨q, Nat.le_refl _⟩, fun _ _ _ _ _ _ y => y⟩
end ND
namespace ND
open PySem PySem.Spec PyProof.Rows L2
/-- over the keys -/
theorem lc_keysN {P : Program} {w : World} {d : Addr} {o : Obj} {xs : List En} {g : TG} {tt : TT} {te : TE} {vs : List Nat} {σ : L2.St} {H1 : Hp} {D : Addr} {Qd : Hp → Prop} (Pv : Nat → Hp → Prop) (h0 : Pv 0 (upd H1 D (.lst []))) (hl : ∀ i H, i ≤ xs.length → Pv i H → H d = some (.frz o (ND P w d xs)))
    (hs : ∀ (i : Nat) (e : En) H, xs[i]? = some e → Pv i H → g (.ref e.2.1) (wipe σ vs) H fun σ2 H2 => wipe σ2 vs = wipe σ vs ∧ tt σ2 H2 fun b H3 =>
      if b = true then te σ2 H3 fun y H4 => ∃ acc, H4 D = some (.lst acc) ∧ acc.length < sizeLine ∧ Pv (i + 1) (upd H4 D (.lst (acc ++ [y]))) else Pv (i + 1) H3) (hd : ∀ H, Pv xs.length H → Qd H) :
    ∃ W : Nat → Nat → Hp → Prop, (∃ m, W 0 m (upd H1 D (.lst []))) ∧ ∀ i m H, W i m H →
      ((Itn P w d o xs).stop i H ∧ Qd H) ∨ ((Itn P w d o xs).go i H ∧ ∃ Nx : Hp → Prop, (∀ H', Nx H' → ∃ m', m' < m ∧ W (i + 1) m' H') ∧ ∀ x H', (Itn P w d o xs).yld i H x H' → g x (wipe σ vs) H' fun σ2 H2 => wipe σ2 vs = wipe σ vs ∧ tt σ2 H2 fun b H3 =>
        if b = true then te σ2 H3 fun y H4 => ∃ acc, H4 D = some (.lst acc) ∧ acc.length < sizeLine ∧ Nx (upd H4 D (.lst (acc ++ [y]))) else Nx H3) := by
  refine ⟨fun i m H => m = xs.length - i ∧ i ≤ xs.length ∧ Pv i H, ⟨xs.length, by simp, Nat.zero_le _, h0⟩, ?_⟩
  rintro i m H ⟨rfl, hi, p⟩
  have q := hl i H hi p
  by_cases hlt : i < xs.length
  · refine .inr ⟨⟨q, hlt⟩, Pv (i + 1), fun H' p' => ⟨xs.length - (i + 1), by omega, rfl, hlt, p'⟩, fun x H' y => ?_⟩
    obtain ⟨e, z, hz, rfl⟩ := y
    subst e
    exact hs i z _ hz p
  · have e : i = xs.length := by omega
    subst e
    exact .inl ⟨⟨q, Nat.le_refl _⟩, hd H p⟩
def encN (e : En) : PyData := .tuple [.tuple (e.1.1.map .str), .int e.1.2]
theorem alike_strs : ∀ xs ys : List Str, PySem.W.alikeAll (xs.map .str) (ys.map .str) = true
  | [], _ => by simp [PySem.W.alikeAll]
  | _ :: _, [] => by simp [PySem.W.alikeAll]
  | x :: xs, y :: ys => by
    show PySem.W.alikeAll (.str x :: xs.map .str) (.str y :: ys.map .str) = true
    rw [PySem.W.alikeAll, alike_strs xs ys]
    simp [PySem.W.alike]
theorem depth_strs : ∀ xs : List Str, PyData.depthAll (xs.map .str) = 0
  | [] => by simp [PyData.depthAll]
  | x :: xs => by
    show PyData.depthAll (.str x :: xs.map .str) = 0
    rw [PyData.depthAll, depth_strs xs]
    simp [PyData.depth]
theorem alike_n (a b : En) : PySem.W.alike (encN a) (encN b) = true := by
  unfold encN
  simp [PySem.W.alike, PySem.W.alikeAll, alike_strs]
theorem depth_n (a : En) : (encN a).depth ≤ 2 := by
  unfold encN
  simp [PyData.depth, PyData.depthAll, depth_strs]
theorem reads_strs {h : Heap} : ∀ {ss : List Str} {us : List Value}, Vals (ss.map V.str) us → ReadsAll h us (ss.map .str) []
  | [], _, .nil => .nil
  | s :: r, _, .cons e t => by
    obtain ⟨tk, rfl⟩ := e
    exact .cons (.str s tk) (reads_strs t)
section
variable {X : Cx} {pins : List (Addr × Obj)} {σ : L2.St} {H : Hp} {s : Shared} {xs : List En}
theorem key_reads {e : En} (I : Inv X pins σ H s) (h : NkT X.K H e.1 e.2.1) : Reads s.heap (.ref e.2.1) (encN e) [] := by
  obtain ⟨b, h1, h2⟩ := h
  obtain ⟨its, rv, ⟨o, e1, e2, n, e3⟩, _⟩ := I.tuple h1
  obtain ⟨its2, rv2, ⟨o2, f1, f2, n2, f3⟩, _⟩ := I.tuple h2
  obtain ⟨u1, u2, rfl, r1, r2⟩ := Vals.two rv
  obtain rfl : u1 = Value.ref b := r1
  obtain ⟨t, rfl⟩ := r2
  exact .tuple e1 e2 e3 (.cons (as := []) (bs := []) (.tuple f1 f2 f3 (reads_strs rv2)) (.cons (as := []) (bs := []) (.int _ _) .nil))
theorem each_at {R : Value → En → Prop} : ∀ {us : List Value} {xs : List En}, us.length = xs.length → (∀ (i : Nat) (u : Value), us[i]? = some u → ∃ e, xs[i]? = some e ∧ R u e) → PySem.W.EachIs R us xs
  | [], [], _, _ => .nil
  | u :: us, x :: xs, hl, h => by
    obtain ⟨e, e1, e2⟩ := h 0 u rfl
    obtain rfl : x = e := Option.some.inj e1
    exact .cons e2 (each_at (by simpa using hl) fun i v hv => by
      obtain ⟨e, a, b⟩ := h (i + 1) v (by simpa using hv)
      exact ⟨e, by simpa using a, b⟩)
  | [], _ :: _, hl, _ => by simp at hl
  | _ :: _, [], hl, _ => by simp at hl
theorem each_refs {us : List Value} {xs : List En} (e : PySem.W.EachIs (fun v (b : En) => v = Value.ref b.2.1) us xs) : Vals (xs.map fun b => V.ref b.2.1) us := by
  induction e with
  | nil => exact .nil
  | cons h t ih => exact .cons h ih
/-- sorted(d) -/
theorem cr_sortedN (hcalm : X.calm = true) (hu : X.A.units + 64 < cLine) : CallR X (.builtin "sorted") (fun vs H Q => ∃ (a : Addr) (xs : List En), vs = [V.ref a] ∧ Rd H a (ND X.prog X.w a xs) ∧ KeysOk X.K H xs ∧
    ∀ (ys : List En) p, ys.Perm xs → H p = none → Q (.ref p) (upd H p (.lst (ys.map fun e => V.ref e.2.1)))) := by
  intro pins s σ H vs us Q I r q
  obtain ⟨a, xs, rfl, hd, hk, q⟩ := q
  rw [Vals.ref1 r]
  obtain ⟨lo, hz, ys, rel, hm⟩ := nd_rd I hd hk
  obtain ⟨es, ep, hraw, hsz, hent⟩ := hm.raw
  have hl : xs.length = ys.length := Paired.length rel
  refine Calls.call_function_entry PyProof.Rows.kind_sorted PyProof.Rows.plain_sorted PyProof.Rows.entry_sorted (PyProof.Rows.args_sorted1 _) ?_
  unfold Builtin.«sorted»
  refine wpAny_bind (m := checkCount "sorted" 1 1 _) (wpAny_pure ?_)
  refine wpAny_bind (PySem.W.kdu_collect (A := X.A.in1) (KdlSrc.rawDict lo) (I.ok.hd hcalm) hraw (by omega) fun h' tk acc hk' hacc => ?_)
  have I1 : Inv X pins σ H { s with heap := h', toks := tk } := I.kept hk'
  have hal : acc.toList.length = xs.length := by rw [Array.length_toList, hacc.1, hsz, hl]
  have hE : PySem.W.EachIs (fun v (b : En) => v = Value.ref b.2.1) acc.toList xs := each_at hal fun i u hiu => by
    obtain ⟨hi, e1⟩ := hacc.2 i u (by rw [← Array.getElem?_toList]; exact hiu)
    obtain ⟨y, g1, g2, _⟩ := hent i hi
    obtain ⟨x, hx⟩ : ∃ x, xs[i]? = some x := ⟨xs[i]'(by omega), List.getElem?_eq_getElem _⟩
    obtain ⟨y', g3, _, g4, _⟩ := paired_get rel hx
    rw [g1] at g3
    obtain rfl : y = y' := Option.some.inj g3
    exact ⟨x, hx, by rw [e1, g2, g4]⟩
  refine wpAny_bind (wpAny_newList ?_ (by rw [hal]; exact hz))
  have hoL : (h'.push (seqObj "list" acc.toList.toArray 0)).get? h'.objs.size = some (seqObj "list" acc.toList.toArray 0) := Heap.get?_push_size _ rfl
  show wpAny _ _ _ _ _ { s with heap := h'.push (seqObj "list" acc.toList.toArray 0), toks := tk }
  have hkp : ∀ b o, h'.get? b = some o → (h'.push (seqObj "list" acc.toList.toArray 0)).get? b = some o := fun b o e => Heap.get?_push_of_some _ e
  have I2 : Inv X pins σ H { s with heap := h'.push (seqObj "list" acc.toList.toArray 0), toks := tk } := I1.kept (t' := tk) hkp
  refine wpAny_bind (wpAny_holding (PySem.W.list_sort_data (s := { s with heap := h'.push (seqObj "list" acc.toList.toArray 0), toks := tk }) (bs := xs) (enc := encN) (R := fun v b => v = Value.ref b.2.1) hoL hE ?_ (PySem.W.AllAlike.of alike_n) (PySem.W.Sortable.tuples fun b => ⟨_, _, rfl⟩) hz (fun b _ => ?_) fun out ho1 ho2 => ?_))
  · have : ∀ {us : List Value} {zs : List En}, (∀ z ∈ zs, z ∈ xs) → PySem.W.EachIs (fun v (b : En) => v = Value.ref b.2.1) us zs → PySem.W.EachIs (fun v (b : En) => ∃ as, Reads (h'.push (seqObj "list" acc.toList.toArray 0)) v (encN b) as ∧ h'.objs.size ∉ as) us zs := fun {us zs} hz e => by
      induction e with
      | nil => exact .nil
      | cons h t ih =>
        refine .cons ?_ (ih fun z hz' => hz z (List.mem_cons_of_mem _ hz'))
        subst h
        exact ⟨[], key_reads I2 (hk _ (hz _ List.mem_cons_self)), List.not_mem_nil⟩
    exact this (fun z hz => hz) hE
  · show X.A.units + 1 + 1 + (encN b).depth < cLine
    have := depth_n b
    omega
  · obtain ⟨e', he'⟩ := PyProof.Rows.sortedHeap_at (vs := acc.toList) (out := out.toArray) hoL
    have hp : (xs.mergeSort (PySem.W.dataLe false encN)).Perm xs := List.mergeSort_perm _ _
    refine wpAny_pure ⟨_, rfl, .ref h'.objs.size, upd H h'.objs.size (.lst ((xs.mergeSort (PySem.W.dataLe false encN)).map fun e => V.ref e.2.1)), I1.laid (t' := tk) (fun b u e => ?_) (Nat.le_refl _)
      (show ObjOk X.prog X.w _ _ _ (.lst _) from ⟨?_, out, e', each_refs ho2, he'⟩), rfl, q _ _ hp (I1.hok.fresh (Nat.le_refl _))⟩
    · have hb : b < h'.objs.size := Heap.lt_size e
      rw [PyProof.Rows.sortedHeap_old (Nat.ne_of_lt hb) (by rw [size_push']; exact Nat.lt_succ_of_lt hb)]
      exact Heap.get?_push_of_some _ e
    · rw [List.length_map, hp.length_eq]
      exact hz
end
end ND
namespace ND
open PySem PySem.Spec PyProof.Rows L2
theorem pe_ngetK {X : Cx} {P : Program} {w : World} {K : PySem.W.Frag} {o i : Expr} {pos : Pos} {td ty : TE} (hP : X.prog = P) (hw : X.w = w) (hK : X.K = K) (hu : X.A.units + 64 < cLine) (ho : PE X o td) (hi : PE X i ty) (hs : NoSl i) : PE X (.Subscript o i pos) (tNGet P w K td ty) := by
  subst hP hw hK
  exact pe_nget hu ho hi hs
section
variable {X : Cx} {P : Program} {w : World} {K : PySem.W.Frag}
theorem pe_nnewK {pos : Pos} (hP : X.prog = P) (hw : X.w = w) : PE X (.Dict [] [] pos) (tNNew P w) := by
  subst hP hw
  exact pe_nnew
theorem ps_nputK {o i value : Expr} {pos pos' : Pos} {td ty tv : TE} (hP : X.prog = P) (hw : X.w = w) (hK : X.K = K) (hu : X.A.units + 64 < cLine) (ho : PE X o td) (hi : PE X i ty) (hv : PE X value tv) (hs : swapsWith value (some (.Subscript o i pos')) pos.line X.env = pure false) :
    PS X (.Assign [.Subscript o i pos'] value pos) (sNPut P w K td ty tv) := by
  subst hP hw hK
  exact ps_nput hu ho hi hv hs
theorem pi_keysNK {tg e : Expr} {td : TE} (hP : X.prog = P) (hw : X.w = w) (he : PE X e td) : PI X tg e (iKeysN P w td) := by
  subst hP hw
  exact pi_keysN he
theorem cr_sortedNK (hP : X.prog = P) (hw : X.w = w) (hK : X.K = K) (hcalm : X.calm = true) (hu : X.A.units + 64 < cLine) : CallR X (.builtin "sorted") (fun vs H Q => ∃ (a : Addr) (xs : List En), vs = [V.ref a] ∧ Rd H a (ND P w a xs) ∧ KeysOk K H xs ∧
    ∀ (ys : List En) p, ys.Perm xs → H p = none → Q (.ref p) (upd H p (.lst (ys.map fun e => V.ref e.2.1)))) := by
  subst hP hw hK
  exact cr_sortedN hcalm hu
end
end ND
/-! ### t[::-1] of a tuple; list(d.values()) -/
namespace RV
open PySem PySem.Spec PyProof.Rows L2
theorem rev_pick {α : Type} (l : List α) : (List.range l.length).filterMap (fun m => l[l.length - 1 - m]?) = l.reverse := by
  apply List.ext_getElem?
  intro i
  have key : ∀ (n : Nat), n ≤ l.length → ∀ i, ((List.range n).filterMap (fun m => l[l.length - 1 - m]?))[i]? = if i < n then l[l.length - 1 - i]? else none := by
    intro n
    induction n with
    | zero => intro _ i; simp
    | succ n ih =>
      intro hn i
      have hs : l[l.length - 1 - n]? = some (l[l.length - 1 - n]'(by omega)) := List.getElem?_eq_getElem _
      have hlen : ((List.range n).filterMap (fun m => l[l.length - 1 - m]?)).length = n := by
        have h0 : ∀ j, j < n → ((List.range n).filterMap (fun m => l[l.length - 1 - m]?))[j]? ≠ none := fun j hj => by
          rw [ih (by omega) j, if_pos hj]
          rw [List.getElem?_eq_getElem (by omega)]
          exact fun e => by cases e
        have h2 : ((List.range n).filterMap (fun m => l[l.length - 1 - m]?))[n]? = none := by
          rw [ih (by omega) n, if_neg (Nat.lt_irrefl _)]
        have h3 := List.getElem?_eq_none_iff.mp h2
        rcases Nat.lt_or_ge ((List.range n).filterMap (fun m => l[l.length - 1 - m]?)).length n with h4 | h4
        · exact absurd (List.getElem?_eq_none_iff.mpr (Nat.le_refl _)) (h0 _ h4)
        · omega
      rw [List.range_succ, List.filterMap_append]
      by_cases h : i < n
      · rw [List.getElem?_append_left (by omega), ih (by omega), if_pos h, if_pos (by omega)]
      · rw [List.getElem?_append_right (by omega), hlen]
        simp only [List.filterMap_cons, List.filterMap_nil, hs]
        by_cases h2 : i = n
        · subst h2
          rw [Nat.sub_self, if_pos (Nat.lt_succ_self _), hs]
          rfl
        · rw [if_neg (by omega), show i - n = (i - n - 1) + 1 by omega]
          rfl
  rw [key _ (Nat.le_refl _)]
  by_cases h : i < l.length
  · rw [if_pos h, List.getElem?_reverse h]
  · rw [if_neg h, List.getElem?_eq_none (by rw [List.length_reverse]; omega)]
section
variable {prog : Program} {w : World} {A : Around} {E : Value → Shared → Prop} {s : Shared}
theorem getItem_tuple_rev {t sl : Addr} {items : Array Value} {vs : Value} {Q : Value → Shared → Prop} (ht : IsTup s.heap t items) (hs : s.heap.IsSliceOf sl .none .none vs) (ps : IsPart vs (some (-1)))
    (h : Q (.ref s.heap.objs.size) { s with heap := s.heap.push { cls := .type "tuple", data := .seq items.toList.reverse.toArray } })
    (hsz : items.size ≤ sizeLine) : wpAny (model prog w) A (getItem (.ref t) (.ref sl)) Q E s := by
  have htake : sizeOk (.seq items.toList.reverse.toArray) := by
    show items.toList.reverse.toArray.size ≤ sizeLine
    rw [List.size_toArray, List.length_reverse, Array.length_toList]
    exact hsz
  obtain ⟨os, hos, hcs, hds⟩ := id hs
  have hTs : s.TypeIs (.ref sl) "slice" := ⟨os, hos, hcs⟩
  unfold getItem
  try with_reducible refine wpAny_holding ?_
  first | refine wpAny_bind (wpAny_pure ?_) | skip
  refine wpAny_bind (wpAny_sequenceKey ht.typeIs (by decide) ?_)
  refine wpAny_bind (wpAny_callSpecial?_slot (name := Str.ofString "__getitem__") ht.typeIs PyProof.Rows.slot_tuple_getitem
    (wpAny_call_entry PyProof.Rows.slot_tuple_getitem ht.typeIs entry_tuple_getitem ?_ (args_tuple_getitem _ _)))
  show wpAny _ _ (Builtin.Tuple.tupleItemsOf (.ref t) >>= _) _ _ s
  refine wpAny_bind (tupleItemsOf_ ht ?_)
  refine wpAny_bind (wpAny_typeOf hTs ?_)
  rw [if_pos (by decide)]
  have ap : ∀ {A' : Around} {E' : Value → Shared → Prop} {Q' : Int × Int × Nat → Shared → Prop}, Q' ((items.size : Int) - 1, -1, items.size) s → wpAny (model prog w) A' (Builtin.Slice.sliceApplied (.ref sl) (pure (items.size : Int))) Q' E' s := fun {A' E' Q'} hQ => by
    unfold Builtin.Slice.sliceApplied Builtin.Slice.sliceFields
    refine wpAny_bind (wpAny_bind (wpAny_field hos hds (x := .none) rfl (wpAny_bind (wpAny_field hos hds (x := .none) rfl (wpAny_bind (wpAny_field hos hds (x := vs) rfl (wpAny_pure ?_)))))))
    refine wpAny_bind (HT.slicePart_ ps ?_)
    show wpAny _ _ (if ((-1 : Int) == 0) = true then _ else _) _ _ s
    rw [if_neg (by decide)]
    refine wpAny_bind (slicePart_none (wpAny_bind (slicePart_none (wpAny_bind (wpAny_pure ?_)))))
    show wpAny _ _ (match Builtin.Slice.sliceAdjust none none (-1) (items.size : Int) with | (lo, hi) => pure (lo, (-1 : Int), Builtin.Slice.slicePlaces lo hi (-1))) _ _ s
    have e1 : Builtin.Slice.sliceAdjust none none (-1) (items.size : Int) = ((items.size : Int) - 1, -1) := rfl
    rw [e1]
    show wpAny _ _ (pure ((items.size : Int) - 1, (-1 : Int), Builtin.Slice.slicePlaces ((items.size : Int) - 1) (-1) (-1))) _ _ s
    have e2 : Builtin.Slice.slicePlaces ((items.size : Int) - 1) (-1) (-1) = items.size := by
      unfold Builtin.Slice.slicePlaces
      rw [if_neg (by decide)]
      show (if (items.size : Int) - 1 > -1 then ((items.size : Int) - 1 - -1 - 1) / 1 + 1 else 0).toNat = items.size
      rw [Int.ediv_one]
      split <;> omega
    rw [e2]
    exact wpAny_pure hQ
  refine wpAny_bind (ap ?_)
  have hno : ¬ ((((items.size : Int) - 1) == 0 && (-1 : Int) == 1 && items.size == items.size) = true) := by simp
  show wpAny _ _ (if (((items.size : Int) - 1) == 0 && (-1 : Int) == 1 && items.size == items.size) = true then _ else _) _ _ s
  have pk : ((List.range items.size).filterMap fun (m : Nat) => items[(((items.size : Int) - 1) + (m : Int) * -1).toNat]?).toArray = items.toList.reverse.toArray := by
    rw [← rev_pick items.toList, Array.length_toList]
    congr 2
    funext m
    rw [Array.getElem?_toList]
    congr 1
    omega
  rw [if_neg hno, pk]
  first
    | exact wpAny_bind (m := Builtin.Tuple.tupleExact _) (wpAny_newObj_type (wpAny_pure ⟨_, rfl, wpAny_pure h⟩) htake)
    | exact wpAny_bind (m := Builtin.Tuple.tupleExact _) (wpAny_newObj_type (wpAny_bind (wpAny_pure (wpAny_pure ⟨_, rfl, wpAny_pure h⟩))) htake)
    | exact wpAny_bind (wpAny_bind (m := Builtin.Tuple.tupleExact _) (wpAny_newObj_type (wpAny_pure (wpAny_pure ⟨_, rfl, wpAny_pure h⟩)) htake))
    | exact wpAny_bind (wpAny_bind (m := Builtin.Tuple.tupleExact _) (wpAny_newObj_type (wpAny_pure ⟨_, rfl, wpAny_pure h⟩) htake))
end
section
variable {X : Cx}
def tRevT (K : PySem.W.Frag) (te : TE) : TE := fun σ H Q => te σ H fun x H1 => ∃ a xs, x = .ref a ∧ SqT K H1 a xs ∧ ∀ p, H1 p = none → Q (.ref p) (upd H1 p (.tup xs.reverse))
theorem pe_revT {e : Expr} {te : TE} {k : Nat} {p1 p2 p3 pos : Pos} (he : PE X e te) : PE X (.Subscript e (.Slice none none (some (.UnaryOp .USub (.Constant (.int 1) k p1) p2)) p3) pos) (tRevT X.K te) := by
  refine ⟨fun pins s σ H Q I h => ?_⟩
  refine Subscript_ (thn (he.run pins s σ H _ I h) fun v s1 ⟨x, H1, I1, r1, q1⟩ => ?_)
  obtain ⟨a, xs, ex, hx, q⟩ := q1
  subst ex
  cases r1
  have hst : PO X (some (.UnaryOp .USub (.Constant (.int 1) k p1) p2)) (tPart (tUn (rU fun i => .int (-i)) (tC (.int 1)))) := po_some (pe_un un_neg pe_int)
  refine wpAny_Slice (thn (po_none.run pins s1 σ H1 (fun o H2 => o = none ∧ H2 = H1) I1 ⟨rfl, rfl⟩) fun vl s2 ⟨l, H2, I2, pl, el, e2⟩ => ?_)
  subst el e2
  refine thn (po_none.run pins s2 σ H2 (fun o H3 => o = none ∧ H3 = H2) I2 ⟨rfl, rfl⟩) fun vu s3 ⟨u, H3, I3, pu, eu, e3⟩ => ?_
  subst eu e3
  refine thn (hst.run pins s3 σ H3 (fun o H4 => o = some (-1) ∧ H4 = H3) I3 ⟨1, rfl, -1, rfl, rfl, rfl⟩) fun vs s4 ⟨o, H4, I4, ps, eo, e4⟩ => ?_
  subst eo e4
  have evl : vl = .none := by cases pl; rfl
  have evu : vu = .none := by cases pu; rfl
  subst evl evu
  have I5 : Inv X pins σ H4 { s4 with heap := s4.heap.push { cls := .type "slice", data := .fields #[.none, .none, vs] } } := I4.kept (t' := s4.toks) fun b ob q => Heap.get?_push_of_some _ q
  obtain ⟨its, r, ht, hz⟩ := I5.tuple hx
  have hlen := r.length
  show wpAny (model X.prog X.w) X.A (subscriptTail e (.Slice none none (some (.UnaryOp .USub (.Constant (.int 1) k p1) p2)) p3) (.ref a) (.ref s4.heap.objs.size)) (EP X pins σ Q) X.xe { s4 with heap := s4.heap.push { cls := .type "slice", data := .fields #[.none, .none, vs] } }
  refine tail_any (ops := [.ref a, .ref s4.heap.objs.size]) ht.typeIs (PyProof.Rows.slot_tuple_getitem.lookup) ?_ (by with_unfolding_all rfl)
  refine getItem_tuple_rev ht (Heap.IsSliceOf.new _ .none .none vs) ps ?_ (by rw [List.size_toArray]; omega)
  refine ⟨.ref _, _, I5.laid (t' := s4.toks) (o := .tup xs.reverse) (fun b ob q => Heap.get?_push_of_some _ q) (Nat.le_refl _) ?_, rfl, q _ (I5.hok.fresh (Nat.le_refl _))⟩
  exact ⟨by rw [List.length_reverse]; exact hz, _, r.reverse, IsTup.new (s4.heap.push { cls := .type "slice", data := .fields #[.none, .none, vs] }) _⟩
def tListVals (td : TE) : TE := fun σ H Q => td σ H fun x H1 => ∃ d kvs, x = .ref d ∧ Rd H1 d (.dK kvs) ∧ ∀ p, H1 p = none → Q (.ref p) (upd H1 p (.lst (kvs.map (·.2))))
theorem kv_vals {kvs : List (L2.Key × V)} {vs : List (L2.Key × Value)} (r : KV kvs vs) {us : List Value} (hl : us.length = vs.length) (h : ∀ (i : Nat) (u : Value), us[i]? = some u → ∃ k, vs[i]? = some (k, u)) : Vals (kvs.map (·.2)) us := by
  unfold KV at r
  induction r generalizing us with
  | nil =>
    cases us with
    | nil => exact .nil
    | cons u t => cases hl
  | @cons p q ps qs e t ih =>
    cases us with
    | nil => cases hl
    | cons u us =>
      obtain ⟨k, hk⟩ := h 0 u rfl
      obtain rfl : q = (k, u) := Option.some.inj hk
      exact .cons e.2 (ih (by simpa using hl) fun i v hv => by
        obtain ⟨k, hk⟩ := h (i + 1) v (by simpa using hv)
        exact ⟨k, by simpa using hk⟩)
theorem pe_listVals {p pos apos cpos : Pos} {e : Expr} {td : TE} (hc : X.calm = true) (hg : Gl X "list") (hm : X.mg "list" = none) (he : PE X e td) (hbase : attributeBase e "values" X.env (eval e X.env) = eval e X.env := by rfl) (hline : (apos.endLine == cpos.line) = true := by rfl)
    (na : starEach [.Call (.Attribute e "values" apos) [] [] cpos] X.env = (false, eval (.Call (.Attribute e "values" apos) [] [] cpos) X.env) :: starEach [] X.env := by rfl) :
    PE X (.Call (.Name "list" p) [.Call (.Attribute e "values" apos) [] [] cpos] [] pos) (tListVals td) := by
  refine ⟨fun pins s σ H Q I h => ?_⟩
  refine Call_ (ld_blt I hg hm boot_list (PyProof.Rows.callWith_type1 (args_cons ?_ na) na))
  refine wpAny_Call_method (T := "dict") (id := "dict.values") hbase rfl hline F.plainAttrs_dict F.slot_dict_values F.type_dict_values (thn (he.run pins s σ H _ I h) fun u s1 ⟨x, H1, I1, rx, d, kvs, ex, hd, q⟩ => ?_)
  subst ex
  obtain rfl : u = Value.ref d := rx
  obtain ⟨z, lo, vs, rel, dd⟩ := dk_rd I1.hok hd
  obtain ⟨ep, hat⟩ := dd.dictAt
  have hl : kvs.length = vs.length := Paired.length rel
  refine ⟨dd.typeIs, dd.mapOf.noDict, ?_⟩
  have I2 : Inv X pins σ H1 { s1 with heap := s1.heap.push { cls := .type "dict_values", data := .fields #[.ref d] } } := I1.kept (t' := s1.toks) fun b ob q => Heap.get?_push_of_some _ q
  show wpAny _ _ (callWith cpos (.builtin "dict.values") [.ref d] [] []) _ X.xe s1
  refine method_meetsIn F.slot_dict_values F.entry_dict_values rfl (PySem.evalArgs_none ⟨rfl, dd.typeIs, F.args_dict_values_1 _, _, meets_dict_values (mixKind X.prog X.w) d lo, ⟨vs, dd⟩, ?_⟩)
  refine args_nil ?_
  refine PySem.W.kdl_call (s := { s1 with heap := s1.heap.push { cls := .type "dict_values", data := .fields #[.ref d] } }) (PySem.W.kdl_values (knd := mixKind X.prog X.w) (kvs := vs) (ep := ep)) (I2.ok.hd hc) ⟨⟨_, Heap.get?_push_size _ rfl, rfl, rfl⟩, hat.push _⟩ (by rw [← hl]; exact z) fun h' tk acc c' hk hD hacc => ?_
  have hv : Vals (kvs.map (·.2)) acc.toList := kv_vals rel (by rw [Array.length_toList]; exact hacc.1) fun j v e => hacc.2 j v (by rw [← Array.getElem?_toList]; exact e)
  refine ⟨.ref _, upd H1 (s1.heap.push { cls := .type "dict_values", data := .fields #[.ref d] }).objs.size (.lst (kvs.map (·.2))), I2.laid (t' := tk) hk (Nat.le_refl _)
    (show ObjOk X.prog X.w _ _ _ (.lst (kvs.map (·.2))) from ⟨by rw [List.length_map]; exact z, acc.toList, c', hv, by rw [Array.toArray_toList]; exact hD⟩), rfl, q _ (I2.hok.fresh (Nat.le_refl _))⟩
end
end RV
/-! ### an own exception over a chain of own classes over ValueError whose __init__ says super().__init__(e): its __init__ walked as a def -/
namespace EXS
open PySem PySem.Spec PyProof.Rows L2 NdefX PySem.W PySem.Calls
/-- what the written part says of such an __init__ -/
structure SupD (P : Program) (K : PySem.W.Frag) (mg : Str → Option Value) (f C : Addr) (F : NF) (doc pm ctv : Value) : Prop where
  lk : ∃ (oc : Value) (od : Option Addr) (osl : Array (Option Value)), K.lookup f = some ⟨oc, od, .func (F.fd doc pm ctv), osl⟩
  cell : ∃ (cc : Addr) (cl : Value) (cld : Option Addr) (csl : Array (Option Value)), F.cl = [(("__class__" : Str), cc)] ∧ K.lookup cc = some ⟨cl, cld, .cell (some (.ref C)), csl⟩
  hcd : PySem.W.codeIn K (.ref F.c) F.qual = true
  file : ∃ (ccl : Value) (cdd : Option Addr) (vs : Array Value) (ccs : Array (Option Value)) (file : Str) (tf : Tok), K.lookup F.c = some ⟨ccl, cdd, .fields vs, ccs⟩ ∧ vs[2]? = some (.str file tf) ∧ ((P.main.file : Str) == file) = true
  own : mroIn K C (.ref C) = some true
  op : nsIn K cStatics "thirdparty.any" = some none
  sup : ks_superIn K C C "__init__" = some (some (.builtin "ValueError.__init__"))
  isVE : subIn K (.ref C) (.type "ValueError") = some true
theorem fn_sup {CX : CXT} {P : Program} {w : World} {K : PySem.W.Frag} {mg : Str → Option Value} {base : Heap} {k : Nat} {f C : Addr} {F : NF} {doc pm ctv : Value} {ar : Arg} {pl : Env → Sem Bool} {N ps : List Str} {sp : Sp} {arg : Expr} {rest : List Stmt} {p0 p1 p2 p3 p4 : Pos}
    (X : SupD P K mg f C F doc pm ctv) (T : OexC K C) (hsuper : mg "super" = none) (hks : F.scope.names.lookup ("super" : Str) = some .globalImplicit) (htop : (P.main.scope.names.lookup ("super" : Str)).isSome = false)
    (S : NScope N ps ["__class__"] F.scope) (hps : ∃ r, ps = ar.arg :: r) (hp : (F.params.posonlyargs ++ F.params.args).head? = some ar)
    (hbd : F.body = .Expr (.Call (.Attribute (.Call (.Name "super" p0) [] [] p1) "__init__" p2) [arg] [] p3) p4 :: rest)
    (len : ∀ vs H Q E, sp vs H Q E → vs.length = ps.length)
    (hbody : ∀ (A : Around) (outer : List Env) (s : Shared) (H : Hp) (vs : List V) (Q : VK) (E : XK), Room k (A.deeper (envF F f s.heap.objs.size)) → sp vs H Q E →
      ∃ (a : Addr) (r : List V) (ta : TA) (t : TS), vs = .ref a :: r ∧ H a = some (exo a C none) ∧ PA (ncx CX P w K mg base N F f A outer s H E) [arg] ta ∧ PSs (ncx CX P w K mg base N F f A outer s H E) rest t ∧
        ta (startF N vs [none]) H (fun ws H1 => ws.length ≤ 1000 ∧ H1 a = some (exo a C none) ∧ t { nx := fun _ H' => Q .non H', rt := Q } (startF N vs [none]) H1))
    (he : ∀ env : Env, starEach [arg] env = (false, eval arg env) :: starEach [] env := by intro env; rfl)
    (hm : ∀ env : Env, env.scope = F.scope → eval (.Call (.Attribute (.Call (.Name "super" p0) [] [] p1) "__init__" p2) [arg] [] p3) env = (do
      let ov ← attributeBase (.Call (.Name "super" p0) [] [] p1) "__init__" env (eval (.Call (.Name "super" p0) [] [] p1) env)
      standAt p2.atName
      let (f, first) ← holding [ov] (getMethod ov "__init__" (pl env))
      callWith p3 f first (backTo p3 (starEach [arg] env)) []) := by intro env _; rfl) :
    FnOk P w K mg base CX (k + 1) f (F.fd doc pm ctv) ps sp := by
  refine ⟨len, fun A outer s H args us vs Q E hr e0 hb r hsp => ?_⟩
  have hl := len _ _ _ _ hsp
  have KX : K.In s.heap := e0.mod.kin.keeps fun b o e => (e0.bs b o e).1
  have lim : s.heap.NoLimit := e0.mod.nolimit.keeps fun b o e => (e0.bs b o e).1
  obtain ⟨oc, od, osl, lk⟩ := X.lk
  obtain ⟨cc, cl, cld, csl, hcl, hcell⟩ := X.cell
  refine codeAny_call_function hr.depth (KX _ _ lk) rfl S.co S.gen rfl (PySem.W.codeRec_of KX X.hcd) (hb _ _ _ _ ?_)
  refine wpAny_newFunctionEnv S.nocell (fun ⟨n, _⟩ hy => S.par n (List.of_mem_zip hy).1) (fun h₁ hns hsb => ⟨lim.fresh _ hsb, ?_⟩) S.kind
  show codeAny _ _ (.func F.body (envF F f s.heap.objs.size)) _ _
  refine ks_codeAny_funcAt ?_
  have kp : ∀ b o, s.heap.get? b = some o → h₁.get? b = some o := fun b o e => hsb.extBut b o (Nat.ne_of_lt (Heap.lt_size e)) (Heap.get?_push_of_some _ e)
  have hccH : H cc = none := (e0.bs _ _ (e0.mod.kin _ _ hcell)).2
  have ccl1 : s.heap.IsCell cc (some (.ref C)) := ⟨_, KX _ _ hcell, rfl⟩
  have lk1 : ∀ y c, F.cl.lookup y = some c → c = cc := fun y c e => by
    rw [hcl] at e
    by_cases hy : y = "__class__"
    · subst hy
      simpa [List.lookup] using e.symm
    · have : (y == ("__class__" : Str)) = false := by simpa using hy
      simp [List.lookup, this] at e
  have C0 : CellsAt F.cl ["__class__"] [none] s.heap H := ⟨rfl, fun y c e => by
      rw [lk1 y c e]
      exact ⟨hccH, _, ccl1⟩, fun x y c e1 e2 => by
      rw [hcl] at e1 e2
      have key : ∀ z : Str, List.lookup z [(("__class__" : Str), cc)] = some c → z = "__class__" := fun z e => by
        by_cases hz : z = "__class__"
        · exact hz
        · have : (z == ("__class__" : Str)) = false := by simpa using hz
          simp [List.lookup, this] at e
      rw [key x e1, key y e2], fun i y hi => by
      match i, hi with
      | 0, hi =>
        cases hi
        exact ⟨cc, by rw [hcl]; simp [List.lookup], fun v hv => by cases hv⟩
      | i + 1, hi => cases hi⟩
  have I : Inv (ncx CX P w K mg base N F f A outer s H E) [] (startF N vs [none]) H { s with heap := h₁, toks := s.toks + (ps.zip us).length } := inv_startN S hr.hd e0 hl r C0 hns kp
  obtain ⟨a, r0, ta, t, rfl, ha, hta, ht, hq⟩ := hbody A outer s H vs Q E (hr.deeper _) hsp
  rw [hbd]
  obtain ⟨ccl', cdd, vs0, ccs, file, tf, hcode, hvs, hfile⟩ := X.file
  obtain ⟨rr, hps⟩ := hps
  have hu0 : ∃ ur, us = Value.ref a :: ur := by
    cases r with
    | @cons _ u0 _ ur ra rw' =>
      obtain rfl : u0 = Value.ref a := ra
      exact ⟨ur, rfl⟩
  obtain ⟨ur, rfl⟩ := hu0
  obtain ⟨nm, q, N', bs, bm, sn, sub, ab, col, dd, k0, k1, k2, k3, k5, hC, hbm⟩ := T.cls
  have hclI : clsIn K C = some { name := nm, bases := bs, mro := .ref C :: bm, ns := N', qualname := q, hasDict := true, slotNames := sn, subclasses := sub, abstract := ab, collection := col, hasDel := false } := by unfold clsIn; rw [hC] <;> rfl
  obtain ⟨t1, ho⟩ := exo_at I.hok ha
  have ndP : ps.Nodup := by
    have q := S.nd.sublist (List.take_sublist (ps.length + [("__class__" : Str)].length) N)
    rw [S.pre] at q
    exact (List.nodup_append.mp q).1
  have hself : (ps.zip (Value.ref a :: ur)).reverse.lookup ar.arg = some (.ref a) := zip_look (i := 0) ndP (by rw [hps]; rfl) rfl
  refine ks_wpAt_execs_cons ?_
  refine ks_wpAt_Expr_any ?_ (by unfold interactive; rw [show (envF F f s.heap.objs.size).scope = F.scope from rfl, S.kind]; rfl)
  refine ks_wpAt_MethodCall ?_ (hm _ rfl)
  refine ks_wpAt_super_base (fd := F.fd doc pm ctv) (ar := ar) hks (S.frk _ (List.mem_singleton.mpr rfl)) (by decide +kernel) rfl (kp _ _ (KX _ _ lk)) rfl hp rfl (kp _ _ (KX _ _ hcode)) rfl hvs hfile htop ?_
  obtain ⟨mb, hb1, hb2⟩ := e0.mod.blt
  refine ks_loadName_global S.kind hks (Calls.loadGlobal_builtin (env := envF F f s.heap.objs.size) (e0.mod.glob.keeps I.bk) hsuper (hb1.keeps I.bk) ((hb2 "super" (by decide +kernel)).trans (by first | rfl | kernel_rfl)) ⟨rfl, ?_⟩)
  refine wpAny_loadName_free S.kind (S.frk _ (List.mem_singleton.mpr rfl)) (c := cc) (by show F.cl.lookup _ = _; rw [hcl]; simp [List.lookup]) ⟨_, kp _ _ (KX _ _ hcell), rfl⟩ ?_
  refine wpAny_loadName_local S.kind (S.par ar.arg (by rw [hps]; exact List.mem_cons_self)) hns hself ?_
  have hD := kp _ _ (KX _ _ hC)
  refine ks_wpAny_isType_cls hD rfl ⟨rfl, ?_⟩
  refine ks_wpAny_call_super hD rfl ho rfl (fun c e => by cases e) (looks_mroIn I.kIn X.own) (fun h2 e2 k2 => ?_)
  have I2 : L2.Inv (ncx CX P w K mg base N F f A outer s H E) [] (startF N (V.ref a :: r0) [none]) H ⟨h2, s.gens, s.drawn, s.toks + (ps.zip (Value.ref a :: ur)).length, s.os⟩ := I.kept k2
  have hxC : a ≠ C := fun e => by
    rw [e, (e0.bs _ _ (e0.mod.kin _ _ hC)).2] at ha
    cases ha
  have Ia : InstAt h2 a { cls := .ref C, dict := none, data := .fields #[.ref t1, .none, .none, .none, .bool false, .none] } C none := ⟨k2 _ _ ho, rfl, rfl, trivial⟩
  have hsup := X.sup
  unfold ks_superIn at hsup
  rw [hclI] at hsup
  refine kxs_getMethod kxs_ValueError e2 (looks_opaque I2.kIn X.op) (l₀ := .ref C :: bm) (fun A Q E s k q => wpAny_bind ((looks_clsIn I2.kIn hclI) A _ E s k (wpAny_pure q))) rfl I2.kIn hsup (Ia.type.andThen (looks_subIn I2.kIn X.isVE)) hxC (by decide +kernel) ?_
  generalize hmw : kxs_mw "ValueError.__init__" a = mw
  have I3 : L2.Inv (ncx CX P w K mg base N F f A outer s H E) [(h2.objs.size, mw)] (startF N (V.ref a :: r0) [none]) H ⟨h2.push mw, s.gens, s.drawn, s.toks + (ps.zip (Value.ref a :: ur)).length + 1, s.os⟩ := by
    have J : L2.Inv (ncx CX P w K mg base N F f A outer s H E) [] (startF N (V.ref a :: r0) [none]) H ⟨h2.push mw, s.gens, s.drawn, s.toks + (ps.zip (Value.ref a :: ur)).length + 1, s.os⟩ := I2.kept fun b o e => Heap.get?_push_of_some _ e
    refine J.pins_of fun p hp => ?_
    rw [List.mem_singleton.mp hp]
    refine ⟨Heap.get?_push_size _ (by subst hmw; rfl), I2.hok.fresh (Nat.le_refl _), Nat.ne_of_gt I2.lt, fun hb => ?_, fun v e => ?_⟩
    · obtain ⟨o, ho, _⟩ := (I2.ok.funs.mem hb).2
      have h1 : h2.objs.size < s.heap.objs.size := Heap.lt_size ho
      have h2' : s.heap.objs.size < h2.objs.size := I2.lt
      omega
    · subst hmw
      cases e
  rw [he]
  refine kxs_callWith (i := "ValueError.__init__") (x := a) (by rfl) ?_
  refine evalArgs_plain ?_
  have hrun := hta.run p3 _ _ _ _ _ I3 hq
  rw [he] at hrun
  refine wpAny_mono hrun (fun us4 s4 hh => ?_) fun e s' h => h
  obtain ⟨ws, H4, I4, r4, wl, ha4, hq4⟩ := hh
  have hu4 := (I4.pin (h2.objs.size, mw) (by simp)).1
  refine ⟨by subst hmw; exact hu4, ?_⟩
  obtain ⟨t4, ho4⟩ := exo_at I4.hok ha4
  have hwl : us4.length ≤ sizeLine := by
    rw [← Paired.length r4, sizeLine_eq]
    omega
  obtain ⟨h4, g4, d4, tk4, os4⟩ := s4
  refine wpAny_call (codeAny_of_tree ?_)
  show wpAny _ _ (callAny (.ref h2.objs.size) ⟨us4, []⟩) _ _ _
  simp only [callAny]
  refine wpAny_bind (wpAny_load hu4 ?_)
  subst hmw
  simp only [kxs_mw, show (Value.type "method-wrapper" == Value.type "method" || Value.type "method-wrapper" == Value.type "builtin_function_or_method" || Value.type "method-wrapper" == Value.type "method-wrapper") = true by decide, if_true]
  refine KFB.if_so (by decide) ?_
  refine wpAny_bind (check_bound_init PySem.F.excBase_ValueError.toExcCallFacts (I4.kIn _ _ hC) ho4 rfl ?_)
  refine wpAny_bind (wpAny_pure (wpAny_pure ?_))
  refine ⟨plainId_quiet PySem.F.excBase_ValueError.init.plain _, codeAny_builtin PySem.F.excBase_ValueError.initEntry ?_⟩
  refine exc_init_tree ho4 hwl fun h5 k5' e5 _ => ?_
  have J5 : L2.Inv (ncx CX P w K mg base N F f A outer s H E) [] (startF N (V.ref a :: r0) [none]) H4 ⟨h5, g4, d4, tk4, os4⟩ := by
    have J := (I4.pins_of (pins' := []) fun p hp => absurd hp (by simp)).write (t' := tk4) (x := a) (e := a) (o := exo a C none) (by rw [ha4]; exact True.intro) (.inl rfl) k5' ⟨_, e5⟩ (exo_ok e5)
    have eu : upd H4 a (exo a C none) = H4 := by
      funext b
      by_cases hb : b = a
      · rw [hb, upd_same, ha4]
      · rw [upd_ne hb]
    rw [eu] at J
    exact J
  refine wpAt_of_wpAny (wpAny_mono (ht.run [] _ _ H4 _ J5 hq4) (fun fl s' hs => ?_) fun e s' hs => hs)
  have fin : ∀ {σ' : L2.St} {H' : Hp} {v : V} {u : Value}, L2.Inv (ncx CX P w K mg base N F f A outer s H E) [] σ' H' s' → L2.RelV v u → Q v H' → CE outer P w H s Q u s' :=
    fun {σ' H' v u} J rv q => ⟨v, H', J.os, J.bare, J.base, J.hok, rv, q⟩
  cases fl with
  | ret u =>
    obtain ⟨v, σ', H', J, rv, q⟩ := hs
    exact fin J rv q
  | next =>
    obtain ⟨σ', H', J, q⟩ := hs
    exact fin (v := V.non) (u := Value.none) J rfl q
  | brk =>
    obtain ⟨_, _, _, q⟩ := hs
    exact False.elim q
  | cont =>
    obtain ⟨_, _, _, q⟩ := hs
    exact False.elim q
/-! ### what a head may observe of it -/
def oexIn (K : Frag) (C : Addr) : Bool := match K.lookup C with
  | some ⟨.type "type", _, .cls cd, sl⟩ => (match cd.mro, sl.toList with
    | .ref C' :: bm, [_, _, _, _, some (.builtin n), _] => C' == C && n == "ValueError.__new__" && !cd.hasDel && cd.hasDict && PySem.HandSPX.refsVE bm
    | _, _ => false)
  | _ => false
theorem oexIn_ok {K : Frag} {C : Addr} (q : oexIn K C = true) : ∃ nm q N bs bm sn sub ab col dd k0 k1 k2 k3 k5, K.lookup C = some (excClassObj nm q C N bs bm true sn sub ab col dd k0 k1 k2 k3 k5 "ValueError.__new__") ∧ PySem.HandSPX.refsVE bm = true := by
  unfold oexIn at q
  split at q
  · rename_i dd cd sl ho
    split at q
    · rename_i C' bm k0 k1 k2 k3 n k5 hm hs
      simp only [Bool.and_eq_true, beq_iff_eq, Bool.not_eq_true'] at q
      obtain ⟨⟨⟨⟨rfl, rfl⟩, hdel⟩, hhd⟩, ht⟩ := q
      obtain ⟨nm, bs, mro, ns, qn, hd, sn, sub, ab, col, del⟩ := cd
      dsimp only at hm hdel hhd
      subst hm hdel hhd
      have hsl : sl = #[k0, k1, k2, k3, some (.builtin "ValueError.__new__"), k5] := by
        obtain ⟨l⟩ := sl
        simp only at hs
        rw [hs]
      subst hsl
      exact ⟨nm, qn, ns, bs, bm, sn, sub, ab, col, dd, k0, k1, k2, k3, k5, ho, ht⟩
    · cases q
  · cases q
def oexB (K : Frag) (C : Addr) : Bool := oexIn K C && (He.eqO (findIn K (.ref C) "__setattr__") (some (some (.builtin "object.__setattr__"))) && (decide (subIn K (.ref C) (.type "BaseException") = some true) && (decide (typeIn K (.ref C) = some (.type "type")) && keepIn K (.ref C))))
theorem oexB_ok {K : Frag} {C : Addr} (q : oexB K C = true) : OexC K C := by
  obtain ⟨q1, q⟩ := He.ba q
  obtain ⟨q2, q⟩ := He.ba q
  obtain ⟨q3, q⟩ := He.ba q
  obtain ⟨q4, q5⟩ := He.ba q
  exact ⟨oexIn_ok q1, He.eqO_ok q2, of_decide_eq_true q3, of_decide_eq_true q4, q5⟩
/-- such an __init__: its class's name, its qualified name, parameters, body, scope -/
structure DefS where
  cls : Str
  qual : Str
  params : Arguments
  body : List Stmt
  scope : Scope
abbrev FnS : Type := Option (Str × Str × Arguments × FuncBody × Scope × Addr × Addr)
def DefS.at_ (K : Frag) (d : DefS) : Addr := He.ma K (He.ga K d.cls) "__init__"
def fnS (K : Frag) (a : Addr) : FnS := match K.lookup a with
  | some ⟨_, _, .func fd, _⟩ => some (fd.name, fd.qualname, fd.params, fd.body, fd.scope, fd.globals, fd.builtins)
  | _ => none
def DefS.val (d : DefS) : FnS := some ("__init__", d.qual, d.params, .stmts d.body, d.scope, mainGlobals, builtinsNs)
def fileB (mf : Str) (K : Frag) (c : Addr) : Bool := match K.lookup c with
  | some ⟨_, _, .fields vs, _⟩ => (match (vs[2]? : Option Value) with
    | some (Value.str file _) => mf == file
    | _ => false)
  | _ => false
def cellB (K : Frag) (cc C : Addr) : Bool := match K.lookup cc with
  | some ⟨_, _, .cell (some (.ref D)), _⟩ => decide (D = C)
  | _ => false
def funB (mf q : Str) (K : Frag) (f C : Addr) : Bool := match K.lookup f with
  | some ⟨_, _, .func fd, _⟩ => (match fd.closure, fd.code, fd.defaults, fd.kwdefaults, fd.annotations with
    | [(x, cc)], .ref c, .none, .none, none => decide (x = "__class__") && (cellB K cc C && (codeIn K (.ref c) q && fileB mf K c))
    | _, _, _, _, _ => false)
  | _ => false
def DefS.ok (mf : Str) (K : Frag) (d : DefS) : Bool := funB mf d.qual K (d.at_ K) (He.ga K d.cls) && (decide (mroIn K (He.ga K d.cls) (.ref (He.ga K d.cls)) = some true) && (He.eqO (nsIn K cStatics "thirdparty.any") (some none) &&
  (He.eqO (ks_superIn K (He.ga K d.cls) (He.ga K d.cls) "__init__") (some (some (.builtin "ValueError.__init__"))) && (decide (subIn K (.ref (He.ga K d.cls)) (.type "ValueError") = some true) &&
  (He.eqO (findIn K (.ref (He.ga K d.cls)) "__init__") (some (some (.ref (d.at_ K)))) && decide (typeIn K (.ref (d.at_ K)) = some (.type "function")))))))
theorem DefS.supD {P : Program} {K : Frag} {mg : Str → Option Value} {d : DefS} (e : fnS K (d.at_ K) = d.val) (c : d.ok P.main.file K = true) :
    (∃ (F : NF) (doc pm ctv : Value), F.name = "__init__" ∧ F.qual = d.qual ∧ F.params = d.params ∧ F.body = d.body ∧ F.scope = d.scope ∧ SupD P K mg (d.at_ K) (He.ga K d.cls) F doc pm ctv) ∧
      findIn K (.ref (He.ga K d.cls)) "__init__" = some (some (.ref (d.at_ K))) ∧ typeIn K (.ref (d.at_ K)) = some (.type "function") := by
  obtain ⟨c1, c⟩ := He.ba c
  obtain ⟨c2, c⟩ := He.ba c
  obtain ⟨c3, c⟩ := He.ba c
  obtain ⟨c4, c⟩ := He.ba c
  obtain ⟨c5, c⟩ := He.ba c
  obtain ⟨c6, c7⟩ := He.ba c
  refine ⟨?_, He.eqO_ok c6, of_decide_eq_true c7⟩
  generalize d.at_ K = f at *
  unfold funB at c1
  unfold fnS at e
  cases q : K.lookup f with
  | none =>
    rw [q] at c1
    cases c1
  | some o =>
    obtain ⟨oc, od, dt, osl⟩ := o
    rw [q] at c1 e
    cases dt with
    | func fd =>
      obtain ⟨n1, n2, n3, n4, n5, n6, n7, n8, n9, n10, n11, n12, n13, n14, n15⟩ := fd
      have e2 : (some (n1, n2, n3, n4, n5, n6, n15) : FnS) = some (("__init__" : Str), d.qual, d.params, FuncBody.stmts d.body, d.scope, mainGlobals, builtinsNs) := e
      simp only [Option.some.injEq, Prod.mk.injEq] at e2
      obtain ⟨h1, h2, h3, h4, h5, h6, h7⟩ := e2
      subst h1 h2 h3 h4 h5 h6 h7
      dsimp only at c1
      split at c1
      · rename_i x cc c'
        obtain ⟨k1, k⟩ := He.ba c1
        obtain ⟨k2, k⟩ := He.ba k
        obtain ⟨k3, k4⟩ := He.ba k
        obtain rfl := of_decide_eq_true k1
        refine ⟨⟨"__init__", d.qual, d.params, d.body, d.scope, [(("__class__" : Str), cc)], c'⟩, n10, n11, n14, rfl, rfl, rfl, rfl, rfl, ⟨oc, od, osl, q⟩, ?_, k3, ?_, of_decide_eq_true c2, He.eqO_ok c3, He.eqO_ok c4, of_decide_eq_true c5⟩
        · unfold cellB at k2
          split at k2
          · rename_i cl cld D csl g
            obtain rfl := of_decide_eq_true k2
            exact ⟨cc, cl, cld, csl, rfl, g⟩
          · cases k2
        · unfold fileB at k4
          split at k4
          · rename_i ccl cdd vs ccs g
            split at k4
            · rename_i file tf g'
              exact ⟨ccl, cdd, vs, ccs, file, tf, g, g', k4⟩
            · cases k4
          · cases k4
      · cases c1
    | _ => cases c1
/-! ### raise C(e), the exception's context None -/
theorem pmkN_oex {X : Cx} {CX : CXT} {x : Str} {e : Expr} {es : List Expr} {ta : TA} {p pos : Pos} {C fI : Addr} {k : Nat} {fd : FuncData} {ps : List Str} {sp : Sp} (T : OexC X.K C) (iC : findIn X.K (.ref C) "__init__" = some (some (.ref fI))) (tI : typeIn X.K (.ref fI) = some (.type "function"))
    (F1 : FnOk X.prog X.w X.K X.mg X.base CX k fI fd ps sp) (hr : Room (k + 1) X.A) (hb : L2.Binds X.K fd ps []) (hx : Passes CX X (fun _ _ _ => False)) (hg : Gl X x) (hm : X.mg x = some (.ref C)) (ha : PA X (e :: es) ta)
    (hdb : (x == ("__debug__" : Str)) = false := by decide) (he : starEach (e :: es) X.env = (false, eval e X.env) :: starEach es X.env := by rfl) (hpl : (backTo pos (starEach es X.env)).any (·.1) = false := by rfl) :
    L2N.PMk X (.Call (.Name x p) (e :: es) [] pos) (tMkO C sp [] ta) := by
  intro pins s σ H Q I h
  obtain ⟨nm, q, N, bs, bm, sn, sub, ab, col, dd, k0, k1, k2, k3, k5, hC, hbm⟩ := T.cls
  refine wpAny_Call_Name_kw (ld_glob I hg hm ?_ hdb)
  refine PySem.W.callWith_K (h₀ := X.base) I.ok.mod.kin T.kC (thn (ha.run pos pins s σ H _ I h) fun us s1 ⟨vs, H1, I1, r1, hz, q1⟩ => ⟨I1.kIn, ?_⟩) he hpl
  show wpAny _ _ (call (.ref C) us) _ _ _
  obtain ⟨hp, g, dr, tk, os⟩ := s1
  have hsz : hp.objs.size ≤ hp.objs.size + 1 := Nat.le_succ _
  have hn : H1 (hp.objs.size + 1) = none := I1.hok.fresh hsz
  have hq := q1 (hp.objs.size + 1) hn
  have kk : ∀ b o, hp.get? b = some o → ((hp.push (PySem.W.kdv_tup us)).push (PySem.HandSPX.excO C hp.objs.size)).get? b = some o := fun b o e => Heap.get?_push_of_some _ (Heap.get?_push_of_some _ e)
  have hget : ((hp.push (PySem.W.kdv_tup us)).push (PySem.HandSPX.excO C hp.objs.size)).get? (hp.objs.size + 1) = some (PySem.HandSPX.excO C hp.objs.size) := by heap_get
  have I2 : L2.Inv X pins σ (upd H1 (hp.objs.size + 1) (exo (hp.objs.size + 1) C none)) ⟨(hp.push (PySem.W.kdv_tup us)).push (PySem.HandSPX.excO C hp.objs.size), g, dr, tk, os⟩ :=
    I1.laid (t' := tk) (a := hp.objs.size + 1) (o := exo (hp.objs.size + 1) C none) (h' := (hp.push (PySem.W.kdv_tup us)).push (PySem.HandSPX.excO C hp.objs.size)) kk hsz (exo_ok hget)
  have r2 : Vals (V.ref (hp.objs.size + 1) :: (vs ++ [])) (Value.ref (hp.objs.size + 1) :: (us ++ [])) := .cons rfl (r1.append .nil)
  have hl : (Value.ref (hp.objs.size + 1) :: us ++ []).length = ps.length := by
    have e := r2.length
    rw [F1.len _ _ _ _ hq] at e
    exact e.symm
  have hus : us.length ≤ sizeLine := by
    rw [← Paired.length r1, sizeLine_eq]
    omega
  have b2 := hb _ (Value.ref (hp.objs.size + 1) :: us) I2.kIn hl
  rw [List.cons_append] at b2
  refine wpAny_call (PySem.HandSPX.call_own PySem.F.excBase_ValueError (fun Y => PySem.HandSPX.refsVE_contains Y bm hbm) (I1.kIn _ _ hC) (PySem.W.looks_findIn I1.kIn iC) (fun self => PySem.W.bind_fn I1.kIn self tI) hus
    (codeAny_mono (F1.run _ X.stack _ _ ⟨Value.ref (hp.objs.size + 1) :: us, []⟩ (Value.ref (hp.objs.size + 1) :: (us ++ [])) _ _ (fun _ _ _ => False) (hr.make C us []) (I2.env0.make C us []) b2 r2 hq) fun r s' hq' => ?_))
  cases r with
  | error er => exact hx pins σ _ _ er s' I2 hq'
  | ok fl =>
    cases fl with
    | ret u =>
      obtain ⟨v, H2, os2, bare2, un2, hok2, rv, ev, d, fs, ea, ed, hd1, q2⟩ := hq'
      subst ev
      obtain ⟨h2, g2, d2, t2, os'⟩ := s'
      obtain ⟨t0, G, J, kG, ge, hoe, na⟩ := mk_end0 (d2 := d2) (t2 := t2) I1 hsz kk un2 hok2 os2 bare2 ea ed hd1
      refine ⟨rv, ⟨hp.objs.size + 1, _, _, ⟨G, g2, d2, t2, os'⟩, _, .ref C, some d, rfl, J, kG, ge, hoe, ⟨rfl, rfl, fun vs hv => ?_⟩, rfl, rfl, na, rfl, bare2, raises_own T.exC T.tyC, q2⟩⟩
      cases hv
      rfl
    | next => exact False.elim hq'
    | brk => exact False.elim hq'
    | cont => exact False.elim hq'
/-! ### isinstance of a caught error of an own class, its dict beside it -/
section
variable {prog : Program} {w : World} {A : Around} {E : Value → Shared → Prop} {s : Shared} {K : Frag} {x D : Addr} {ox : Obj}
theorem findObj_dataD {C : Addr} {name : Str} {a g : Value} {od : Option Obj} (hc : (clsIn K C).isSome = true) (ha : findIn K (.ref C) name = some (some a)) (hg : specialIn K a "__get__" = some (some g)) (ht : takesIn K a = some true) : findObj K C od name = some (.bind g a) := by
  obtain ⟨cd, hc⟩ := Option.isSome_iff_exists.mp hc
  unfold findObj
  rw [hc, Option.bind_some, ha, Option.bind_some]
  simp [hg, ht]
theorem kin_classD {odv : Option Obj} {Q : Option Value → Shared → Prop} (hga : findIn K (.ref D) "__getattribute__" = some (some (.builtin "BaseException.__getattribute__"))) (hgt : findIn K (.ref D) "__getattr__" = some none) (hsub : subIn K (.ref D) (.type "BaseException") = some true)
    (hdct : hasDictIn K D = true) (ha : findIn K (.ref D) "__class__" = some (some (.builtin "object.__class__")))
    (hn : specialIn K (.builtin "object.__class__") "__get__" = some (some (.builtin "getset_descriptor.__get__"))) (htk : takesIn K (.builtin "object.__class__") = some true) (hm : mroIn K D (.type "object") = some true)
    (X : K.In s.heap) (I : InstAt s.heap x ox D odv) (h : Q (some (.ref D)) { s with toks := s.toks + 1 }) : wpAny (model prog w) A (getAttr? (.ref x) "__class__") Q E s := by
  have hf : findObj K D odv "__class__" = some (.bind (.builtin "getset_descriptor.__get__") (.builtin "object.__class__")) := findObj_dataD (by obtain ⟨cd, hc, _⟩ := any_some hdct; rw [hc]; rfl) ha hn htk
  obtain ⟨hp, g, d, t, os⟩ := s
  have L0 := I.type (M := model prog w)
  have L1 := looks_findIn (M := model prog w) X hga
  have L2 := looks_findIn (M := model prog w) X hgt
  have L3 := looks_find (M := model prog w) X I hf
  have sub : Looks (model prog w) hp (isInstance (.ref x) (.type "BaseException")) true := L0.andThen (looks_subIn X hsub)
  have hx0 : (false && onTheHeap (Value.builtin "BaseException.__getattribute__")) = false := rfl
  have hx2 : (Value.builtin "BaseException.__getattribute__" == Value.builtin "object.__getattribute__") = false := by decide +kernel
  have hx1 : (onTheHeap (Value.ref D) && Value.builtin "BaseException.__getattribute__" == Value.builtin "object.__getattribute__") = false := by rw [hx2]; rfl
  unfold getAttr? getAttrBy? getAttrBy
  refine wpAny_bind (wpAny_mkText (wpAny_bind (wpAny_attempt (wpAny_holding (wpAny_bind (L0.at (wpAny_bind (L1.at ?_))))))))
  show wpAny _ _ (if (onTheHeap (Value.ref D) && Value.builtin "BaseException.__getattribute__" == Value.builtin "object.__getattribute__") = true then _ else _) _ _ _
  rw [hx1, if_neg Bool.false_ne_true]
  unfold getAttrByItsOwn hookBefore
  refine wpAny_bind ?_
  rw [if_pos (show onTheHeap (Value.ref D) = true from rfl)]
  refine L2.at ?_
  refine wpAny_bind (wpAny_attempt (wpAny_holding ?_))
  unfold callGetattribute
  rw [hx0, if_neg Bool.false_ne_true]
  unfold boundAndCalled
  rw [PySem.F.excAttr_ValueError.ga.bind (.ref x)]
  refine wpAny_bind (wpAny_pure ?_)
  show wpAny _ _ (call (.builtin "BaseException.__getattribute__") [.ref x, .str "__class__" t]) _ _ _
  refine wpAny_call (codeAny_call_builtin PySem.F.excAttr_ValueError.ga.plain PySem.F.entry_bexc_ga ?_)
  refine @check_slot (model prog w) _ _ ⟨hp, g, d, t + 1, os⟩ "BaseException.__getattribute__" "BaseException" "__getattribute__" (.ref x) [.str "__class__" t] [] _ (by decide +kernel) (by decide +kernel) sub (PySem.F.args_bexc_ga (.ref x) (.str "__class__" t)) ?_
  unfold Builtin.«object.__getattribute__»
  refine wpAny_bind (wpAny_of_eq (a := ((Value.ref x : Value), [Value.str "__class__" t])) (by first | rfl | (simp only [slotArgs]; rfl)) ?_)
  refine wpAny_bind (wpAny_pure (wpAny_bind (L0.at (wpAny_bind (L3.at ?_)))))
  show wpAny _ _ (holding [Value.builtin "object.__class__"] (call (.builtin "getset_descriptor.__get__") [.builtin "object.__class__", .ref x, .ref D]) >>= ret) _ _ _
  refine wpAny_bind (wpAny_holding (wpAny_call (class_get (s := ⟨hp, g, d, t + 1, os⟩) (ox := ox) (od := odv) X I hm ?_)))
  refine wpAny_pure ?_
  show wpAny _ _ (handedOut (.ref D)) _ _ _
  rw [handedOut_of (v := .ref D) rfl]
  first
    | exact wpAny_pure (wpAny_pure h)
    | exact wpAny_pure h
    | exact wpAny_pure (wpAny_bind (wpAny_pure (wpAny_pure h)))
theorem kitx_excD {odv : Option Obj} (hga : findIn K (.ref D) "__getattribute__" = some (some (.builtin "BaseException.__getattribute__"))) (hgt : findIn K (.ref D) "__getattr__" = some none) (hsub : subIn K (.ref D) (.type "BaseException") = some true) (hdct : hasDictIn K D = true) (ha : findIn K (.ref D) "__class__" = some (some (.builtin "object.__class__")))
    (hn : specialIn K (.builtin "object.__class__") "__get__" = some (some (.builtin "getset_descriptor.__get__"))) (htk : takesIn K (.builtin "object.__class__") = some true) (hm : mroIn K D (.type "object") = some true) :
    KitX K (.ref x) (.ref D) (fun h => InstAt h x ox D odv) where
  ty := fun _ _ _ I => I.type
  it := fun _ _ X _ => by
    obtain ⟨cdD, hcD, _⟩ := any_some hdct
    unfold clsIn at hcD
    split at hcD
    · rename_i c' d' cd' sl' ho
      intro A' Q' E' s' k q
      unfold isType loadHead
      exact wpAny_bind (wpAny_loadPart (k _ _ (X _ _ ho)) (wpAny_pure q))
    · cases hcD
  ne := fun h tp dd its n sl X htp => by
    obtain ⟨cdD, hcD, _⟩ := any_some hdct
    refine Bool.eq_false_iff.mpr fun q => ?_
    have e : D = tp := Value.ref.inj (beq_iff_eq.mp q)
    subst e
    unfold clsIn at hcD
    split at hcD
    · rename_i c' d' cd' sl' ho
      have z := (X _ _ ho).symm.trans htp
      cases z
    · cases hcD
  ca := fun X I k => kin_classD hga hgt hsub hdct ha hn htk hm X I k
end
/-- isinstance(e, c), isinstance(e, (c, ..)), e the exception that the suite holds -/
def rIsD (K : Frag) (D a : Addr) (d : Option Addr) : List V → Hp → VK → Prop := fun xs H Q => ∃ (c : V) (b : Bool) (dd : Addr) (fs : List (Str × V)), xs = [.ref a, c] ∧ d = some dd ∧ H dd = some (.xd fs) ∧
  ((∃ cv : Value, (∀ u, L2.RelV c u → u = cv) ∧ kitOne K (.ref D) cv = some b) ∨ ∃ (p : Addr) (ys : List V), c = .ref p ∧ SqT K H p ys ∧ ∀ its, Vals ys its → kitAny K (.ref D) its = some b) ∧ Q (.bl b) H
theorem call_isD {X : Cx} {a D : Addr} {d : Option Addr} {oe : Obj} {pn : List (Addr × Obj)} (C : ExcC X.K D) (hz : Zc (.ref D) d oe) (hf : ∃ vs, oe.data = .fields vs) : CallR (X.suite a ((a, oe) :: pn)) (.builtin "isinstance") (rIsD X.K D a d) := by
  intro pins s σ H xs us Q I r h
  obtain ⟨c, b, dd, fs, rfl, ed, hd, e, q⟩ := h
  subst ed
  cases r with
  | cons rx rr =>
    cases rr with
    | cons rt rr =>
      cases rr
      cases rx
      obtain ⟨hget, _⟩ := I.pin (a, oe) (List.mem_append.mpr (.inl List.mem_cons_self))
      obtain ⟨vs, hv⟩ := hf
      have hx : ObjOk X.prog X.w H s.heap dd (.xd fs) := I.hok dd _ hd
      obtain ⟨mA, hns, _⟩ := hx
      obtain ⟨od, ho, _⟩ := lookIn_ns hns
      have J : PySem.W.InstAt s.heap a oe D (some od) := ⟨hget, hz.1, by unfold PySem.W.notCls; rw [hv] <;> rfl, by rw [hz.2]; exact ho⟩
      have Z := kitx_excD (K := X.K) (x := a) (ox := oe) (odv := some od) C.hg C.hk C.hs C.hd C.ha C.hn C.ht C.hm
      rcases e with ⟨cv, hcv, e⟩ | ⟨p, ys, ec, hp, e⟩
      · obtain rfl := hcv _ rt
        exact PySem.W.kia_one Z I.kIn J e (fun z => nomatch z) fun tk => ⟨.bl b, H, I.kept (t' := tk) fun _ _ z => z, rfl, q⟩
      · subst ec
        cases rt
        obtain ⟨its, rv, ⟨⟨cls, dd', data, sl⟩, ho', hc, n, hd'⟩, _⟩ := I.tuple hp
        simp only at hc hd'
        subst hc hd'
        exact PySem.W.kia_tup Z I.kIn J ho' (e its rv) (fun z => nomatch z) fun tk => ⟨.bl b, H, I.kept (t' := tk) fun _ _ z => z, rfl, q⟩
end EXS
/-! ### enumerate(t), sum(t) of a tuple -/
namespace EnT
open PySem PySem.Spec PyProof.Rows L2
theorem meets_new (l : Addr) (items : Array Value) (n : Nat) (dct : Option Addr) (sl : Array (Option Value)) :
    Meets (Builtin.«enumerate.__new__» ⟨[.type "enumerate", .ref l], []⟩) (fun _ R s => s.heap.get? l = some { cls := .type "tuple", dict := dct, data := .seq items n, slots := sl } ∧
      R (.ok (.ret (.ref (s.heap.push { cls := .type "tuple_iterator", data := .fields #[.ref l, .int 0 0] }).objs.size)))
        { s with heap := (s.heap.push { cls := .type "tuple_iterator", data := .fields #[.ref l, .int 0 0] }).push { cls := .type "enumerate", data := .fields #[.none, .bool false, .ref s.heap.objs.size, rawInt 0, .none, .none] } }) :=
  .of_wp fun prog w A R s h => by
    obtain ⟨hp, g, d, tk, os⟩ := s; obtain ⟨hl, h⟩ := h
    have hsub := sub_enumerate
    have hL : Heap.IsTuple (Shared.heap ⟨hp, g, d, tk, os⟩) l items := ⟨_, hl, rfl, n, rfl⟩
    wp_walk using AutoSeq1.wpAny_loadPart' hl
    refine wpAny_stack_any fun st => wpAny_pure ?_
    split
    · rename_i c _ _ _ _ _
      cases (c == Value.type "enumerate")
      · wp_walk using AutoSeq1.wpAny_loadPart' hl, wpAny_pyIter_tuple hL
        exact ⟨_, rfl, h⟩
      · wp_walk using AutoSeq1.wpAny_loadPart' hl, wpAny_pyIter_tuple hL
        exact ⟨_, rfl, h⟩
    · wp_walk using AutoSeq1.wpAny_loadPart' hl, wpAny_pyIter_tuple hL
      exact ⟨_, rfl, h⟩
section
variable {prog : Program} {w : World} {A : Around} {E : Value → Shared → Prop} {s : Shared}
theorem call_new {l : Addr} {items : Array Value} {Q : Value → Shared → Prop} (hL : s.heap.IsTuple l items)
    (h : ∀ h', IsEnum h' (s.heap.objs.size + 1) s.heap.objs.size 0 .none → h'.IsTupleIter s.heap.objs.size l 0 → h'.objs.size = s.heap.objs.size + 2 →
      (∀ b o, s.heap.get? b = some o → h'.get? b = some o) → Q (.ref (s.heap.objs.size + 1)) { s with heap := h' }) :
    wpAny (model prog w) A (call (.type "enumerate") [.ref l]) Q E s := by
  obtain ⟨⟨c, dct, dt, sl⟩, hl, hc, n, hd⟩ := hL
  replace hc : c = .type "tuple" := hc
  replace hd : dt = .seq items n := hd
  subst hc hd
  refine callType_new F.called_enumerate (by decide) (F.typeCall_enumerate_1 _) (F.newCall_enumerate_1 _) (fun obj => F.args_object_init_2 obj _) F.entry_enumerate_new
    (meets_new l items n dct sl) ⟨hl, ?_⟩
  have hz : (s.heap.push { cls := .type "tuple_iterator", data := .fields #[.ref l, .int 0 0] }).objs.size = s.heap.objs.size + 1 := Heap.size_push ..
  show _ ∧ _
  rw [hz]
  have he : IsEnum ((s.heap.push { cls := .type "tuple_iterator", data := .fields #[.ref l, .int 0 0] }).push
      { cls := .type "enumerate", data := .fields #[.none, .bool false, .ref s.heap.objs.size, rawInt 0, .none, .none] }) (s.heap.objs.size + 1) s.heap.objs.size 0 .none := by
    have := Heap.get?_push_size (s.heap.push { cls := .type "tuple_iterator", data := .fields #[.ref l, .int 0 0] })
      (o := { cls := .type "enumerate", data := .fields #[.none, .bool false, .ref s.heap.objs.size, rawInt 0, .none, .none] }) rfl
    rw [hz] at this; exact this
  refine ⟨⟨_, he, rfl⟩, h _ he ⟨_, Heap.get?_push_of_some _ (Heap.get?_push_size _ rfl), rfl, rfl⟩ (by rw [Heap.size_push, hz]) fun b o x => Heap.get?_push_of_some _ (Heap.get?_push_of_some _ x)⟩
end
/-- the tuple at a, each item in a new pair -/
def Itu (K : PySem.W.Frag) (a : Addr) : It :=
  ⟨fun i H => ∃ (xs : List V) (x : V), SqT K H a xs ∧ xs[i]? = some x, fun i H v H' => ∃ T x, v = .ref T ∧ H T = none ∧ H' = upd H T (.tup [.int (i : Nat), x]) ∧ ∀ xs, SqT K H a xs → xs[i]? = some x, fun i H => ∃ xs : List V, SqT K H a xs ∧ xs.length ≤ i⟩
theorem vals_inj {xs ys : List V} {its : List Value} (h1 : Vals xs its) (h2 : Vals ys its) : xs = ys := h1.inj h2
theorem turn_enumT {P : Program} {w : World} {K : PySem.W.Frag} {elts : List Expr} {kk : Nat} {tpos : Pos} (a e it : Addr) :
    Turn P w K (.Tuple elts kk tpos) (Itu K a) [e, it] e (fun i h => (∃ old, IsEnum h e it ((i : Nat) : Int) old) ∧ h.IsTupleIter it a i ∧ e ≠ it ∧ e ≠ a ∧ a ≠ it) where
  mem := by simp
  obj := fun i h st b hb => by
    obtain ⟨⟨old, he⟩, ⟨o, ho, hc, hd⟩, _⟩ := st
    have e' : b = e ∨ b = it := by simpa using hb
    rcases e' with z | z
    · rw [z]; exact ⟨_, he, fun v q => nomatch q⟩
    · rw [z]; exact ⟨o, ho, fun v q => by rw [hd] at q; cases q⟩
  keep := fun i h h' st k => let ⟨⟨old, he⟩, hi, hne⟩ := st; ⟨⟨old, k e (by simp) _ he⟩, hi.at fun o q => k it (by simp) o q, hne⟩
  item := by
    intro X hP hw hK hc i pins s σ H E I hf st hg
    subst hP hw hK
    obtain ⟨⟨old, he⟩, hit, hne, hea, hai⟩ := st
    obtain ⟨xs, x, hq, hx⟩ := hg
    obtain ⟨its, rv, hT0, hz⟩ := I.tuple hq
    obtain ⟨u, hu, ru⟩ := rv.get hx
    have hel : e < s.heap.objs.size := Heap.lt_size he
    have hil : it < s.heap.objs.size := by obtain ⟨_, q, _⟩ := hit; exact Heap.lt_size q
    have hlt : i < its.toArray.size := by rw [List.size_toArray]; exact (List.getElem?_eq_some_iff.mp hu).1
    refine wpAny_pyNext_enum_itemD (Draws.tuple (A := X.A.in1) (I.ok.hd hc) it a hai its.toArray) he ⟨hit, hT0⟩ hlt hne (by simp [hne, hea]) fun x' h' tk hP ho hs' hT hsz hk => ?_
    obtain rfl : x' = u := by
      have hP : its[i]? = some x' := by simpa using hP
      rw [hu] at hP
      exact (Option.some.inj hP).symm
    refine ⟨_, rfl, wpAny_letOwnedTupleGo_enum (s := { s with heap := h', toks := tk + 1 }) ho fun h'' he' sb => ?_⟩
    have hT2 : h''.get? s.heap.objs.size = some { cls := .type "tuple", data := .seq #[.int i tk, x'] } := (sb.2 _ (Nat.ne_of_gt hel)).trans hT
    have new : ObjOk X.prog X.w (upd H s.heap.objs.size (.tup [.int (i : Nat), x])) h'' s.heap.objs.size (.tup [.int (i : Nat), x]) :=
      ⟨by show 2 ≤ sizeLine; decide, [.int i tk, x'], .cons ⟨_, rfl⟩ (.cons ru .nil), ⟨_, hT2, rfl, _, rfl⟩⟩
    have I1 : Inv X pins σ (upd H s.heap.objs.size (.tup [.int (i : Nat), x])) { s with heap := h'', toks := tk + 1 } :=
      I.turnedNew (ch := [e, it]) (fun b ob hb q => (sb.2 b (fun z => hb (by simp [z]))).trans (hk b ob (fun z => hb (by simp [z])) (fun z => hb (by simp [z])) q)) hf (Nat.le_refl _) new
    refine ⟨.ref s.heap.objs.size, _, I1, rfl, ⟨_, x, rfl, I.hok.fresh (Nat.le_refl _), rfl, fun ys hy => ?_⟩, ⟨⟨x', ?_⟩, hs'.1.at fun o q => (sb.2 it (Ne.symm hne)).trans q, hne, hea, hai⟩, fun b hb => ?_⟩
    · obtain ⟨its2, rv2, ⟨o2, g2, c2, n2, d2⟩, _⟩ := I.tuple hy
      obtain ⟨o1, g1, c1, n1, d1⟩ := hT0
      rw [g1] at g2
      cases g2
      rw [d1] at d2
      cases d2
      rw [vals_inj rv2 rv]
      exact hx
    · have e1 : ((i + 1 : Nat) : Int) = (i : Int) + 1 := by omega
      rw [e1]; exact he'
    · have hb' : b < s.heap.objs.size := by
        have e' : b = e ∨ b = it := by simpa using hb
        rcases e' with z | z
        · rw [z]; exact hel
        · rw [z]; exact hil
      rw [upd_ne (Nat.ne_of_lt hb')]
      exact (hf b hb).1
  done := by
    intro X hP hw hK hc i pins s σ H E I hf st hg
    subst hP hw hK
    obtain ⟨⟨old, he⟩, hit, hne, hea, hai⟩ := st
    obtain ⟨xs, hq, hx⟩ := hg
    obtain ⟨its, rv, hT0, hz⟩ := I.tuple hq
    obtain ⟨f0, f1, f2, f3, f4, f5⟩ := hf it (by simp)
    have hl := rv.length
    have D : Draws X.prog X.w X.A.in1 it [it, a] 0 (fun _ _ => True) (fun _ h => h.IsTupleIter it a i ∧ h.IsTuple a its.toArray) :=
      { live := fun _ _ st => let ⟨o, ho, _⟩ := st.1; ⟨o, ho⟩
        frame := fun _ _ _ st hk => ⟨st.1.at fun o e => hk it (by simp) o e, st.2.at fun o e => hk a (by simp) o e⟩
        item := fun i s Q E hi => absurd hi (Nat.not_lt_zero _)
        done := fun s Q E st hE => wpAny_nextOf_tuple_end (I.ok.hd hc) st.1 st.2 (by simp; omega) hE }
    exact wpAny_pyNext_enum_endD D he ⟨hit, hT0⟩ fun h' eb => ⟨rfl, I.turned (t' := s.toks) (fun b o hb q => eb b o hb q) f0 f1 f3 f4 f5⟩
  self := fun A i s Q E st h => let ⟨⟨_, he⟩, _⟩ := st; wpAny_pyIter_enum he h
def iEnumT (K : PySem.W.Frag) (ta : TA) : TI := fun σ H R => ta σ H fun vs H1 => ∃ a xs, vs = [.ref a] ∧ SqT K H1 a xs ∧ R (Itu K a) H1
theorem pi_enumT {X : Cx} {e : Expr} {ta : TA} {p pos tpos : Pos} {elts : List Expr} {kk : Nat} (hg : Gl X "enumerate") (hm : X.mg "enumerate" = none) (ha : PA X [e] ta) (hs : starEach [e] X.env = [(false, eval e X.env)] := by rfl) :
    PI X (.Tuple elts kk tpos) (.Call (.Name "enumerate" p) [e] [] pos) (iEnumT X.K ta) := by
  refine ⟨fun pins s σ H R I h => ?_⟩
  refine Call_ (ld_blt I hg hm boot_enumerate (PyProof.Rows.callWith_type1 (thn (ha.run pos pins s σ H _ I h) fun us s1 ⟨vs, H1, I1, r1, q1⟩ => ?_) hs rfl))
  obtain ⟨a, xs, ex, hq, q⟩ := q1
  subst ex
  cases r1 with
  | cons r rr =>
    cases rr
    cases r
    obtain ⟨its, rv, hT, hz⟩ := I1.tuple hq
    have hlt : a < s1.heap.objs.size := by obtain ⟨_, q, _⟩ := _root_.id hT; exact Heap.lt_size q
    refine call_new hT fun h' he hit hsz hk => wpAny_pyIter_enum he ?_
    have I2 : Inv X pins σ H1 { s1 with heap := h' } := I1.kept (t' := s1.toks) hk
    refine ⟨s1.heap.objs.size + 1, [s1.heap.objs.size + 1, s1.heap.objs.size], _, _, H1, rfl, I2, turn_enumT a (s1.heap.objs.size + 1) s1.heap.objs.size, ⟨⟨.none, he⟩, hit, Nat.succ_ne_self _, Nat.ne_of_gt (Nat.lt_succ_of_lt hlt), Nat.ne_of_lt hlt⟩, fun b hb => ?_, q⟩
    have e' : b = s1.heap.objs.size + 1 ∨ b = s1.heap.objs.size := by simpa using hb
    have hle : s1.heap.objs.size ≤ b := by
      rcases e' with z | z
      · rw [z]; exact Nat.le_add_right _ _
      · rw [z]; exact Nat.le_refl _
    exact I1.fpOk hle (I1.hok.fresh hle)
theorem walk_enumT {K : PySem.W.Frag} {a : Addr} {xs : List V} : Walk (Itu K a) xs.length (fun H => SqT K H a xs) (YPair (fun i => some (.int (i : Nat))) (fun i => xs[i]?)) := by
  refine ⟨fun i _ hi q => ⟨xs, xs[i], q, by simp [hi]⟩, fun _ q => ⟨xs, q, Nat.le_refl _⟩, fun i H v H' _ q y => ?_⟩
  obtain ⟨T, x, h1, h2, h3, h4⟩ := y
  exact ⟨T, .int (i : Nat), x, h1, h2, h3, rfl, h4 xs q⟩
/-- sum(t) of a tuple of ints -/
def rSumT (K : PySem.W.Frag) : List V → Hp → VK → Prop := fun vs H Q => ∃ (a : Addr) (ns : List Int), vs = [V.ref a] ∧ SqT K H a (ns.map V.int) ∧ Q (.int ns.sum) H
theorem cr_sumT {X : Cx} (hc : X.calm = true) : CallR X (.builtin "sum") (rSumT X.K) := by
  intro pins s σ H vs us Q I r h
  obtain ⟨a, ns, rfl, hs, q⟩ := h
  obtain ⟨its, rv, hl, _⟩ := I.tuple hs
  rw [Vals.ref1 r]
  have hi := rv.ints
  obtain ⟨xs, hx⟩ := hi.allInts.items
  have hn : numsOf its.toArray.toList = ns := by rw [show its.toArray.toList = its from rfl, hi.numsOf]
  rw [hx] at hl hn
  rw [PySem.nums_intItems] at hn
  refine PySem.W.ktm_sumG (I.ok.hd hc) hl fun h' tk t' hk => ⟨.int _, H, I.kept hk, ⟨_, rfl⟩, ?_⟩
  rw [preSum_eq, List.take_of_length_le (by simp), hn]
  exact q
end EnT
namespace Mt
open PySem PySem.Spec PyProof.Rows L2
def topS (i : Nat) : Stmt := PySem.Challenge.pw_meantrace_k68_bent_walks.main.body.getD i (.Pass ⟨0, 0, 0, 0⟩)
abbrev s_make_fraction : Stmt := topS 9
abbrev N_make_fraction : List Str := ["n", "d", "common"]
theorem sc_make_fraction : FnScope N_make_fraction ["n", "d"] (defScope s_make_fraction) := ⟨rfl, rfl, rfl, by decide +kernel, rfl, by decide +kernel, by decide +kernel⟩
abbrev s_product_of : Stmt := topS 10
abbrev N_product_of : List Str := ["a", "b"]
theorem sc_product_of : FnScope N_product_of ["a", "b"] (defScope s_product_of) := ⟨rfl, rfl, rfl, by decide +kernel, rfl, by decide +kernel, by decide +kernel⟩
abbrev s_quotient_of : Stmt := topS 11
abbrev N_quotient_of : List Str := ["a", "b"]
theorem sc_quotient_of : FnScope N_quotient_of ["a", "b"] (defScope s_quotient_of) := ⟨rfl, rfl, rfl, by decide +kernel, rfl, by decide +kernel, by decide +kernel⟩
abbrev s_bent_walk : Stmt := topS 13
abbrev N_bent_walk : List Str := ["web", "bend", "goal", "tickets", "state", "weight", "used", "ticket", "numbers", "at", "shown", "target", "share"]
theorem sc_bent_walk : FnScope N_bent_walk ["web", "bend", "goal", "tickets"] (defScope s_bent_walk) := ⟨rfl, rfl, rfl, by decide +kernel, rfl, by decide +kernel, by decide +kernel⟩
abbrev s_arc_at : Stmt := topS 14
abbrev N_arc_at : List Str := ["numbers", "ticket", "at", "above"]
theorem sc_arc_at : FnScope N_arc_at ["numbers", "ticket"] (defScope s_arc_at) := ⟨rfl, rfl, rfl, by decide +kernel, rfl, by decide +kernel, by decide +kernel⟩
abbrev s__law_begin : Stmt := topS 16
abbrev N__law_begin : List Str := ["script", "cell"]
theorem sc__law_begin : FnScope N__law_begin ["script"] (defScope s__law_begin) := ⟨rfl, rfl, rfl, by decide +kernel, rfl, by decide +kernel, by decide +kernel⟩
abbrev s__law_draw : Stmt := topS 17
abbrev N__law_draw : List Str := ["d", "many", "found", "size", "cell"]
theorem sc__law_draw : FnScope N__law_draw ["d", "many"] (defScope s__law_draw) := ⟨rfl, rfl, rfl, by decide +kernel, rfl, by decide +kernel, by decide +kernel⟩
abbrev s__law_pick : Stmt := topS 18
abbrev N__law_pick : List Str := ["d", "row"]
theorem sc__law_pick : FnScope N__law_pick ["d", "row"] (defScope s__law_pick) := ⟨rfl, rfl, rfl, by decide +kernel, rfl, by decide +kernel, by decide +kernel⟩
abbrev s__law_pop : Stmt := topS 19
abbrev N__law_pop : List Str := ["d", "row"]
theorem sc__law_pop : FnScope N__law_pop ["d", "row"] (defScope s__law_pop) := ⟨rfl, rfl, rfl, by decide +kernel, rfl, by decide +kernel, by decide +kernel⟩
abbrev s__law_pool : Stmt := topS 20
abbrev N__law_pool : List Str := ["text"]
theorem sc__law_pool : FnScope N__law_pool [] (defScope s__law_pool) := ⟨rfl, rfl, rfl, by decide +kernel, rfl, by decide +kernel, by decide +kernel⟩
abbrev s__law_is_int : Stmt := topS 21
abbrev N__law_is_int : List Str := ["thing"]
theorem sc__law_is_int : FnScope N__law_is_int ["thing"] (defScope s__law_is_int) := ⟨rfl, rfl, rfl, by decide +kernel, rfl, by decide +kernel, by decide +kernel⟩
abbrev s__law_frac : Stmt := topS 22
abbrev N__law_frac : List Str := ["n", "d", "a", "b", "rest"]
theorem sc__law_frac : FnScope N__law_frac ["n", "d"] (defScope s__law_frac) := ⟨rfl, rfl, rfl, by decide +kernel, rfl, by decide +kernel, by decide +kernel⟩
abbrev s__law_times : Stmt := topS 23
abbrev N__law_times : List Str := ["a", "b"]
theorem sc__law_times : FnScope N__law_times ["a", "b"] (defScope s__law_times) := ⟨rfl, rfl, rfl, by decide +kernel, rfl, by decide +kernel, by decide +kernel⟩
abbrev s__law_drawn_shown : Stmt := topS 24
abbrev N__law_drawn_shown : List Str := ["d", "marks", "k"]
theorem sc__law_drawn_shown : FnScope N__law_drawn_shown ["d", "marks"] (defScope s__law_drawn_shown) := ⟨rfl, rfl, rfl, by decide +kernel, rfl, by decide +kernel, by decide +kernel⟩
abbrev s__law_drawn_web : Stmt := topS 25
abbrev N__law_drawn_web : List Str := ["d", "states", "marks", "rows", "s", "found", "k", "size", "key"]
theorem sc__law_drawn_web : FnScope N__law_drawn_web ["d", "states", "marks"] (defScope s__law_drawn_web) := ⟨rfl, rfl, rfl, by decide +kernel, rfl, by decide +kernel, by decide +kernel⟩
abbrev s__law_same : Stmt := topS 26
abbrev N__law_same : List Str := ["told", "due", "k"]
theorem sc__law_same : FnScope N__law_same ["told", "due"] (defScope s__law_same) := ⟨rfl, rfl, rfl, by decide +kernel, rfl, by decide +kernel, by decide +kernel⟩
abbrev s__law_integer : Stmt := topS 27
abbrev N__law_integer : List Str := ["d", "kind"]
theorem sc__law_integer : FnScope N__law_integer ["d"] (defScope s__law_integer) := ⟨rfl, rfl, rfl, by decide +kernel, rfl, by decide +kernel, by decide +kernel⟩
abbrev s__law_world : Stmt := topS 28
abbrev N__law_world : List Str := ["d", "names", "marks", "k", "web", "bend", "row", "parts", "arc"]
theorem sc__law_world : FnScope N__law_world ["d"] (defScope s__law_world) := ⟨rfl, rfl, rfl, by decide +kernel, rfl, by decide +kernel, by decide +kernel⟩
abbrev s__law_arc : Stmt := topS 29
abbrev N__law_arc : List Str := ["parts", "ticket", "k"]
theorem sc__law_arc : FnScope N__law_arc ["parts", "ticket"] (defScope s__law_arc) := ⟨rfl, rfl, rfl, by decide +kernel, rfl, by decide +kernel, by decide +kernel⟩
abbrev s__law_own : Stmt := topS 30
abbrev N__law_own : List Str := ["world", "tickets", "web", "bend", "goal", "state", "scale", "k", "parts", "at", "shown", "there", "share"]
theorem sc__law_own : FnScope N__law_own ["world", "tickets"] (defScope s__law_own) := ⟨rfl, rfl, rfl, by decide +kernel, rfl, by decide +kernel, by decide +kernel⟩
abbrev s__law_asked : Stmt := topS 31
abbrev N__law_asked : List Str := ["world", "tickets", "due", "told", "raised"]
theorem sc__law_asked : FnScope N__law_asked ["world", "tickets"] (defScope s__law_asked) := ⟨rfl, rfl, rfl, by decide +kernel, rfl, by decide +kernel, by decide +kernel⟩
abbrev s__law_refused : Stmt := topS 32
abbrev N__law_refused : List Str := ["world", "tickets", "raised"]
theorem sc__law_refused : FnScope N__law_refused ["world", "tickets"] (defScope s__law_refused) := ⟨rfl, rfl, rfl, by decide +kernel, rfl, by decide +kernel, by decide +kernel⟩
abbrev s__law_rows : Stmt := topS 33
abbrev N__law_rows : List Str := ["d", "world", "web", "bend", "goal", "state", "row", "rows", "k", "parts", "size", "last", "ticket", "edge", "shown", "there", "share", "odd"]
theorem sc__law_rows : FnScope N__law_rows ["d", "world"] (defScope s__law_rows) := ⟨rfl, rfl, rfl, by decide +kernel, rfl, by decide +kernel, by decide +kernel⟩
abbrev s_law : Stmt := topS 34
abbrev N_law : List Str := ["script", "d", "worlds", "rows", "world", "turn", "k"]
theorem sc_law : FnScope N_law ["script"] (defScope s_law) := ⟨rfl, rfl, rfl, by decide +kernel, rfl, by decide +kernel, by decide +kernel⟩
structure Txt (K : PySem.W.Frag) (mg : Str → Option Value) : Prop where
  b_int : mg "int" = none
  b_abs : mg "abs" = none
  b_len : mg "len" = none
  b_isinstance : mg "isinstance" = none
  b_bool : mg "bool" = none
  b_tuple : mg "tuple" = none
  b_list : mg "list" = none
  b_range : mg "range" = none
  b_sum : mg "sum" = none
  b_all : mg "all" = none
  b_sorted : mg "sorted" = none
  b_min : mg "min" = none
  b_max : mg "max" = none
  b_enumerate : mg "enumerate" = none
  b_super : mg "super" = none
  b_ValueError : mg "ValueError" = none
  f_gcd : mg "gcd" = some (.builtin "math.gcd")
theorem upd_upd {H : Hp} {p : Addr} {a b : HO} : upd (upd H p a) p b = upd H p b := by
  funext x
  unfold upd
  split <;> rfl
theorem take_map_succ {α β : Type} {f : α → β} {l : List α} {i : Nat} {c : α} (h : l[i]? = some c) : (l.take i).map f ++ [f c] = (l.take (i + 1)).map f := by
  rw [List.take_add_one, h, List.map_append]
  rfl
theorem divW_of {n : Int} (h : 0 < n) (h2 : n < 2 ^ 64) : CDivW 0 n := wide_div h (b := 64) (by omega) (by decide) (by decide)
theorem getV {ns : List Int} {i : Nat} {x : V} (h : (ns.map V.int)[i]? = some x) : ∃ z, x = .int z ∧ ns[i]? = some z := by
  rw [List.getElem?_map] at h
  cases e : ns[i]? with
  | none =>
    rw [e] at h
    cases h
  | some z =>
    rw [e] at h
    exact ⟨z, (Option.some.inj h).symm, rfl⟩
def spBegin (K : PySem.W.Frag) : Sp := fun vs H Q _ => ∃ (a : Addr) (ns : List Int), vs = [.ref a] ∧ SqL K H a (ns.map V.int) ∧ ns.length ≤ 63 ∧ ∀ S D H', Same H H' → H D = none → DrawAt S D H' → Q (.ref D) H'
/-- a text or a list, what it holds -/
def Row (K : PySem.W.Frag) (H : Hp) (v : V) (xs : List V) : Prop := (∃ z : Str, v = .str z ∧ xs = z.cps.toList.map fun c => .str ⟨#[c]⟩) ∨ (∃ p, v = .ref p ∧ SqL K H p xs) ∨ ∃ p, v = .ref p ∧ SqT K H p xs
def spPick (K : PySem.W.Frag) : Sp := fun vs H Q _ => ∃ (S D : Addr) (r : V) (xs : List V), vs = [.ref D, r] ∧ DrawAt S D H ∧ (∀ H', Go S D H H' → Row K H' r xs) ∧ 0 < xs.length ∧ xs.length ≤ 100000 ∧ ∀ H' x, x ∈ xs → Go S D H H' → Q x H'

theorem same_new {H : Hp} {p : Addr} {o : HO} (h : H p = none) : Same H (upd H p o) := fun b x e => by
  rw [upd_ne (ne_of_none e h)]
  exact e
/-- a change at a place that H does not know -/
theorem same_mut {H H' : Hp} {p : Addr} {o : HO} (s : Same H H') (h : H p = none) : Same H (upd H' p o) := fun b u e => by
  rw [upd_ne (ne_of_none e h)]
  exact s b u e
theorem iteNT {A B : Prop} (h : B) : if (!true) = true then A else B := iteF h
theorem line5 {n : Nat} (h : n ≤ 100000) : n ≤ sizeLine := Nat.le_trans h (by decide)
theorem line6 {n : Nat} (h : n < 100000) : n < sizeLine := Nat.lt_of_lt_of_le h (by decide)
/-! ### data as it stands in the heap -/
def KeepT (H H' : Hp) : Prop := ∀ p xs, Rd H p (.tup xs) → Rd H' p (.tup xs)
theorem KeepT.of_same {H H' : Hp} (s : Same H H') : KeepT H H' := fun p xs h => by
  rcases h with h | ⟨o, h⟩
  · exact .inl (s _ _ h)
  · exact .inr ⟨o, s _ _ h⟩
theorem KeepT.trans {H H1 H2 : Hp} (a : KeepT H H1) (b : KeepT H1 H2) : KeepT H H2 := fun p xs h => b p xs (a p xs h)
mutual
def noL : PyData → Bool
  | .list _ => false
  | .dict _ => false
  | .tuple ds => noLs ds
  | _ => true
def noLs : List PyData → Bool
  | [] => true
  | d :: ds => noL d && noLs ds
end
theorem sqt_keep {K : PySem.W.Frag} {H H' : Hp} {a : Addr} {xs : List V} (k : KeepT H H') (h : SqT K H a xs) : SqT K H' a xs := by
  rcases h with h | h
  · exact .inl (k _ _ h)
  · exact .inr h
mutual
theorem dp_keep {K : PySem.W.Frag} {H H' : Hp} (k : KeepT H H') : ∀ (d : PyData) (v : V), noL d = true → Dp K H v d → Dp K H' v d
  | .none, _, _, h => by
    cases h
    exact .non
  | .bool b, _, _, h => by
    cases h
    exact .bl b
  | .int i, _, _, h => by
    cases h
    exact .int i
  | .str x, _, _, h => by
    cases h
    exact .str x
  | .list ds, _, n, _ => by
    have n2 : false = true := n
    cases n2
  | .dict ds, _, n, _ => by
    have n2 : false = true := n
    cases n2
  | .tuple ds, _, n, h => by
    cases h with
    | tup h1 h2 => exact .tup (sqt_keep k h1) (dpA_keep k ds _ n h2)
theorem dpA_keep {K : PySem.W.Frag} {H H' : Hp} (k : KeepT H H') : ∀ (ds : List PyData) (xs : List V), noLs ds = true → DpAll K H xs ds → DpAll K H' xs ds
  | [], _, _, h => by
    cases h
    exact .nil
  | d :: ds, _, n, h => by
    cases h with
    | cons h1 h2 =>
      have n2 : (noL d && noLs ds) = true := n
      rw [Bool.and_eq_true] at n2
      exact .cons (dp_keep k d _ n2.1 h1) (dpA_keep k ds _ n2.2 h2)
end
theorem dp_tup {K : PySem.W.Frag} {H : Hp} {v : V} {ds : List PyData} (h : Dp K H v (.tuple ds)) : ∃ a xs, v = .ref a ∧ SqT K H a xs ∧ DpAll K H xs ds := by
  cases h with
  | tup h1 h2 => exact ⟨_, _, rfl, h1, h2⟩
theorem dp_str {K : PySem.W.Frag} {H : Hp} {v : V} {z : Str} (h : Dp K H v (.str z)) : v = .str z := by
  cases h
  rfl
theorem dp_int {K : PySem.W.Frag} {H : Hp} {v : V} {z : Int} (h : Dp K H v (.int z)) : v = .int z := by
  cases h
  rfl
theorem dp_non {K : PySem.W.Frag} {H : Hp} {v : V} (h : Dp K H v .none) : v = .non := by
  cases h
  rfl
theorem dpA_nil {K : PySem.W.Frag} {H : Hp} {xs : List V} (h : DpAll K H xs []) : xs = [] := by
  cases h
  rfl
theorem dpA_cons {K : PySem.W.Frag} {H : Hp} {xs : List V} {d : PyData} {ds : List PyData} (h : DpAll K H xs (d :: ds)) : ∃ x r, xs = x :: r ∧ Dp K H x d ∧ DpAll K H r ds := by
  cases h with
  | cons h1 h2 => exact ⟨_, _, rfl, h1, h2⟩
theorem dpA_len {K : PySem.W.Frag} {H : Hp} : ∀ {ds : List PyData} {xs : List V}, DpAll K H xs ds → xs.length = ds.length
  | [], _, h => by rw [dpA_nil h]; rfl
  | d :: ds, _, h => by
    obtain ⟨x, r, rfl, _, h2⟩ := dpA_cons h
    rw [List.length_cons, List.length_cons, dpA_len h2]
theorem dpA_at {K : PySem.W.Frag} {H : Hp} : ∀ {ds : List PyData} {xs : List V} {i : Nat} {x : V}, DpAll K H xs ds → xs[i]? = some x → ∃ d, ds[i]? = some d ∧ Dp K H x d
  | [], _, i, x, h, e => by
    rw [dpA_nil h] at e
    simp at e
  | d :: ds, _, 0, x, h, e => by
    obtain ⟨y, r, rfl, h1, h2⟩ := dpA_cons h
    have e2 : y = x := Option.some.inj e
    subst e2
    exact ⟨d, rfl, h1⟩
  | d :: ds, _, i + 1, x, h, e => by
    obtain ⟨y, r, rfl, h1, h2⟩ := dpA_cons h
    obtain ⟨d', h3, h4⟩ := dpA_at (i := i) (x := x) h2 (by simpa using e)
    exact ⟨d', by simpa using h3, h4⟩
theorem noLs_map {α : Type} (f : α → PyData) : ∀ l : List α, (∀ x ∈ l, noL (f x) = true) → noLs (l.map f) = true
  | [], _ => rfl
  | x :: r, h => by
    show (noL (f x) && noLs (r.map f)) = true
    rw [h x List.mem_cons_self, noLs_map f r fun y hy => h y (List.mem_cons_of_mem _ hy)]
    rfl
theorem keepT_new {H : Hp} {L : Addr} {o : HO} (h : H L = none) : KeepT H (upd H L o) := KeepT.of_same (same_new h)
theorem ixT {X : Cx} {K : PySem.W.Frag} (h : X.K = K) : IxR X (rIxT K) := h ▸ ix_tup
theorem isiT {X : Cx} {K : PySem.W.Frag} (h : X.K = K) : CallR X (.builtin "isinstance") (rIsi K) := h ▸ call_isi
theorem map_at {α : Type} {f : α → PyData} {l : List α} {i : Nat} {d : PyData} (h : (l.map f)[i]? = some d) : ∃ x, l[i]? = some x ∧ f x = d := by
  rw [List.getElem?_map] at h
  cases e : l[i]? with
  | none =>
    rw [e] at h
    cases h
  | some x =>
    rw [e] at h
    exact ⟨x, rfl, Option.some.inj h⟩
theorem dpA_snoc {K : PySem.W.Frag} {H : Hp} : ∀ {ds : List PyData} {xs : List V} {x : V} {d : PyData}, DpAll K H xs ds → Dp K H x d → DpAll K H (xs ++ [x]) (ds ++ [d])
  | [], _, _, _, h, hx => by
    rw [dpA_nil h]
    exact .cons hx .nil
  | d0 :: ds, _, _, _, h, hx => by
    obtain ⟨y, r, rfl, h1, h2⟩ := dpA_cons h
    exact .cons h1 (dpA_snoc h2 hx)
theorem sqt_ty {K : PySem.W.Frag} {H : Hp} {a : Addr} {xs : List V} (h : SqT K H a xs) : TyX K H (.ref a) (.type "tuple") := by
  rcases h with (h | ⟨o, h⟩) | ⟨o, its, n, hk, hc, _⟩
  · exact .base (.tup h)
  · exact .fTuple h
  · exact .kTuple hk hc
/-! ### fractions -/
abbrev F2 : Type := Int × Int
def gg (n d : Int) : Nat := Nat.gcd n.natAbs d.natAbs
def fr (n d : Int) : F2 := ((if d < 0 then -n else n) / (gg n d : Int), (if d < 0 then -d else d) / (gg n d : Int))
def add2 (a b : F2) : Int × Int := (a.1 * b.2 + b.1 * a.2, a.2 * b.2)
def sub2 (a b : F2) : Int × Int := (a.1 * b.2 - b.1 * a.2, a.2 * b.2)
def mul2 (a b : F2) : Int × Int := (a.1 * b.1, a.2 * b.2)
def div2 (a b : F2) : Int × Int := (a.1 * b.2, a.2 * b.1)
def frp (x : Int × Int) : F2 := fr x.1 x.2
theorem gg_pos {n d : Int} (h : d ≠ 0) : 0 < gg n d := Nat.gcd_pos_of_pos_right _ (Int.natAbs_pos.mpr h)
theorem gg_le {n d : Int} (h : d ≠ 0) : gg n d ≤ d.natAbs := Nat.gcd_le_right _ (Int.natAbs_pos.mpr h)
/-- in lowest terms, the second at least 1 -/
structure Low (x : F2) : Prop where
  pos : 1 ≤ x.2
  co : Nat.gcd x.1.natAbs x.2.natAbs = 1
theorem fr_low {n d : Int} (h : d ≠ 0) : Low (fr n d) := by
  have g0 := gg_pos (n := n) h
  have gd1 : (gg n d : Int) ∣ d := Int.ofNat_dvd_left.mpr (Nat.gcd_dvd_right _ _)
  have gn1 : (gg n d : Int) ∣ n := Int.ofNat_dvd_left.mpr (Nat.gcd_dvd_left _ _)
  have key : ∀ a b : Int, a.natAbs = n.natAbs → b.natAbs = d.natAbs → 0 < b → Low (a / (gg n d : Int), b / (gg n d : Int)) := fun a b ha hb hp => by
    have g1 : (gg n d : Int) ∣ b := Int.ofNat_dvd_left.mpr (by rw [hb]; exact Nat.gcd_dvd_right _ _)
    have g2 : (gg n d : Int) ∣ a := Int.ofNat_dvd_left.mpr (by rw [ha]; exact Nat.gcd_dvd_left _ _)
    refine ⟨?_, ?_⟩
    · have := Int.ediv_pos_of_pos_of_dvd hp (by omega) g1
      show 1 ≤ b / (gg n d : Int)
      omega
    · show Nat.gcd (a / (gg n d : Int)).natAbs (b / (gg n d : Int)).natAbs = 1
      rw [Int.natAbs_ediv_of_dvd g2, Int.natAbs_ediv_of_dvd g1, ha, hb, Int.natAbs_natCast]
      exact Nat.gcd_div_gcd_div_gcd_of_pos_right (Int.natAbs_pos.mpr h)
  unfold fr
  by_cases hd : d < 0
  · rw [if_pos hd, if_pos hd]
    exact key _ _ (Int.natAbs_neg n) (Int.natAbs_neg d) (by omega)
  · rw [if_neg hd, if_neg hd]
    exact key _ _ rfl rfl (by omega)
theorem low_fr {x : F2} (h : Low x) : fr x.1 x.2 = x := by
  have h1 := h.pos
  unfold fr
  rw [if_neg (by omega), if_neg (by omega)]
  have : gg x.1 x.2 = 1 := h.co
  rw [this]
  show (x.1 / 1, x.2 / 1) = x
  rw [Int.ediv_one, Int.ediv_one]
/-- the size: below 2 ^ k both -/
def Sz (k : Nat) (x : Int × Int) : Prop := x.1.natAbs < 2 ^ k ∧ x.2.natAbs < 2 ^ k
theorem div_small (a : Int) (g : Nat) : (a / (g : Int)).natAbs ≤ a.natAbs := Int.natAbs_ediv_le_natAbs a g
theorem fr_sz {k : Nat} {x : Int × Int} (h : Sz k x) : Sz k (frp x) := by
  have key : ∀ (c : Prop) [Decidable c] (a : Int) (g : Nat), ((if c then -a else a) / (g : Int)).natAbs ≤ a.natAbs := fun c _ a g => by
    split
    · exact Nat.le_trans (div_small _ _) (Nat.le_of_eq (Int.natAbs_neg a))
    · exact div_small _ _
  exact ⟨Nat.lt_of_le_of_lt (key _ _ _) h.1, Nat.lt_of_le_of_lt (key _ _ _) h.2⟩
theorem sz_mul {a b : Int} {j k : Nat} (ha : a.natAbs < 2 ^ j) (hb : b.natAbs < 2 ^ k) : (a * b).natAbs < 2 ^ (j + k) := wide_lt ha hb
theorem sz_add {a b : Int} {k : Nat} (ha : a.natAbs < 2 ^ k) (hb : b.natAbs < 2 ^ k) : (a + b).natAbs < 2 ^ (k + 1) := by
  have := Int.natAbs_add_le a b
  rw [Nat.pow_succ]
  omega
theorem sz_sub {a b : Int} {k : Nat} (ha : a.natAbs < 2 ^ k) (hb : b.natAbs < 2 ^ k) : (a - b).natAbs < 2 ^ (k + 1) := by
  have := sz_add ha (b := -b) (by rw [Int.natAbs_neg]; exact hb)
  rw [Int.sub_eq_add_neg]
  exact this
theorem sz_up {x : Int × Int} {j k : Nat} (h : Sz j x) (hl : j ≤ k) : Sz k x :=
  ⟨Nat.lt_of_lt_of_le h.1 (Nat.pow_le_pow_right (by decide) hl), Nat.lt_of_lt_of_le h.2 (Nat.pow_le_pow_right (by decide) hl)⟩
theorem n_up {a : Int} {j k : Nat} (h : a.natAbs < 2 ^ j) (hl : j ≤ k) : a.natAbs < 2 ^ k := Nat.lt_of_lt_of_le h (Nat.pow_le_pow_right (by decide) hl)
theorem add2_sz {a b : F2} {j k : Nat} (ha : Sz j a) (hb : Sz k b) : Sz (j + k + 1) (add2 a b) :=
  ⟨sz_add (sz_mul ha.1 hb.2) (by rw [Nat.add_comm j k]; exact sz_mul hb.1 ha.2), n_up (sz_mul ha.2 hb.2) (Nat.le_succ _)⟩
theorem sub2_sz {a b : F2} {j k : Nat} (ha : Sz j a) (hb : Sz k b) : Sz (j + k + 1) (sub2 a b) :=
  ⟨sz_sub (sz_mul ha.1 hb.2) (by rw [Nat.add_comm j k]; exact sz_mul hb.1 ha.2), n_up (sz_mul ha.2 hb.2) (Nat.le_succ _)⟩
theorem mul2_sz {a b : F2} {j k : Nat} (ha : Sz j a) (hb : Sz k b) : Sz (j + k + 1) (mul2 a b) := ⟨n_up (sz_mul ha.1 hb.1) (Nat.le_succ _), n_up (sz_mul ha.2 hb.2) (Nat.le_succ _)⟩
theorem div2_sz {a b : F2} {j k : Nat} (ha : Sz j a) (hb : Sz k b) : Sz (j + k + 1) (div2 a b) := ⟨n_up (sz_mul ha.1 hb.2) (Nat.le_succ _), n_up (sz_mul ha.2 hb.1) (Nat.le_succ _)⟩
/-- the sum of a row, from the left -/
def tot : List F2 → F2 → F2
  | [], t => t
  | x :: r, t => tot r (frp (add2 t x))
theorem gg_if (n d : Int) : (if d < 0 then -n else n).natAbs.gcd (if d < 0 then -d else d).natAbs = gg n d := by
  unfold gg
  split <;> simp
theorem low0 : Low (0, 1) := ⟨by decide, by decide⟩
theorem sz0 : Sz 1 (0, 1) := ⟨by decide, by decide⟩
theorem low_frp {x : Int × Int} (h : x.2 ≠ 0) : Low (frp x) := fr_low h
theorem add2_ne {a b : F2} (ha : Low a) (hb : Low b) : (add2 a b).2 ≠ 0 := by
  have h1 := ha.pos
  have h2 := hb.pos
  exact Int.ne_of_gt (Int.mul_pos (by omega) (by omega))
theorem tot_ok : ∀ (fs : List F2) (t : F2) {k : Nat}, Low t → Sz k t → (∀ x ∈ fs, Sz 100 x ∧ Low x) → Sz (k + 101 * fs.length) (tot fs t) ∧ Low (tot fs t)
  | [], t, k, h1, h2, _ => ⟨h2, h1⟩
  | x :: r, t, k, h1, h2, h3 => by
    obtain ⟨a, b⟩ := h3 x (List.mem_cons_self)
    have := tot_ok r (frp (add2 t x)) (k := k + 100 + 1) (low_frp (add2_ne h1 b)) (fr_sz (add2_sz h2 a)) (fun y hy => h3 y (List.mem_cons_of_mem _ hy))
    refine ⟨sz_up this.1 ?_, this.2⟩
    rw [List.length_cons]
    omega
theorem tot_snoc (x : F2) : ∀ (l : List F2) (t : F2), tot (l ++ [x]) t = frp (add2 (tot l t) x)
  | [], _ => rfl
  | y :: r, t => tot_snoc x r (frp (add2 t y))
theorem same_l {K : PySem.W.Frag} {H H' : Hp} {a : Addr} {xs : List V} (e : Same H H') (h : SqL K H a xs) : SqL K H' a xs := e.seq h
theorem same_t {K : PySem.W.Frag} {H H' : Hp} {a : Addr} {xs : List V} (e : Same H H') (h : SqT K H a xs) : SqT K H' a xs := by
  rcases h with (h | ⟨o, h⟩) | h
  · exact .inl (.inl (e _ _ h))
  · exact .inl (.inr ⟨o, e _ _ h⟩)
  · exact .inr h
theorem Paired.at {α β : Type} {R : α → β → Prop} : ∀ {xs : List α} {ys : List β} {i : Nat} {x : α}, Paired R xs ys → xs[i]? = some x → ∃ y, ys[i]? = some y ∧ R x y
  | _, _, _, _, .nil, e => by simp at e
  | _, _, 0, _, .cons r _, e => by
    have e : _ = _ := Option.some.inj e
    subst e
    exact ⟨_, rfl, r⟩
  | _, _, i + 1, x, .cons _ t, e => by
    obtain ⟨y, h1, h2⟩ := Paired.at (i := i) (x := x) t (by simpa using e)
    exact ⟨y, by simpa using h1, h2⟩
def dF (x : Int × Int) : PyData := .tuple [.int x.1, .int x.2]
def dFs (l : List (Int × Int)) : PyData := .list (l.map dF)
theorem dF_sh (x : Int × Int) : SeqAt.shaped (dF x) = true := rfl
theorem dFs_lay : ∀ l : List (Int × Int), PyData.canLayAll0 (l.map dF) = true
  | [] => rfl
  | x :: r => by
    show (PyData.canLay0 (dF x) && PyData.canLayAll0 (r.map dF)) = true
    rw [dFs_lay r]
    rfl
theorem dFs_dep : ∀ l : List (Int × Int), PyData.depthAll (l.map dF) ≤ 1
  | [] => Nat.zero_le _
  | x :: r => by
    show max (PyData.depth (dF x)) (PyData.depthAll (r.map dF)) ≤ 1
    have := dFs_dep r
    have e : PyData.depth (dF x) = 1 := rfl
    omega
theorem dFs_sh (l : List (Int × Int)) : SeqAt.shaped (dFs l) = true := by
  unfold SeqAt.shaped
  rw [Bool.and_eq_true]
  refine ⟨dFs_lay l, decide_eq_true ?_⟩
  show PyData.depthAll (l.map dF) + 1 ≤ 64
  have := dFs_dep l
  omega
theorem dFs_eqv (l : List (Int × Int)) : PyData.eqv (dFs l) (dFs l) = true := SeqAt.eqv_refl _ (dFs_lay l)
theorem dF_eqv (x : Int × Int) : PyData.eqv (dF x) (dF x) = true := SeqAt.eqv_refl _ rfl
theorem frv {n d : Int} (h : d ≠ 0) : (fr n d).1 * d = n * (fr n d).2 := by
  have g0 : (gg n d : Int) ≠ 0 := by
    have := Nat.gcd_pos_of_pos_right n.natAbs (Int.natAbs_pos.mpr h)
    show ((Nat.gcd n.natAbs d.natAbs : Nat) : Int) ≠ 0
    omega
  obtain ⟨a, ha⟩ : (gg n d : Int) ∣ n := Int.ofNat_dvd_left.mpr (Nat.gcd_dvd_left _ _)
  obtain ⟨b, hb⟩ : (gg n d : Int) ∣ d := Int.ofNat_dvd_left.mpr (Nat.gcd_dvd_right _ _)
  show ((if d < 0 then -n else n) / (gg n d : Int)) * d = n * ((if d < 0 then -d else d) / (gg n d : Int))
  generalize (gg n d : Int) = g at *
  split
  · rw [show -n = g * -a by rw [ha]; grind, show -d = g * -b by rw [hb]; grind, Int.mul_ediv_cancel_left _ g0, Int.mul_ediv_cancel_left _ g0]
    subst ha hb
    grind
  · rw [show n / g = a by rw [ha, Int.mul_ediv_cancel_left _ g0], show d / g = b by rw [hb, Int.mul_ediv_cancel_left _ g0]]
    subst ha hb
    grind
theorem low_uniq {x y : F2} (hx : Low x) (hy : Low y) (e : x.1 * y.2 = y.1 * x.2) : x = y := by
  obtain ⟨a, b⟩ := x
  obtain ⟨c, d⟩ := y
  have b1 : 1 ≤ b := hx.pos
  have d1 : 1 ≤ d := hy.pos
  have e1 : a.natAbs * d.natAbs = c.natAbs * b.natAbs := by
    rw [← Int.natAbs_mul, ← Int.natAbs_mul]
    exact congrArg Int.natAbs e
  have h1 : b.natAbs ∣ d.natAbs := Nat.Coprime.dvd_of_dvd_mul_left (Nat.Coprime.symm hx.co) ⟨c.natAbs, by rw [e1, Nat.mul_comm]⟩
  have h2 : d.natAbs ∣ b.natAbs := Nat.Coprime.dvd_of_dvd_mul_left (Nat.Coprime.symm hy.co) ⟨a.natAbs, by rw [← e1, Nat.mul_comm]⟩
  have h3 := Nat.dvd_antisymm h1 h2
  have h4 : b = d := by omega
  subst h4
  have h5 : a = c := Int.eq_of_mul_eq_mul_right (by omega) (show a * b = c * b from e)
  rw [h5]
/-! ### promises -/
def tupV (x : Int × Int) : List V := [.int x.1, .int x.2]
def tupF (x : Int × Int) : HO := .tup (tupV x)
def spFrac : Sp := fun vs H Q _ => ∃ n d : Int, vs = [.int n, .int d] ∧ d ≠ 0 ∧ Sz 4000 (n, d) ∧ ∀ p, H p = none → Q (.ref p) (upd H p (tupF (fr n d)))
def spBin (K : PySem.W.Frag) (op : F2 → F2 → Int × Int) : Sp := fun vs H Q _ => ∃ (p q : Addr) (a b : F2), vs = [.ref p, .ref q] ∧ SqT K H p (tupV a) ∧ SqT K H q (tupV b) ∧ Sz 1900 a ∧ Sz 1900 b ∧ (op a b).2 ≠ 0 ∧ ∀ r, H r = none → Q (.ref r) (upd H r (tupF (frp (op a b))))
def spIsInt : Sp := fun vs H Q _ => ∃ i : Int, vs = [.int i] ∧ Q (.bl true) H
def spIsInts (K : PySem.W.Frag) : Sp := fun vs H Q _ => ∃ (p : Addr) (ns : List Int), vs = [.ref p] ∧ H p = some (.tup (ns.map V.int)) ∧ ns.length ≤ 100 ∧ ∀ H', Same H H' → Q (.bl true) H'
def spIsFrac (K : PySem.W.Frag) : Sp := fun vs H Q _ => ∃ (p : Addr) (x : F2), vs = [.ref p] ∧ H p = some (tupF x) ∧ Low x ∧ Sz 4000 x ∧ ∀ H', Same H H' → Q (.bl true) H'
def spLaw (K : PySem.W.Frag) : Sp := fun vs H Q _ => ∃ (a : Addr) (ns : List Int), vs = [.ref a] ∧ SqL K H a (ns.map V.int) ∧ ns.length ≤ 63 ∧ ∀ H', Q (.bl true) H'
theorem dp_F {K : PySem.W.Frag} {H : Hp} {p : Addr} {x : Int × Int} (h : SqT K H p (tupV x)) : Dp K H (.ref p) (dF x) := .tup h (.cons (.int _) (.cons (.int _) .nil))
theorem all_true {α : Type} (l : List α) : (l.map fun _ => true).all id = true := by
  rw [List.all_map]
  exact List.all_eq_true.mpr fun _ _ => rfl
def NT (o : HO) : Prop := (∀ xs, o ≠ .tup xs) ∧ ∀ ob u, o ≠ .frz ob u
theorem nt_lst (l : List V) : NT (.lst l) := ⟨fun _ e => (nomatch e), fun _ _ e => (nomatch e)⟩
theorem nt_dk (l : List (Key × V)) : NT (.dK l) := ⟨fun _ e => (nomatch e), fun _ _ e => (nomatch e)⟩
theorem DrawAt.upd {S D L : Addr} {H : Hp} {o : HO} (d : DrawAt S D H) (n1 : L ≠ D) (n2 : L ≠ S) : DrawAt S D (upd H L o) := by
  obtain ⟨cs, h1⟩ := d.cells
  obtain ⟨i, r, c, h0, h2⟩ := d.at_
  exact ⟨d.ne, ⟨cs, by rw [upd_ne n2.symm]; exact h1⟩, ⟨i, r, c, h0, by rw [upd_ne n1.symm]; exact h2⟩⟩
/-- the draws, and one thing F that may change -/
structure StF (S D F : Addr) (H : Hp) : Prop where
  dr : DrawAt S D H
  nS : F ≠ S
  fl : ∃ o, H F = some o ∧ NT o
def GoL (S D F : Addr) (H H' : Hp) : Prop := StF S D F H' ∧ ∀ b o, H b = some o → b ≠ D → b ≠ F → H' b = some o
section
variable {S D F L p : Addr} {H H1 H2 H' : Hp} {o : HO} {K : PySem.W.Frag}
theorem StF.of_draw (d : DrawAt S D H) : StF S D D H := ⟨d, d.ne.symm, let ⟨_, _, _, _, h⟩ := d.at_; ⟨_, h, nt_lst _⟩⟩
theorem StF.free (st : StF S D F H) (h : H p = none) : p ≠ D ∧ p ≠ S ∧ p ≠ F := by
  obtain ⟨o, hF, _⟩ := st.fl
  exact ⟨(st.dr.free h).1, (st.dr.free h).2, (ne_of_none hF h).symm⟩
theorem GoL.refl (st : StF S D F H) : GoL S D F H H := ⟨st, fun _ _ h _ _ => h⟩
theorem GoL.trans (a : GoL S D F H H1) (b : GoL S D F H1 H2) : GoL S D F H H2 := ⟨b.1, fun x o h n m => b.2 x o (a.2 x o h n m) n m⟩
theorem GoL.of_go (st : StF S D F H) (g : Go S D H H') : GoL S D F H H' := by
  refine ⟨⟨g.1, st.nS, ?_⟩, fun b o h n _ => g.2 b o h n⟩
  obtain ⟨o, hF, nt⟩ := st.fl
  by_cases e : F = D
  · rw [e]
    obtain ⟨_, _, _, _, h⟩ := g.1.at_
    exact ⟨_, h, nt_lst _⟩
  · exact ⟨o, g.2 F _ hF e, nt⟩
theorem GoL.to_go (g : GoL S D D H H') : Go S D H H' := ⟨g.1.dr, fun b o h n => g.2 b o h n n⟩
theorem GoL.mut (st : StF S D F H) (g : GoL S D F H H') (h : H L = none) : GoL S D F H (upd H' L o) := by
  obtain ⟨n1, n2, n3⟩ := st.free h
  obtain ⟨u, hF, nt⟩ := g.1.fl
  exact ⟨⟨g.1.dr.upd n1 n2, st.nS, ⟨u, by rw [upd_ne n3.symm]; exact hF, nt⟩⟩, fun b v hb m1 m2 => by
    rw [upd_ne (ne_of_none hb h)]
    exact g.2 b v hb m1 m2⟩
theorem GoL.new (st : StF S D F H) (h : H p = none) : GoL S D F H (upd H p o) := GoL.mut st (GoL.refl st) h
theorem GoL.setF (nD : F ≠ D) (nt : NT o) (g : GoL S D F H H') : GoL S D F H (upd H' F o) :=
  ⟨⟨g.1.dr.upd nD g.1.nS, g.1.nS, ⟨o, upd_same, nt⟩⟩, fun b v hb m1 m2 => by
    rw [upd_ne m2]
    exact g.2 b v hb m1 m2⟩
theorem GoL.back (st : StF S D F H) (g : GoL S D F H H') (h : H' p = none) : H p = none := by
  cases q : H p with
  | none => rfl
  | some u =>
    obtain ⟨n1, n2, n3⟩ := g.1.free h
    rw [g.2 p u q n1 n3] at h
    cases h
theorem nt_not {xs : List V} (nt : NT o) (h : H p = some o) (r : Rd H L (.tup xs)) : L ≠ p := fun e => by
  subst e
  rcases r with r | ⟨ob, r⟩
  · rw [h] at r
    exact nt.1 _ (Option.some.inj r)
  · rw [h] at r
    exact nt.2 _ _ (Option.some.inj r)
theorem GoL.keepT (st : StF S D F H) (g : GoL S D F H H') : KeepT H H' := fun p xs r => by
  obtain ⟨_, _, _, _, hD⟩ := st.dr.at_
  obtain ⟨o, hF, nt⟩ := st.fl
  have n1 := nt_not (nt_lst _) hD r
  have n2 := nt_not nt hF r
  rcases r with r | ⟨o, r⟩
  · exact .inl (g.2 _ _ r n1 n2)
  · exact .inr ⟨o, g.2 _ _ r n1 n2⟩
theorem Go.keepT (d : DrawAt S D H) (g : Go S D H H') : KeepT H H' := GoL.keepT (StF.of_draw d) (GoL.of_go (StF.of_draw d) g)
theorem keepT_nt {o2 : HO} (nt : NT o2) (h : H L = some o2) : KeepT H (upd H L o) := fun p xs r => by
  have n := nt_not nt h r
  rcases r with r | ⟨o, r⟩
  · exact .inl (by rw [upd_ne n]; exact r)
  · exact .inr ⟨o, by rw [upd_ne n]; exact r⟩
theorem noLs_of {α : Type} {f : α → PyData} (h : ∀ a, noL (f a) = true) (l : List α) : noLs (l.map f) = true := noLs_map f l fun a _ => h a
end
/-- a list that is being filled -/
structure BL (K : PySem.W.Frag) (S D F L : Addr) (H0 H : Hp) {α : Type} (f : α → PyData) (as : List α) : Prop where
  g : GoL S D F H0 H
  l : ∃ zs, H L = some (.lst zs) ∧ DpAll K H zs (as.map f)
section
variable {S D F L : Addr} {H0 H H1 : Hp} {K : PySem.W.Frag} {α : Type} {f : α → PyData} {as : List α}
theorem BL.nil (st : StF S D F H0) (h : H0 L = none) : BL K S D F L H0 (upd H0 L (.lst [])) f [] := ⟨GoL.new st h, [], upd_same, .nil⟩
theorem BL.go (st : StF S D F H0) (hL : H0 L = none) (hn : ∀ a, noL (f a) = true) (b : BL K S D F L H0 H f as) (g : GoL S D F H H1) : BL K S D F L H0 H1 f as := by
  obtain ⟨zs, h1, h2⟩ := b.l
  obtain ⟨n1, n2, n3⟩ := st.free hL
  exact ⟨b.g.trans g, zs, g.2 _ _ h1 n1 n3, dpA_keep (GoL.keepT b.g.1 g) _ _ (noLs_of hn as) h2⟩
theorem BL.add (st : StF S D F H0) (hL : H0 L = none) (hn : ∀ a, noL (f a) = true) {a : α} {x : V} {zs : List V} (g : GoL S D F H0 H) (h1 : H L = some (.lst zs)) (h2 : DpAll K H zs (as.map f)) (hx : Dp K H x (f a)) :
    BL K S D F L H0 (upd H L (.lst (zs ++ [x]))) f (as ++ [a]) := by
  have k := keepT_nt (o := .lst (zs ++ [x])) (nt_lst _) h1
  refine ⟨GoL.mut st g hL, zs ++ [x], upd_same, ?_⟩
  rw [List.map_append]
  exact dpA_snoc (dpA_keep k _ _ (noLs_of hn as) h2) (dp_keep k _ _ (hn a) hx)
theorem BL.len (b : BL K S D F L H0 H f as) : ∃ zs, H L = some (.lst zs) ∧ DpAll K H zs (as.map f) ∧ zs.length = as.length := by
  obtain ⟨zs, h1, h2⟩ := b.l
  exact ⟨zs, h1, h2, by have := dpA_len h2; rw [List.length_map] at this; exact this⟩
theorem GoL.drop {H' : Hp} (g : GoL S D F H H') (h : H F = none) : Go S D H H' := ⟨g.1.dr, fun b o hb n => g.2 b o hb n (ne_of_none hb h)⟩
end
theorem snoc_str (l : List Str) (z : Str) : l.map V.str ++ [V.str z] = (l ++ [z]).map V.str := by
  rw [List.map_append]
  rfl
theorem int_noL (p : Int) : noL (.int p) = true := rfl
theorem str_noL (p : Str) : noL (.str p) = true := rfl
/-! ### promises of the small draws -/
def spPop : Sp := fun vs H Q _ => ∃ (S D p : Addr) (xs : List V), vs = [.ref D, .ref p] ∧ DrawAt S D H ∧ p ≠ D ∧ H p = some (.lst xs) ∧ 0 < xs.length ∧ xs.length ≤ 1000 ∧ ∀ (H1 : Hp) (j : Nat) (x : V), Go S D H H1 → xs[j]? = some x → Q x (upd H1 p (.lst (xs.eraseIdx j)))
def spRare : Sp := fun vs H Q _ => ∃ (S D : Addr) (m : Int), vs = [.ref D, .int m] ∧ 0 < m ∧ m < 1000 ∧ DrawAt S D H ∧ ∀ H' b, Go S D H H' → Q (.bl b) H'
def spShuf (K : PySem.W.Frag) : Sp := fun vs H Q _ => ∃ (S D p : Addr) (xs : List V), vs = [.ref D, .ref p] ∧ DrawAt S D H ∧ SqL K H p xs ∧ xs.length ≤ 1000 ∧
  ∀ (H' : Hp) (q : Addr) (ys : List V), Go S D H H' → H q = none → H' q = some (.lst ys) → ys.length = xs.length → (∀ y ∈ ys, y ∈ xs) → Q (.ref q) H'
abbrev PA : Str := "a b2 sum left r k0 carry z9z full tail n m8 aa busy cnt p t4 even2 ab1 head u v2 w lowest high mid "
abbrev PB : Str := "s t e f g h i j k x y q7 deep turn gate l5 next1 o c0 d two zz1 near far9 last ring2 "
abbrev PC : Str := "aaaaaaa8 b c1 top2 net3 row col7 v"
def POOL : List Str := Txt.split (PA ++ PB ++ PC) " "
theorem pool_len : POOL.length = 60 := by decide +kernel
def spPool : Sp := fun vs H Q _ => vs = [] ∧ ∀ p, H p = none → Q (.ref p) (upd H p (.lst (POOL.map V.str)))
section
variable {P : Program} {w : World} {K : PySem.W.Frag} {mg : Str → Option Value} {base : Heap}
theorem ok__law_draw (T : Txt K mg) {f : Addr} {fd : FuncData} (F : FnP K "_law_draw" s__law_draw f fd) : FnOk P w K mg base CX0 1 f fd ["d", "many"] spDraw := by
  refine F.ok sc__law_draw (fun vs H Q E h => ?_) (fun cdv A outer s H vs Q E hr h => ?_)
  · obtain ⟨S, D, m, rfl, _⟩ := h
    rfl
  · obtain ⟨S, D, m, rfl, hm, d, q⟩ := h
    obtain ⟨cs, hS⟩ := id d.cells
    obtain ⟨i, r, c, h0, hD⟩ := id d.at_
    have hm0 : 0 < m := hm.1
    refine ⟨_, PSs.nox (pss_cons (ps_if (pt_cmpR op_gt (pe_ix ix_list (pv 0) pe_int (fun _ _ => rfl)) pe_int (nomark _)) (pss_cons (ps_set (i := 2) sc__law_draw.nd rfl (Or.inl rfl) (pe_ix ix_list (pv 0) pe_int (fun _ _ => rfl)))
      (pss_cons (ps_asg (pe_op op_fdivW (pv 2) (pv 1)) (pg_sub (pv 0) pe_int set_list))
      (pss_one (ps_ret (pe_op op_mod (pe_callTy call_int1 (by rfl) T.b_int (by decide +kernel) (pa_cons (pv 2) pa_nil)) (pv 1)))))) pss_nil)
      (pss_cons (ps_set (i := 3) sc__law_draw.nd rfl (Or.inl rfl) pe_int)
      (Evl.pss_cut (ps_if (pt_cmpR op_lt (pe_ix ix_list (pv 0) pe_int (fun _ _ => rfl)) (pe_callB call_len (by rfl) T.b_len (by decide +kernel) (pa_cons (pe_ix ix_list (pv 0) pe_int (fun _ _ => rfl)) pa_nil)) (nomark _)) (pss_cons (ps_set (i := 4) sc__law_draw.nd rfl (Or.inl rfl) (pe_ix ix_list (pe_ix ix_list (pv 0) pe_int (fun _ _ => rfl)) (pe_ix ix_list (pv 0) pe_int (fun _ _ => rfl)) (fun _ _ => rfl)))
      (pss_one (ps_set (i := 3) sc__law_draw.nd rfl (Or.inl rfl) (pe_op op_add (pe_op op_mul pe_int (pe_callB call_abs (by rfl) T.b_abs (by decide +kernel) (pa_cons (pv 4) pa_nil))) (pe_callTy call_int1 (by rfl) T.b_int (by decide +kernel) (pa_cons (pe_cmpR op_lt (pv 4) pe_int (nomark _)) pa_nil)))))) pss_nil)
      (pss_cons (ps_augS (pv 0) pe_int get_list pe_int ip_add set_list)
      (pss_cons (ps_if (pt_cmpR op_ge (pv 3) (pe_op op_mul pe_int (pe_op op_pow pe_int pe_int)) (nomark _)) (pss_cons (ps_set (i := 2) sc__law_draw.nd rfl (Or.inl rfl) (pe_op op_mod (pe_callTy call_int1 (by rfl) T.b_int (by decide +kernel) (pa_cons (pe_op op_fdivW (pv 3) pe_int) pa_nil)) (pe_op op_shl pe_int pe_int)))
      (pss_cons (ps_asg (pe_op op_fdivW (pv 2) (pv 1)) (pg_sub (pv 0) pe_int set_list))
      (pss_one (ps_ret (pe_op op_mod (pe_callTy call_int1 (by rfl) T.b_int (by decide +kernel) (pa_cons (pv 2) pa_nil)) (pv 1)))))) pss_nil)
      (pss_cons (ps_asg (pe_op op_mod (pe_callTy call_int1 (by rfl) T.b_int (by decide +kernel) (pa_cons (pe_op op_add (pe_op op_add (pe_op op_add (pe_op op_mul (pe_ix ix_list (pv 0) pe_int (fun _ _ => rfl)) pe_int) (pe_op op_mul (pe_op op_mod (pe_callTy call_int1 (by rfl) T.b_int (by decide +kernel) (pa_cons (pv 3) pa_nil)) pe_int) pe_int)) (pe_op op_mul (pe_ix ix_list (pv 0) pe_int (fun _ _ => rfl)) pe_int)) pe_int) pa_nil)) pe_int) (pg_sub (pv 0) pe_int set_list))
      (pss_one (ps_ret (pe_op op_mod (pe_callTy call_int1 (by rfl) T.b_int (by decide +kernel) (pa_cons (pe_op op_fdivW (pe_ix ix_list (pv 0) pe_int (fun _ _ => rfl)) pe_int) pa_nil)) (pv 1)))))))))), ?_⟩
    refine ⟨_, rfl, D, _, _, _, rfl, rfl, SqL.of hD, atI_nat (j := 2) rfl, _, _, rfl, rfl, _, rfl, ?_⟩
    refine ite2 (fun e => ?_) (fun e => ?_)
    · refine ⟨_, rfl, D, _, _, _, rfl, rfl, SqL.of hD, atI_nat (j := 2) rfl, ?_⟩
      refine ⟨_, rfl, _, rfl, _, _, rfl, rfl, hm, _, rfl, D, _, _, 2, rfl, rfl, hD, rfl, ?_⟩
      refine ⟨_, rfl, .inl ⟨_, rfl, _, rfl, _, _, rfl, rfl, hm0, ?_⟩⟩
      refine q _ _ (Int.emod_nonneg _ (by omega)) (Int.emod_lt_of_pos _ hm0) ⟨d.set h0, Keep.refl.set⟩
    · refine ⟨fun σ' H' => ∃ (z : Int) (x : Option V), σ' = [some (.ref D), some (.int m), none, some (.int z), x] ∧ H' = H, ?_, ?_⟩
      · refine ⟨_, rfl, D, _, _, _, rfl, rfl, SqL.of hD, atI_nat (j := 1) rfl, ?_⟩
        refine ⟨_, rfl, D, _, _, _, rfl, rfl, SqL.of hD, atI_nat (j := 0) rfl, _, _, rfl, .inl ⟨_, SqL.of hS, rfl⟩, _, _, rfl, rfl, _, rfl, ?_⟩
        refine ite2 (fun e1 => ?_) (fun e1 => ?_)
        · have e2 : i < ((cs.map V.int).length : Int) := of_decide_eq_true e1
          have e3 : i.toNat < (cs.map V.int).length := by omega
          have e4 : i.toNat < cs.length := by rw [List.length_map] at e3; exact e3
          have e5 : (cs.map V.int)[i.toNat]? = some (.int cs[i.toNat]) := by
            rw [List.getElem?_map, List.getElem?_eq_getElem e4]
            rfl
          have e6 : atI (cs.map V.int) i = some (.int cs[i.toNat]) := by
            have := atI_nat (xs := cs.map V.int) e5
            rw [show ((i.toNat : Nat) : Int) = i by omega] at this
            exact this
          refine ⟨_, rfl, D, _, _, _, rfl, rfl, SqL.of hD, atI_nat (j := 0) rfl, ?_⟩
          refine ⟨_, rfl, D, _, _, _, rfl, rfl, SqL.of hD, atI_nat (j := 1) rfl, ?_⟩
          refine ⟨S, _, _, _, rfl, rfl, SqL.of hS, e6, ?_⟩
          refine ⟨_, rfl, _, rfl, _, _, rfl, rfl, .inl ⟨by decide, by decide⟩, ?_⟩
          refine ⟨_, rfl, _, _, rfl, rfl, .inr ⟨_, rfl, _, _, rfl, rfl, ?_⟩⟩
          exact ⟨_, _, rfl, rfl⟩
        · exact ⟨_, _, rfl, rfl⟩
      · rintro σ' H' ⟨z, x, rfl, rfl⟩
        refine ⟨_, rfl, D, _, _, _, rfl, rfl, SqL.of hD, atI_nat (j := 1) rfl, ?_⟩
        refine ⟨_, _, rfl, rfl, D, _, _, 1, rfl, rfl, hD, rfl, ?_⟩
        have hD1 : (upd H' D (.lst [.ref S, .int (i + 1), .int r, .int c])) D = some (.lst [.ref S, .int (i + 1), .int r, .int c]) := upd_same
        have d1 : DrawAt S D (upd H' D (.lst [.ref S, .int (i + 1), .int r, .int c])) := d.set (by omega)
        refine ⟨_, rfl, _, _, rfl, rfl, ⟨by decide, by decide, by decide⟩, _, _, rfl, rfl, .inl ⟨by decide, by decide⟩, _, _, rfl, rfl, _, rfl, ?_⟩
        refine ite2 (fun e1 => ?_) (fun e1 => ?_)
        · refine ⟨_, rfl, _, _, rfl, rfl, ⟨by decide, by decide⟩, .inl ⟨_, rfl, _, _, rfl, rfl, ⟨by decide, by decide, by decide⟩, ?_⟩⟩
          refine ⟨_, _, rfl, rfl, ?_, ?_⟩
          · show (0 : Int) < 1 * 2 ^ (6000 : Int).toNat
            exact Int.mul_pos (by decide) (Int.pow_pos (by decide))
          · refine ⟨_, rfl, _, rfl, _, _, rfl, rfl, hm, _, rfl, D, _, _, 2, rfl, rfl, hD1, rfl, ?_⟩
            refine ⟨_, rfl, .inl ⟨_, rfl, _, rfl, _, _, rfl, rfl, hm0, ?_⟩⟩
            exact q _ _ (Int.emod_nonneg _ (by omega)) (Int.emod_lt_of_pos _ hm0) ⟨d1.set (by omega), Keep.refl.set.set⟩
        · refine ⟨_, rfl, D, _, _, _, rfl, rfl, SqL.of hD1, atI_nat (j := 3) rfl, _, _, rfl, rfl, .inr ⟨by decide, by decide⟩, ?_⟩
          refine ⟨_, rfl, .inl ⟨_, rfl, _, _, rfl, rfl, (by show (0 : Int) < 2147483629; decide), _, _, rfl, rfl, .inr ⟨by decide, by decide⟩, _, _, rfl, rfl, ?_⟩⟩
          refine ⟨_, rfl, D, _, _, _, rfl, rfl, SqL.of hD1, atI_nat (j := 1) rfl, _, _, rfl, rfl, .inr ⟨by decide, by decide⟩, _, _, rfl, rfl, _, _, rfl, rfl, .inl ⟨_, rfl, ?_⟩⟩
          refine ⟨_, _, rfl, rfl, (by show (0 : Int) < 2147483647; decide), _, rfl, D, _, _, 3, rfl, rfl, hD1, rfl, ?_⟩
          refine ⟨_, rfl, D, _, _, _, rfl, rfl, SqL.of upd_same, atI_nat (j := 3) rfl, _, _, rfl, rfl, ⟨by decide, by decide⟩, ?_⟩
          refine .inl ⟨_, rfl, _, rfl, _, _, rfl, rfl, hm0, ?_⟩
          exact q _ _ (Int.emod_nonneg _ (by omega)) (Int.emod_lt_of_pos _ hm0) ⟨d1.set (by omega), Keep.refl.set.set⟩
theorem ok__law_begin (T : Txt K mg) {f : Addr} {fd : FuncData} (F : FnP K "_law_begin" s__law_begin f fd) : FnOk P w K mg base CX0 1 f fd ["script"] (spBegin K) := by
  refine F.ok sc__law_begin (fun vs H Q E h => ?_) (fun cdv A outer s H vs Q E hr h => ?_)
  · obtain ⟨a, ns, rfl, _⟩ := h
    rfl
  · obtain ⟨a, ns, rfl, hS, hlen, q⟩ := h
    refine ⟨_, PSs.nox (pss_one (ps_ret (pe_lst (pa_cons (pe_lc (own := [("cell", 1)]) (g := (gName 1)) (tt := tYes) rfl sc__law_begin.nd (pi_list (pv 0)) (blkOk_by (N := N__law_begin) (sc := defScope s__law_begin) (by decide +kernel)) (fun _ _ _ _ _ => (pg_name (i := 1) sc__law_begin.nd rfl (Or.inl rfl))) (fun _ _ _ _ _ => pts_nil) (fun _ _ _ _ _ => (pe_callTy call_int1 (by rfl) T.b_int (by decide +kernel) (pa_cons (pv 1) pa_nil)))) (pa_cons pe_int (pa_cons pe_int (pa_cons pe_int pa_nil))))))), ?_⟩
    refine ⟨_, rfl, a, rfl, ⟨_, hS⟩, fun L hL => lc_list (xs := ns.map V.int) (fun i H' => H' = upd H L (.lst ((ns.take i).map V.int))) rfl (fun i H' _ e => ?_) ?_ ?_⟩
    · subst e
      exact (show Same H _ from fun b o h => by rw [upd_ne (ne_of_none h hL)]; exact h).seq hS
    · rintro i x H1 hi rfl
      obtain ⟨z, rfl, hz⟩ := getV hi
      refine ⟨rfl, _, rfl, .inl ⟨_, rfl, _, upd_same, ?_, ?_⟩⟩
      · rw [List.length_map, List.length_take]
        exact Nat.lt_of_le_of_lt (Nat.min_le_right _ _) (small1000 (by omega))
      · rw [upd_upd, take_map_succ (f := V.int) hz]
    · rintro H' rfl
      refine ⟨by show 4 ≤ sizeLine; decide, fun D hD => ?_⟩
      have nLD : D ≠ L := fun e => by
        rw [e, upd_same] at hD
        cases hD
      have hD0 : H D = none := by
        rw [upd_ne nLD] at hD
        exact hD
      refine q L D _ (fun b o h => ?_) hD0 ⟨fun e => nLD e.symm, ⟨ns, ?_⟩, ⟨0, 0, 7, by decide, upd_same⟩⟩
      · rw [upd_ne (ne_of_none h hD0), upd_ne (ne_of_none h hL)]
        exact h
      · rw [upd_ne (fun e => nLD e.symm), upd_same]
        rw [List.take_of_length_le (by rw [List.length_map]; exact Nat.le_refl _)]
theorem ok__law_pick (T : Txt K mg) (D__law_draw : Kept P w K mg base 1 "_law_draw" ["d", "many"] spDraw) {f : Addr} {fd : FuncData} (F : FnP K "_law_pick" s__law_pick f fd) : FnOk P w K mg base CX0 2 f fd ["d", "row"] (spPick K) := by
  refine F.ok sc__law_pick (fun vs H Q E h => ?_) (fun cdv A outer s H vs Q E hr h => ?_)
  · obtain ⟨S, D, r, xs, rfl, _⟩ := h
    rfl
  · obtain ⟨S, D, r, xs, rfl, d, hR, h0, h1, q⟩ := h
    refine ⟨_, PSs.nox (pss_one (ps_ret (pe_ix ix_seq (pv 1) (pe_d D__law_draw (hr.mono (by decide)) (by rfl) (pa_cons (pv 0) (pa_cons (pe_callB call_len (by rfl) T.b_len (by decide +kernel) (pa_cons (pv 1) pa_nil)) pa_nil))) (fun _ _ => rfl)))), ?_⟩
    refine ⟨r, rfl, _, rfl, _, rfl, r, xs.length, rfl, ?_, ?_⟩
    · rcases hR H (Go.refl d) with ⟨z, rfl, rfl⟩ | ⟨p, rfl, hp⟩ | ⟨p, rfl, hp⟩
      · refine ⟨?_, by simp [Str.length]⟩
        rw [List.length_map] at h1
        have : z.length = z.cps.toList.length := by simp [Str.length]
        rw [this]
        exact Nat.le_trans h1 (by decide)
      · exact .inl ⟨_, hp, rfl⟩
      · exact .inr ⟨_, hp, rfl⟩
    · refine ⟨S, D, _, rfl, divW_of (by omega) (by omega), d, fun H' v hv0 hv1 g => ?_⟩
      have hv : v.toNat < xs.length := by omega
      have e : ((v.toNat : Nat) : Int) = v := by omega
      have ex : xs[v.toNat]? = some xs[v.toNat] := List.getElem?_eq_getElem hv
      have ea : atI xs v = some xs[v.toNat] := by
        have := atI_nat (xs := xs) ex
        rw [e] at this
        exact this
      rcases hR H' g with ⟨z, rfl, rfl⟩ | ⟨p, rfl, hp⟩ | ⟨p, rfl, hp⟩
      · refine .inr (.inr ⟨z, v, z.cps.toList[v.toNat]'(by rw [List.length_map] at hv; exact hv), rfl, rfl, ?_, ?_, ?_⟩)
        · rw [List.length_map] at h1
          have : z.length = z.cps.toList.length := by simp [Str.length]
          rw [this]
          exact Nat.le_trans h1 (by decide)
        · have := atI_nat (xs := z.cps.toList) (List.getElem?_eq_getElem (show v.toNat < z.cps.toList.length by rw [List.length_map] at hv; exact hv))
          rw [e] at this
          exact this
        · refine q H' _ ?_ g
          exact List.mem_map_of_mem (List.getElem_mem _)
      · exact .inl ⟨p, xs, v, _, rfl, rfl, hp, ea, q H' _ (List.getElem_mem _) g⟩
      · exact .inr (.inl ⟨p, xs, v, _, rfl, rfl, hp, ea, q H' _ (List.getElem_mem _) g⟩)
theorem ok__law_pop (T : Txt K mg) (D__law_draw : Kept P w K mg base 1 "_law_draw" ["d", "many"] spDraw) {f : Addr} {fd : FuncData} (F : FnP K "_law_pop" s__law_pop f fd) : FnOk P w K mg base CX0 2 f fd ["d", "row"] spPop := by
  refine F.ok sc__law_pop (fun vs H Q E h => ?_) (fun cdv A outer s H vs Q E hr h => ?_)
  · obtain ⟨S, D, p, xs, rfl, _⟩ := h
    rfl
  · obtain ⟨S, D, p, xs, rfl, d, nD, hp, h0, h1, q⟩ := h
    refine ⟨_, PSs.nox (pss_one (ps_ret (pe_bm PySem.F.plainAttrs_list PySem.F.slot_list_pop PySem.F.type_list_pop mt_popAt (pv 1) (pa_cons (pe_d D__law_draw (hr.mono (by decide)) (by rfl) (pa_cons (pv 0) (pa_cons (pe_callB call_len (by rfl) T.b_len (by decide +kernel) (pa_cons (pv 1) pa_nil)) pa_nil))) pa_nil)))), ?_⟩
    refine ⟨_, rfl, .inl ⟨rfl, _, SqL.of hp⟩, _, rfl, _, rfl, _, _, rfl, .inl ⟨_, SqL.of hp, rfl⟩, S, D, _, rfl, divW_of (by omega) (by omega), d, fun H1 v v0 v1 g => ?_⟩
    have hv : v.toNat < xs.length := by omega
    have ex : xs[v.toNat]? = some xs[v.toNat] := List.getElem?_eq_getElem hv
    refine ⟨p, xs, v, v.toNat, _, rfl, rfl, g.2 _ _ hp nD, by omega, by omega, ?_, ex, q H1 _ _ g ex⟩
    exact seqIndex_of v0 (by omega)
theorem ok__law_pool (T : Txt K mg) {f : Addr} {fd : FuncData} (F : FnP K "_law_pool" s__law_pool f fd) : FnOk P w K mg base CX0 1 f fd [] spPool := by
  refine F.ok sc__law_pool (fun vs H Q E h => ?_) (fun cdv A outer s H vs Q E hr h => ?_)
  · obtain ⟨rfl, _⟩ := h
    rfl
  · obtain ⟨rfl, q⟩ := h
    refine ⟨_, PSs.nox (pss_cons (ps_set (i := 0) sc__law_pool.nd rfl (Or.inl rfl) pe_str)
      (pss_cons (ps_set (i := 0) sc__law_pool.nd rfl (Or.inl rfl) (pe_op op_add_str (pv 0) pe_str))
      (pss_one (ps_ret (pe_split (pe_op op_add_str (pv 0) pe_str) pe_str))))), ?_⟩
    exact ⟨_, rfl, _, _, rfl, rfl, by decide +kernel, _, rfl, _, _, rfl, rfl, by decide +kernel, ⟨_, rfl⟩, _, _, rfl, rfl, by decide +kernel, by decide +kernel, fun p hp => q p hp⟩
theorem ok_make_fraction (T : Txt K mg) {f : Addr} {fd : FuncData} (F : FnP K "make_fraction" s_make_fraction f fd) : FnOk P w K mg base CX0 1 f fd ["n", "d"] spFrac := by
  refine F.ok sc_make_fraction (fun vs H Q E h => ?_) (fun cdv A outer s H vs Q E hr h => ?_)
  · obtain ⟨n, d, rfl, _⟩ := h
    rfl
  · obtain ⟨n, d, rfl, hd, hz, q⟩ := h
    refine ⟨_, PSs.nox (Evl.pss_cut (ps_if (pt_cmpR op_lt (pv 1) pe_int (nomark _)) (pss_one (ps_par (i := 0) (j := 1) (by rfl) sc_make_fraction.nd rfl rfl (by decide) rfl rfl (pa_cons (pe_un un_neg (pv 0)) (pa_cons (pe_un un_neg (pv 1)) pa_nil)) (by rfl))) pss_nil)
      (pss_cons (ps_set (i := 2) sc_make_fraction.nd rfl (Or.inl rfl) (pe_callBfun cr_gcd (by rfl) T.f_gcd (pa_cons (pv 0) (pa_cons (pv 1) pa_nil))))
      (pss_one (ps_ret (pe_tup (pa_cons (pe_op op_fdivW (pv 0) (pv 2)) (pa_cons (pe_op op_fdivW (pv 1) (pv 2)) pa_nil))))))), ?_⟩
    have g0 := gg_pos (n := n) hd
    have gl := gg_le (n := n) hd
    have cw : CDivW 0 (gg n d : Int) := wide_div (b := 4000) (by omega) (Nat.lt_of_le_of_lt (by rw [Int.natAbs_natCast]; exact gl) hz.2) (by decide) (by decide)
    refine ⟨fun σ H' => σ = [some (.int (if d < 0 then -n else n)), some (.int (if d < 0 then -d else d)), none] ∧ H' = H, ?_, ?_⟩
    · refine ⟨_, rfl, _, _, rfl, rfl, _, rfl, ?_⟩
      refine ite2 (fun e => ?_) (fun e => ?_)
      · have e1 : d < 0 := of_decide_eq_true e
        rw [if_pos e1, if_pos e1]
        exact ⟨_, rfl, _, rfl, _, rfl, _, rfl, _, _, rfl, rfl, rfl⟩
      · have e1 : ¬ d < 0 := fun z => e (decide_eq_true z)
        rw [if_neg e1, if_neg e1]
        exact ⟨rfl, rfl⟩
    · rintro σ H' ⟨rfl, rfl⟩
      refine ⟨_, rfl, _, rfl, _, _, rfl, ?_⟩
      rw [gg_if]
      refine ⟨_, rfl, _, rfl, _, _, rfl, rfl, cw, _, rfl, _, rfl, _, _, rfl, rfl, cw, by show 2 ≤ sizeLine; decide, fun p hp => ?_⟩
      exact q p hp
theorem ok__law_frac (T : Txt K mg) {f : Addr} {fd : FuncData} (F : FnP K "_law_frac" s__law_frac f fd) : FnOk P w K mg base CX0 1 f fd ["n", "d"] spFrac := by
  refine F.ok sc__law_frac (fun vs H Q E h => ?_) (fun cdv A outer s H vs Q E hr h => ?_)
  · obtain ⟨n, d, rfl, _⟩ := h
    rfl
  · obtain ⟨n, d, rfl, hd, hz, q⟩ := h
    refine ⟨_, PSs.nox (Evl.pss_cut (ps_if (pt_cmpR op_lt (pv 1) pe_int (nomark _)) (pss_cons (ps_set (i := 0) sc__law_frac.nd rfl (Or.inl rfl) (pe_un un_neg (pv 0)))
      (pss_one (ps_set (i := 1) sc__law_frac.nd rfl (Or.inl rfl) (pe_un un_neg (pv 1))))) pss_nil)
      (pss_cons (ps_set (i := 2) sc__law_frac.nd rfl (Or.inl rfl) (pe_callB call_abs (by rfl) T.b_abs (by decide +kernel) (pa_cons (pv 0) pa_nil)))
      (pss_cons (ps_set (i := 3) sc__law_frac.nd rfl (Or.inl rfl) (pv 1))
      (pss_cons (ps_while PassesOwn.never (pt_cmpR op_gt (pv 3) pe_int (nomark _)) (pss_cons (ps_set (i := 4) sc__law_frac.nd rfl (Or.inl rfl) (pe_op op_mod (pe_callTy call_int1 (by rfl) T.b_int (by decide +kernel) (pa_cons (pv 2) pa_nil)) (pv 3)))
      (pss_cons (ps_set (i := 2) sc__law_frac.nd rfl (Or.inl rfl) (pv 3))
      (pss_one (ps_set (i := 3) sc__law_frac.nd rfl (Or.inl rfl) (pv 4))))))
      (pss_one (ps_ret (pe_tup (pa_cons (pe_op op_fdivW (pv 0) (pv 2)) (pa_cons (pe_op op_fdivW (pv 1) (pv 2)) pa_nil))))))))), ?_⟩
    have g0 := gg_pos (n := n) hd
    have gl := gg_le (n := n) hd
    have cw : CDivW 0 (gg n d : Int) := wide_div (b := 4000) (by omega) (Nat.lt_of_le_of_lt (by rw [Int.natAbs_natCast]; exact gl) hz.2) (by decide) (by decide)
    refine ⟨fun σ H' => σ = [some (.int (if d < 0 then -n else n)), some (.int (if d < 0 then -d else d)), none, none, none] ∧ H' = H, ?_, ?_⟩
    · refine ⟨_, rfl, _, _, rfl, rfl, _, rfl, ?_⟩
      refine ite2 (fun e => ?_) (fun e => ?_)
      · have e1 : d < 0 := of_decide_eq_true e
        rw [if_pos e1, if_pos e1]
        exact ⟨_, rfl, _, rfl, _, rfl, _, rfl, rfl, rfl⟩
      · have e1 : ¬ d < 0 := fun z => e (decide_eq_true z)
        rw [if_neg e1, if_neg e1]
        exact ⟨rfl, rfl⟩
    · rintro σ H' ⟨rfl, rfl⟩
      refine ⟨_, rfl, _, rfl, _, rfl, ?_⟩
      have ea : (if (if d < 0 then -n else n) < 0 then -(if d < 0 then -n else n) else (if d < 0 then -n else n)) = ((n.natAbs : Nat) : Int) := by
        split <;> split <;> omega
      have eb : (if d < 0 then -d else d) = ((d.natAbs : Nat) : Int) := by
        split <;> omega
      refine ⟨fun m σ' H1 => ∃ (x y : Nat) (r : Option V), σ' = [some (.int (if d < 0 then -n else n)), some (.int (if d < 0 then -d else d)), some (.int (x : Nat)), some (.int (y : Nat)), r] ∧ y = m ∧ Nat.gcd x y = gg n d ∧ H1 = H', ⟨_, n.natAbs, d.natAbs, none, ?_, rfl, rfl, rfl⟩, ?_⟩
      · rw [← ea, ← eb]
        rfl
      · rintro m σ' H1 ⟨x, y, r, rfl, rfl, hg, rfl⟩
        refine ⟨_, rfl, _, _, rfl, rfl, _, rfl, ?_⟩
        refine ite2 (fun e => ?_) (fun e => ?_)
        · have e1 : (0 : Int) < (y : Int) := of_decide_eq_true e
          have e2 : 0 < y := by omega
          refine ⟨fun σ2 H2 => ∃ r : Option V, σ2 = [some (.int (if d < 0 then -n else n)), some (.int (if d < 0 then -d else d)), some (.int (y : Nat)), some (.int ((x % y : Nat) : Int)), r] ∧ H2 = H1, ?_, ?_⟩
          · rintro σ2 H2 ⟨r, rfl, rfl⟩
            refine ⟨x % y, Nat.mod_lt _ e2, y, x % y, r, rfl, rfl, ?_, rfl⟩
            rw [← hg, Nat.gcd_comm x y, Nat.gcd_rec y x, Nat.gcd_comm]
          · exact ⟨_, rfl, .inl ⟨_, rfl, _, rfl, _, _, rfl, rfl, e1, _, rfl, _, rfl, _, rfl, rfl⟩⟩
        · have e1 : ¬ (0 : Int) < (y : Int) := fun z => e (decide_eq_true z)
          have e2 : y = 0 := by omega
          subst e2
          have e3 : x = gg n d := by rw [← hg, Nat.gcd_zero_right]
          subst e3
          exact ⟨_, rfl, _, rfl, _, _, rfl, rfl, cw, _, rfl, _, rfl, _, _, rfl, rfl, cw, by show 2 ≤ sizeLine; decide, fun p hp => q p hp⟩
theorem ok_product_of (T : Txt K mg) (D_make_fraction : Kept P w K mg base 1 "make_fraction" ["n", "d"] spFrac) {f : Addr} {fd : FuncData} (F : FnP K "product_of" s_product_of f fd) : FnOk P w K mg base CX0 2 f fd ["a", "b"] (spBin K mul2) := by
  refine F.ok sc_product_of (fun vs H Q E h => ?_) (fun cdv A outer s H vs Q E hr h => ?_)
  · obtain ⟨p, p2, a, b, rfl, _⟩ := h
    rfl
  · obtain ⟨p, p2, a, b, rfl, hp, hp2, za, zb, hne, q⟩ := h
    refine ⟨_, PSs.nox (pss_one (ps_ret (pe_d D_make_fraction (hr.mono (by decide)) (by rfl) (pa_cons (pe_op op_mulW (pe_ix ix_tup (pv 0) pe_int (fun _ _ => rfl)) (pe_ix ix_tup (pv 1) pe_int (fun _ _ => rfl))) (pa_cons (pe_op op_mulW (pe_ix ix_tup (pv 0) pe_int (fun _ _ => rfl)) (pe_ix ix_tup (pv 1) pe_int (fun _ _ => rfl))) pa_nil))))), ?_⟩
    exact ⟨_, rfl, p, _, _, _, rfl, rfl, hp, atI_nat (j := 0) rfl, _, rfl, p2, _, _, _, rfl, rfl, hp2, atI_nat (j := 0) rfl, _, _, rfl, rfl, wide_mul za.1 zb.1 (by decide) (by decide) (by decide), _, rfl, p, _, _, _, rfl, rfl, hp, atI_nat (j := 1) rfl, _, rfl, p2, _, _, _, rfl, rfl, hp2, atI_nat (j := 1) rfl, _, _, rfl, rfl, wide_mul za.2 zb.2 (by decide) (by decide) (by decide), _, _, rfl, hne, sz_up (mul2_sz za zb) (by decide), q⟩
theorem ok_quotient_of (T : Txt K mg) (D_make_fraction : Kept P w K mg base 1 "make_fraction" ["n", "d"] spFrac) {f : Addr} {fd : FuncData} (F : FnP K "quotient_of" s_quotient_of f fd) : FnOk P w K mg base CX0 2 f fd ["a", "b"] (spBin K div2) := by
  refine F.ok sc_quotient_of (fun vs H Q E h => ?_) (fun cdv A outer s H vs Q E hr h => ?_)
  · obtain ⟨p, p2, a, b, rfl, _⟩ := h
    rfl
  · obtain ⟨p, p2, a, b, rfl, hp, hp2, za, zb, hne, q⟩ := h
    refine ⟨_, PSs.nox (pss_one (ps_ret (pe_d D_make_fraction (hr.mono (by decide)) (by rfl) (pa_cons (pe_op op_mulW (pe_ix ix_tup (pv 0) pe_int (fun _ _ => rfl)) (pe_ix ix_tup (pv 1) pe_int (fun _ _ => rfl))) (pa_cons (pe_op op_mulW (pe_ix ix_tup (pv 0) pe_int (fun _ _ => rfl)) (pe_ix ix_tup (pv 1) pe_int (fun _ _ => rfl))) pa_nil))))), ?_⟩
    exact ⟨_, rfl, p, _, _, _, rfl, rfl, hp, atI_nat (j := 0) rfl, _, rfl, p2, _, _, _, rfl, rfl, hp2, atI_nat (j := 1) rfl, _, _, rfl, rfl, wide_mul za.1 zb.2 (by decide) (by decide) (by decide), _, rfl, p, _, _, _, rfl, rfl, hp, atI_nat (j := 1) rfl, _, rfl, p2, _, _, _, rfl, rfl, hp2, atI_nat (j := 0) rfl, _, _, rfl, rfl, wide_mul za.2 zb.1 (by decide) (by decide) (by decide), _, _, rfl, hne, sz_up (div2_sz za zb) (by decide), q⟩
theorem ok__law_times (T : Txt K mg) (D__law_frac : Kept P w K mg base 1 "_law_frac" ["n", "d"] spFrac) {f : Addr} {fd : FuncData} (F : FnP K "_law_times" s__law_times f fd) : FnOk P w K mg base CX0 2 f fd ["a", "b"] (spBin K mul2) := by
  refine F.ok sc__law_times (fun vs H Q E h => ?_) (fun cdv A outer s H vs Q E hr h => ?_)
  · obtain ⟨p, p2, a, b, rfl, _⟩ := h
    rfl
  · obtain ⟨p, p2, a, b, rfl, hp, hp2, za, zb, hne, q⟩ := h
    refine ⟨_, PSs.nox (pss_one (ps_ret (pe_d D__law_frac (hr.mono (by decide)) (by rfl) (pa_cons (pe_op op_mulW (pe_ix ix_tup (pv 0) pe_int (fun _ _ => rfl)) (pe_ix ix_tup (pv 1) pe_int (fun _ _ => rfl))) (pa_cons (pe_op op_mulW (pe_ix ix_tup (pv 0) pe_int (fun _ _ => rfl)) (pe_ix ix_tup (pv 1) pe_int (fun _ _ => rfl))) pa_nil))))), ?_⟩
    exact ⟨_, rfl, p, _, _, _, rfl, rfl, hp, atI_nat (j := 0) rfl, _, rfl, p2, _, _, _, rfl, rfl, hp2, atI_nat (j := 0) rfl, _, _, rfl, rfl, wide_mul za.1 zb.1 (by decide) (by decide) (by decide), _, rfl, p, _, _, _, rfl, rfl, hp, atI_nat (j := 1) rfl, _, rfl, p2, _, _, _, rfl, rfl, hp2, atI_nat (j := 1) rfl, _, _, rfl, rfl, wide_mul za.2 zb.2 (by decide) (by decide) (by decide), _, _, rfl, hne, sz_up (mul2_sz za zb) (by decide), q⟩
theorem ok__law_is_int (T : Txt K mg) {f : Addr} {fd : FuncData} (F : FnP K "_law_is_int" s__law_is_int f fd) : FnOk P w K mg base CX0 1 f fd ["thing"] spIsInt := by
  refine F.ok sc__law_is_int (fun vs H Q E h => ?_) (fun cdv A outer s H vs Q E hr h => ?_)
  · obtain ⟨p, rfl, _⟩ := h
    rfl
  · obtain ⟨i, rfl, q⟩ := h
    refine ⟨_, PSs.nox (pss_one (ps_ret (pe_and (pe_callB call_isi (by rfl) T.b_isinstance (by decide +kernel) (pa_cons (pv 0) (pa_cons (pe_bltn (v := .ty "int") (u := .type "int") (by rfl) T.b_int (by decide +kernel) rfl) pa_nil))) (pe_one (pe_not (pe_callB call_isi (by rfl) T.b_isinstance (by decide +kernel) (pa_cons (pv 0) (pa_cons (pe_bltn (v := .ty "bool") (u := .type "bool") (by rfl) T.b_bool (by decide +kernel) rfl) pa_nil)))))))), ?_⟩
    refine ⟨_, rfl, _, .ty "int", .type "int", .type "int", true, rfl, .ty _, .base (.int _), kit_ty (by decide +kernel), true, rfl, ?_⟩
    exact ⟨_, rfl, _, .ty "bool", .type "int", .type "bool", false, rfl, .ty _, .base (.int _), kit_ty (by decide +kernel), false, rfl, q⟩
end
end Mt

namespace Mt
open PySem PySem.Spec PyProof.Rows L2
/-! ### fractions over one denominator -/
structure Fr (f : F2) (N : Int) (M : Nat) : Prop where
  low : Low f
  eq : f.1 * (M : Int) = N * f.2
  pos : 0 < M
theorem Fr.of {x : Int × Int} {N : Int} {M : Nat} (h : x.2 ≠ 0) (e : x.1 * (M : Int) = N * x.2) (hM : 0 < M) : Fr (frp x) N M := by
  have h1 := frv (n := x.1) h
  have l := low_frp h
  refine ⟨l, ?_, hM⟩
  have h2 : ((frp x).1 * (M : Int)) * x.2 = (N * (frp x).2) * x.2 := by
    have h3 : (frp x).1 * x.2 = x.1 * (frp x).2 := h1
    grind
  exact Int.eq_of_mul_eq_mul_right h h2
theorem Fr.add {a b : F2} {N1 N2 : Int} {M : Nat} (ha : Fr a N1 M) (hb : Fr b N2 M) : Fr (frp (add2 a b)) (N1 + N2) M := by
  refine Fr.of (add2_ne ha.low hb.low) ?_ ha.pos
  have h1 := ha.eq
  have h2 := hb.eq
  show (a.1 * b.2 + b.1 * a.2) * (M : Int) = (N1 + N2) * (a.2 * b.2)
  grind
theorem mul2_ne {a b : F2} (ha : Low a) (hb : Low b) : (mul2 a b).2 ≠ 0 := add2_ne ha hb
theorem Fr.mul {a b : F2} {N1 N2 : Int} {M1 M2 : Nat} (ha : Fr a N1 M1) (hb : Fr b N2 M2) : Fr (frp (mul2 a b)) (N1 * N2) (M1 * M2) := by
  refine Fr.of (mul2_ne ha.low hb.low) ?_ (Nat.mul_pos ha.pos hb.pos)
  have h1 := ha.eq
  have h2 := hb.eq
  show (a.1 * b.1) * ((M1 * M2 : Nat) : Int) = (N1 * N2) * (a.2 * b.2)
  rw [Int.natCast_mul]
  grind
theorem Fr.zero {M : Nat} (h : 0 < M) : Fr (0, 1) 0 M := ⟨low0, by simp, h⟩
theorem low1 : Low (1, 1) := ⟨by decide, by decide⟩
theorem Fr.one : Fr (1, 1) 1 1 := ⟨low1, rfl, Nat.one_pos⟩
theorem Fr.uniq {a b : F2} {N : Int} {M : Nat} (ha : Fr a N M) (hb : Fr b N M) : a = b := by
  refine low_uniq ha.low hb.low ?_
  have h1 := ha.eq
  have h2 := hb.eq
  have hM : (M : Int) ≠ 0 := by
    have := ha.pos
    omega
  refine Int.eq_of_mul_eq_mul_right hM ?_
  grind
theorem Fr.sz {a : F2} {N : Int} {M k : Nat} (h : Fr a N M) (hN : N.natAbs < 2 ^ k) (hM : M < 2 ^ k) : Sz k a := by
  have e : a.1.natAbs * M = N.natAbs * a.2.natAbs := by
    have := congrArg Int.natAbs h.eq
    rw [Int.natAbs_mul, Int.natAbs_mul, Int.natAbs_natCast] at this
    exact this
  have p := h.low.pos
  have h0 := h.pos
  have h1 : a.2.natAbs ∣ M := Nat.Coprime.dvd_of_dvd_mul_left (Nat.Coprime.symm h.low.co) ⟨N.natAbs, by rw [e, Nat.mul_comm]⟩
  have h2 := Nat.le_of_dvd h0 h1
  refine ⟨?_, by omega⟩
  have h3 : a.1.natAbs * M ≤ N.natAbs * M := by
    rw [e]
    exact Nat.mul_le_mul_left _ h2
  have h4 := Nat.le_of_mul_le_mul_right h3 h0
  omega
/-! ### webs -/
/-- what is shown, where to, the share, the share times LC -/
abbrev Arc : Type := List Str × Nat × F2 × Int
abbrev LC : Nat := 27720
def dSh (ss : List Str) : PyData := .tuple (ss.map .str)
def dArc (a : Arc) : PyData := .tuple [dSh a.1, .int a.2.1, dF a.2.2.1]
def dRow (r : List Arc) : PyData := .tuple (r.map dArc)
abbrev Wb : Type := List (List Arc)
def dWeb (W : Wb) : PyData := .tuple [.str "web", .tuple (W.map dRow)]
def ShOk (ss : List Str) : Prop := ∀ s ∈ ss, PyData.strOk s = true
structure ArcOk (n : Nat) (a : Arc) : Prop where
  sh : ShOk a.1
  sl : a.1.length ≤ 2
  to : a.2.1 < n
  fr : Fr a.2.2.1 a.2.2.2 LC
  lo : 0 ≤ a.2.2.2
  hi : a.2.2.2 ≤ LC
structure WebOk (W : Wb) : Prop where
  pos : 0 < W.length
  few : W.length ≤ 60
  row : ∀ r ∈ W, 0 < r.length ∧ r.length ≤ 3 ∧ ∀ a ∈ r, ArcOk W.length a
theorem dSh_noL (ss : List Str) : noL (dSh ss) = true := noLs_map _ _ fun _ _ => rfl
theorem dArc_noL (a : Arc) : noL (dArc a) = true := by
  show (noL (dSh a.1) && (true && (true && true))) = true
  rw [dSh_noL]
  rfl
theorem dRow_noL (r : List Arc) : noL (dRow r) = true := noLs_map _ _ fun a _ => dArc_noL a
theorem dWeb_noL (W : Wb) : noL (dWeb W) = true := by
  show (true && (noLs (W.map dRow) && true)) = true
  rw [noLs_map _ _ fun r _ => dRow_noL r]
  rfl
section
variable {K : PySem.W.Frag} {H H' : Hp} {v : V}
theorem dp_strs : ∀ {ss : List Str} {xs : List V}, DpAll K H xs (ss.map .str) → xs = ss.map V.str
  | [], _, h => dpA_nil h
  | s :: r, _, h => by
    obtain ⟨x, t, rfl, h1, h2⟩ := dpA_cons h
    rw [dp_str h1, dp_strs h2]
    rfl
theorem strs_dp : ∀ ss : List Str, DpAll K H (ss.map V.str) (ss.map .str)
  | [] => .nil
  | s :: r => .cons (.str s) (strs_dp r)
theorem sh_of {p : Addr} {ss : List Str} (h : SqT K H p (ss.map V.str)) : Dp K H (.ref p) (dSh ss) := .tup h (strs_dp ss)
theorem sh_at {ss : List Str} (h : Dp K H v (dSh ss)) : ∃ p, v = .ref p ∧ SqT K H p (ss.map V.str) := by
  obtain ⟨p, xs, rfl, h1, h2⟩ := dp_tup h
  rw [dp_strs h2] at h1
  exact ⟨p, rfl, h1⟩
theorem f_at {x : F2} (h : Dp K H v (dF x)) : ∃ p, v = .ref p ∧ SqT K H p (tupV x) := by
  obtain ⟨p, xs, rfl, h1, hA⟩ := dp_tup h
  obtain ⟨x0, r0, rfl, h0, hA⟩ := dpA_cons hA
  obtain ⟨x1, r1, rfl, h2, hA⟩ := dpA_cons hA
  cases dpA_nil hA
  rw [dp_int h0, dp_int h2] at h1
  exact ⟨p, rfl, h1⟩
theorem arc_at {a : Arc} (h : Dp K H v (dArc a)) : ∃ p x0 x2, v = .ref p ∧ SqT K H p [x0, .int a.2.1, x2] ∧ Dp K H x0 (dSh a.1) ∧ Dp K H x2 (dF a.2.2.1) := by
  obtain ⟨p, xs, rfl, h1, hA⟩ := dp_tup h
  obtain ⟨x0, r0, rfl, h0, hA⟩ := dpA_cons hA
  obtain ⟨x1, r1, rfl, h2, hA⟩ := dpA_cons hA
  obtain ⟨x2, r2, rfl, h3, hA⟩ := dpA_cons hA
  cases dpA_nil hA
  rw [dp_int h2] at h1
  exact ⟨p, x0, x2, rfl, h1, h0, h3⟩
theorem web_at {W : Wb} (h : Dp K H v (dWeb W)) : ∃ p q xs, v = .ref p ∧ SqT K H p [.str "web", .ref q] ∧ SqT K H q xs ∧ DpAll K H xs (W.map dRow) := by
  obtain ⟨p, xs, rfl, h1, hA⟩ := dp_tup h
  obtain ⟨x0, r0, rfl, h0, hA⟩ := dpA_cons hA
  obtain ⟨x1, r1, rfl, h2, hA⟩ := dpA_cons hA
  cases dpA_nil hA
  rw [dp_str h0] at h1
  obtain ⟨q, ys, rfl, h3, h4⟩ := dp_tup h2
  exact ⟨p, q, ys, rfl, h1, h3, h4⟩
/-- the item at a place of a row of data -/
theorem dpA_get {α : Type} {f : α → PyData} {l : List α} {xs : List V} {i : Nat} {a : α} (h : DpAll K H xs (l.map f)) (e : l[i]? = some a) : ∃ x, xs[i]? = some x ∧ Dp K H x (f a) := by
  have hl := dpA_len h
  rw [List.length_map] at hl
  have hi : i < l.length := (List.getElem?_eq_some_iff.mp e).1
  obtain ⟨x, hx⟩ : ∃ x, xs[i]? = some x := ⟨xs[i]'(by omega), List.getElem?_eq_getElem _⟩
  obtain ⟨d, h1, h2⟩ := dpA_at h hx
  rw [List.getElem?_map, e] at h1
  obtain rfl : f a = d := Option.some.inj h1
  exact ⟨x, hx, h2⟩
theorem dpA_mem {α : Type} {f : α → PyData} {l : List α} {xs : List V} {i : Nat} {x : V} (h : DpAll K H xs (l.map f)) (e : xs[i]? = some x) : ∃ a, l[i]? = some a ∧ Dp K H x (f a) := by
  obtain ⟨d, h1, h2⟩ := dpA_at h e
  obtain ⟨a, h3, rfl⟩ := map_at h1
  exact ⟨a, h3, h2⟩
end
/-! ### equality of what is shown -/
theorem dSh_lay : ∀ ss : List Str, ShOk ss → PyData.canLayAll0 (ss.map PyData.str) = true
  | [], _ => rfl
  | s :: r, h => by
    show (PyData.canLay0 (.str s) && PyData.canLayAll0 (r.map PyData.str)) = true
    rw [dSh_lay r fun x hx => h x (List.mem_cons_of_mem _ hx), Bool.and_true]
    show PyData.strOk s = true
    exact h s List.mem_cons_self
theorem dSh_dep : ∀ ss : List Str, PyData.depthAll (ss.map PyData.str) = 0
  | [] => rfl
  | s :: r => by
    show max (PyData.depth (.str s)) (PyData.depthAll (r.map PyData.str)) = 0
    rw [dSh_dep r]
    rfl
theorem dSh_sh {ss : List Str} (h : ShOk ss) : SeqAt.shaped (dSh ss) = true := by
  unfold SeqAt.shaped
  rw [Bool.and_eq_true]
  refine ⟨dSh_lay ss h, decide_eq_true ?_⟩
  show PyData.depthAll (ss.map PyData.str) + 1 ≤ 64
  rw [dSh_dep]
  decide
theorem eqv_strs : ∀ a b : List Str, PyData.eqvAll (a.map PyData.str) (b.map PyData.str) = decide (a = b)
  | [], [] => rfl
  | [], _ :: _ => rfl
  | _ :: _, [] => rfl
  | x :: a, y :: b => by
    show (PyData.eqv (.str x) (.str y) && PyData.eqvAll (a.map PyData.str) (b.map PyData.str)) = decide (x :: a = y :: b)
    rw [eqv_strs a b]
    show (decide (x = y) && decide (a = b)) = _
    by_cases h1 : x = y <;> by_cases h2 : a = b <;> simp [h1, h2]
theorem eqv_sh (a b : List Str) : PyData.eqv (dSh a) (dSh b) = decide (a = b) := eqv_strs a b
end Mt
namespace Mt
open PySem PySem.Spec PyProof.Rows L2
theorem ixL {X : Cx} {K : PySem.W.Frag} (h : X.K = K) : IxR X (rIxL K) := h ▸ ix_list
theorem tupOfT {X : Cx} {K : PySem.W.Frag} (h : X.K = K) : CallR X (.type "tuple") (fun xs H Q => ∃ p ys, xs = [.ref p] ∧ ((SqL K H p ys ∧ ∀ l, H l = none → Q (.ref l) (upd H l (.tup ys))) ∨ (SqT K H p ys ∧ Q (.ref p) H))) := h ▸ call_tuple_of
theorem goU {S D L : Addr} {H0 H : Hp} {o : HO} (L0 : H0 L = none) (d0 : DrawAt S D H0) (g : Go S D H0 H) : Go S D H0 (upd H L o) := by
  obtain ⟨LD, LS⟩ := d0.free L0
  obtain ⟨cs, hc⟩ := g.1.cells
  obtain ⟨j, r, c, j0, hD⟩ := g.1.at_
  refine ⟨⟨g.1.ne, ⟨cs, ?_⟩, ⟨j, r, c, j0, ?_⟩⟩, fun b o h n => ?_⟩
  · rw [upd_ne LS.symm]
    exact hc
  · rw [upd_ne LD.symm]
    exact hD
  · rw [upd_ne (ne_of_none h L0)]
    exact g.2 b o h n
/-- fractions as they stand, over one denominator -/
def Frs (H : Hp) (xs : List V) (ns : List Int) (M : Nat) : Prop := Paired (fun (x : V) (n : Int) => ∃ p f, x = V.ref p ∧ H p = some (tupF f) ∧ Fr f n M) xs ns
theorem paired_imp {α β : Type} {R R' : α → β → Prop} (h : ∀ a b, R a b → R' a b) {xs : List α} {ys : List β} (p : Paired R xs ys) : Paired R' xs ys := by
  induction p with
  | nil => exact .nil
  | cons e t ih => exact .cons (h _ _ e) ih
theorem Frs.same {H H' : Hp} {xs : List V} {ns : List Int} {M : Nat} (h : Frs H xs ns M) (s : Same H H') : Frs H' xs ns M :=
  paired_imp (fun _ _ ⟨p, f, e, h1, h2⟩ => ⟨p, f, e, s _ _ h1, h2⟩) h
theorem sum_nn : ∀ {ns : List Int}, (∀ n ∈ ns, 0 ≤ n) → 0 ≤ ns.sum
  | [], _ => Int.le_refl _
  | n :: r, h => by
    rw [List.sum_cons]
    have := sum_nn (ns := r) fun x hx => h x (List.mem_cons_of_mem _ hx)
    have := h n List.mem_cons_self
    omega
theorem sum_take {ns : List Int} (h : ∀ n ∈ ns, 0 ≤ n) (i : Nat) : 0 ≤ (ns.take i).sum ∧ (ns.take i).sum ≤ ns.sum := by
  have e : ns.sum = (ns.take i).sum + (ns.drop i).sum := by
    rw [← List.sum_append, List.take_append_drop]
  have h1 := sum_nn (ns := ns.take i) fun x hx => h x (List.mem_of_mem_take hx)
  have h2 := sum_nn (ns := ns.drop i) fun x hx => h x (List.mem_of_mem_drop hx)
  omega
theorem sum_snoc (l : List Int) (n : Int) : (l ++ [n]).sum = l.sum + n := by
  rw [List.sum_append]
  simp
def spTot (K : PySem.W.Frag) : Sp := fun vs H Q _ => ∃ (p : Addr) (xs : List V) (ns : List Int) (M : Nat), vs = [.ref p] ∧ SqL K H p xs ∧ Frs H xs ns M ∧ (∀ n ∈ ns, 0 ≤ n) ∧ ns.sum.natAbs < 2 ^ 1800 ∧ M < 2 ^ 1800 ∧ 0 < M ∧
  ∀ H' q f, Same H H' → H' q = some (tupF f) → Fr f ns.sum M → Q (.ref q) H'
def spShown (K : PySem.W.Frag) : Sp := fun vs H Q _ => ∃ (S D m : Addr) (ms : List Str), vs = [.ref D, .ref m] ∧ DrawAt S D H ∧ m ≠ D ∧ H m = some (.lst (ms.map V.str)) ∧ 0 < ms.length ∧ ms.length ≤ 100 ∧
  ∀ (H' : Hp) (p : Addr) (ss : List Str), Go S D H H' → H p = none → H' p = some (.tup (ss.map V.str)) → (∀ s ∈ ss, s ∈ ms) → ss.length ≤ 2 → Q (.ref p) H'
section
variable {P : Program} {w : World} {K : PySem.W.Frag} {mg : Str → Option Value} {base : Heap}
theorem ok__law_drawn_shown (T : Txt K mg) (D__law_pick : Kept P w K mg base 2 "_law_pick" ["d", "row"] (spPick K)) {f : Addr} {fd : FuncData} (F : FnP K "_law_drawn_shown" s__law_drawn_shown f fd) : FnOk P w K mg base CX0 3 f fd ["d", "marks"] (spShown K) := by
  refine F.ok sc__law_drawn_shown (fun vs H Q E h => ?_) (fun cdv A outer s H vs Q E hr h => ?_)
  · obtain ⟨S, D, m, ms, rfl, _⟩ := h
    rfl
  · obtain ⟨S, D, m, ms, rfl, d, nD, hm, h0, h1, q⟩ := h
    refine ⟨_, PSs.nox (pss_one (ps_ret (pe_callTy (tupOfT (K := K) rfl) (by rfl) T.b_tuple (by decide +kernel) (pa_cons (pe_lc (own := [("k", 2)]) (g := (gName 2)) (tt := tYes) rfl sc__law_drawn_shown.nd (pi_range1 (by rfl) T.b_range (pa_cons (pe_d D__law_pick (hr.mono (by decide)) (by rfl) (pa_cons (pv 0) (pa_cons (pe_lst (pa_cons pe_int (pa_cons pe_int (pa_cons pe_int (pa_cons pe_int (pa_cons pe_int pa_nil)))))) pa_nil))) pa_nil)) (blkOk_by (N := N__law_drawn_shown) (sc := defScope s__law_drawn_shown) (by decide +kernel)) (fun _ _ _ _ _ => (pg_name (i := 2) sc__law_drawn_shown.nd rfl (Or.inl rfl))) (fun _ _ _ _ _ => pts_nil) (fun _ _ _ _ _ => (pe_d D__law_pick (hr.mono (by decide)) (by rfl) (pa_cons (pv 0) (pa_cons (pv 1) pa_nil))))) pa_nil)))), ?_⟩
    refine ⟨_, rfl, by show 5 ≤ sizeLine; decide, fun L hL => ?_⟩
    have d1 := d.new (o := .lst [V.int 0, .int 1, .int 1, .int 1, .int 2]) hL
    have LD := (d.free hL).1
    have g1 : Go S D H (upd H L (.lst [V.int 0, .int 1, .int 1, .int 1, .int 2])) := Go.new d hL
    refine ⟨S, D, .ref L, [V.int 0, .int 1, .int 1, .int 1, .int 2], rfl, d1, fun H' g => .inr (.inl ⟨L, rfl, SqL.of (g.2 _ _ upd_same LD)⟩), by decide, by decide, fun H2 x hx g2 => ?_⟩
    obtain ⟨n, rfl, hn⟩ : ∃ n : Nat, x = .int (n : Int) ∧ n ≤ 2 := by
      simp only [List.mem_cons, List.not_mem_nil, or_false] at hx
      rcases hx with e | e | e | e | e
      · exact ⟨0, e, by decide⟩
      · exact ⟨1, e, by decide⟩
      · exact ⟨1, e, by decide⟩
      · exact ⟨1, e, by decide⟩
      · exact ⟨2, e, by decide⟩
    have g3 := g1.trans g2
    refine ⟨_, rfl, by omega, by omega, fun Lc hLc => lc_range (lo := 0) (n := n) (fun j H' => ∃ ss : List Str, Go S D H2 H' ∧ H' Lc = some (.lst (ss.map V.str)) ∧ ss.length = j ∧ ∀ s ∈ ss, s ∈ ms) ⟨[], Go.new g3.1 hLc, upd_same, rfl, fun _ h => absurd h List.not_mem_nil⟩ ?_ ?_⟩
    · rintro j H4 hj ⟨ss, g4, hL4, hl, hs⟩
      have LcD := (g3.1.free hLc).1
      refine ⟨rfl, _, rfl, _, rfl, S, D, .ref m, ms.map V.str, rfl, g4.1, fun H' g' => .inr (.inl ⟨m, rfl, SqL.of (((g3.trans g4).trans g').2 _ _ hm nD)⟩), by rw [List.length_map]; exact h0, by rw [List.length_map]; omega, fun H5 x hx g5 => ?_⟩
      obtain ⟨z, hz, rfl⟩ := List.mem_map.mp hx
      refine ⟨_, g5.2 _ _ hL4 LcD, by rw [List.length_map]; exact line6 (by omega), ss ++ [z], goU hLc g3.1 (g4.trans g5), by rw [upd_same, List.map_append]; rfl, by rw [List.length_append, List.length_singleton, hl], fun s h => ?_⟩
      rcases List.mem_append.mp h with h | h
      · exact hs s h
      · rw [List.mem_singleton.mp h]
        exact hz
    · rintro H4 ⟨ss, g4, hL4, hl, hs⟩
      refine ⟨Lc, _, rfl, .inl ⟨SqL.of hL4, fun p hp => ?_⟩⟩
      have g5 := g3.trans g4
      exact q _ p ss (g5.trans (Go.new g5.1 hp)) (g5.free d hp) upd_same hs (by omega)
end
end Mt
namespace Mt
open PySem PySem.Spec PyProof.Rows L2
def spDWeb (K : PySem.W.Frag) : Sp := fun vs H Q _ => ∃ (S D m : Addr) (n : Int) (ms : List Str), vs = [.ref D, .int n, .ref m] ∧ DrawAt S D H ∧ m ≠ D ∧ H m = some (.lst (ms.map V.str)) ∧ 0 < ms.length ∧ ms.length ≤ 100 ∧ ShOk ms ∧ 1 ≤ n ∧ n ≤ 60 ∧
  ∀ (H' : Hp) (v : V) (W : Wb), Go S D H H' → Dp K H' v (dWeb W) → WebOk W → W.length = n.toNat → Q v H'
/-- the entries that are drawn -/
structure EntOk (n : Int) (ms : List Str) (e : ND.En) : Prop where
  val : ∃ c : Int, e.2.2 = .int c ∧ 1 ≤ c ∧ c ≤ 4
  lo : 0 ≤ e.1.2
  hi : e.1.2 < n
  sh : ∀ s ∈ e.1.1, s ∈ ms
  sl : e.1.1.length ≤ 2
structure Ents (K : PySem.W.Frag) (H : Hp) (n : Int) (ms : List Str) (xs : List ND.En) : Prop where
  keys : ND.KeysOk K H xs
  nd : (xs.map (·.1)).Nodup
  ok : ∀ e ∈ xs, EntOk n ms e
theorem nkt_keep {K : PySem.W.Frag} {H H' : Hp} {k : ND.KN} {a : Addr} (kk : KeepT H H') (h : ND.NkT K H k a) : ND.NkT K H' k a := by
  obtain ⟨b, h1, h2⟩ := h
  exact ⟨b, sqt_keep kk h1, sqt_keep kk h2⟩
theorem Ents.keep {K : PySem.W.Frag} {H H' : Hp} {n : Int} {ms : List Str} {xs : List ND.En} (h : Ents K H n ms xs) (kk : KeepT H H') : Ents K H' n ms xs := ⟨fun x hx => nkt_keep kk (h.keys x hx), h.nd, h.ok⟩
theorem Ents.put {K : PySem.W.Frag} {H : Hp} {n : Int} {ms : List Str} {xs : List ND.En} {k : ND.KN} {a : Addr} {v : V} (h : Ents K H n ms xs) (hk : ND.NkT K H k a) (he : EntOk n ms (k, a, v)) : Ents K H n ms (ND.putN xs k a v) ∧ 0 < (ND.putN xs k a v).length := by
  have hkeys := ND.keys_put (H' := H) (v := v) h.keys hk
  cases hat : ND.atN xs k with
  | some p =>
    have e : ND.putN xs k a v = xs.map (fun x => if x.1 = k then (x.1, x.2.1, v) else x) := by
      unfold ND.putN
      rw [hat]
      rfl
    have e2 : (xs.map (fun x => if x.1 = k then (x.1, x.2.1, v) else x)).map (·.1) = xs.map (·.1) := by
      rw [List.map_map]
      refine List.map_congr_left fun x _ => ?_
      show (if x.1 = k then (x.1, x.2.1, v) else x).1 = x.1
      split <;> rfl
    rw [e] at hkeys ⊢
    refine ⟨⟨hkeys, by rw [e2]; exact h.nd, fun x hx => ?_⟩, ?_⟩
    · obtain ⟨y, hy, rfl⟩ := List.mem_map.mp hx
      have h1 := h.ok y hy
      by_cases hyk : y.1 = k
      · rw [if_pos hyk]
        exact ⟨he.val, h1.lo, h1.hi, h1.sh, h1.sl⟩
      · rw [if_neg hyk]
        exact h1
    · rw [List.length_map]
      cases xs with
      | nil => cases hat
      | cons x r => exact Nat.succ_pos _
  | none =>
    have e : ND.putN xs k a v = xs ++ [(k, a, v)] := by
      unfold ND.putN
      rw [hat]
      rfl
    rw [e] at hkeys ⊢
    refine ⟨⟨hkeys, ?_, fun x hx => ?_⟩, by rw [List.length_append]; exact Nat.succ_pos _⟩
    · rw [List.map_append]
      refine List.nodup_append.mpr ⟨h.nd, by simp, fun x hx y hy => ?_⟩
      rw [List.mem_singleton.mp hy]
      rintro rfl
      obtain ⟨z, hz, hz2⟩ := List.mem_map.mp hx
      unfold ND.atN at hat
      rw [Option.map_eq_none_iff, List.find?_eq_none] at hat
      exact hat z hz (decide_eq_true hz2)
    · rcases List.mem_append.mp hx with h1 | h1
      · exact h.ok x h1
      · rw [List.mem_singleton.mp h1]
        exact he
theorem at_mem : ∀ {xs : List ND.En} {e : ND.En}, (xs.map (·.1)).Nodup → e ∈ xs → ND.atN xs e.1 = some e.2
  | [], _, _, h => absurd h List.not_mem_nil
  | x :: r, e, hn, h => by
    rw [List.map_cons, List.nodup_cons] at hn
    unfold ND.atN
    rcases List.mem_cons.mp h with rfl | h
    · rw [List.find?_cons, decide_eq_true rfl]
      rfl
    · have ne : ¬ x.1 = e.1 := fun z => hn.1 (by rw [z]; exact List.mem_map.mpr ⟨e, h, rfl⟩)
      rw [List.find?_cons, decide_eq_false ne]
      exact at_mem hn.2 h
theorem nt_nd {P : Program} {w : World} {a : Addr} {xs : List ND.En} : NT (ND.ND P w a xs) := ⟨fun _ e => (nomatch e), fun _ _ e => (nomatch e)⟩
def cOf : V → Int
  | .int c => c
  | _ => 0
def szOf (xs : List ND.En) : Int := (xs.map fun e => cOf e.2.2).sum
def arcOf (z : Int) (e : ND.En) : Arc := (e.1.1, e.1.2.toNat, fr (cOf e.2.2) z, cOf e.2.2 * ((LC : Int) / z))
theorem sz_bd {n : Int} {ms : List Str} : ∀ {xs : List ND.En}, (∀ e ∈ xs, EntOk n ms e) → (xs.length : Int) ≤ szOf xs ∧ szOf xs ≤ 4 * (xs.length : Int) ∧ ∀ e ∈ xs, cOf e.2.2 ≤ szOf xs
  | [], _ => ⟨by simp [szOf], by simp [szOf], fun _ h => absurd h List.not_mem_nil⟩
  | e :: r, h => by
    obtain ⟨h1, h2, h3⟩ := sz_bd (xs := r) fun x hx => h x (List.mem_cons_of_mem _ hx)
    obtain ⟨c, hc, c1, c2⟩ := (h e List.mem_cons_self).val
    have e1 : szOf (e :: r) = cOf e.2.2 + szOf r := List.sum_cons
    have e2 : cOf e.2.2 = c := by rw [hc]; rfl
    rw [List.length_cons, e1, e2]
    refine ⟨by omega, by omega, fun x hx => ?_⟩
    rcases List.mem_cons.mp hx with rfl | hx
    · omega
    · have := h3 x hx
      omega
theorem lc_div {z : Int} (h1 : 1 ≤ z) (h2 : z ≤ 12) : (LC : Int) / z * z = LC := by
  have : z = 1 ∨ z = 2 ∨ z = 3 ∨ z = 4 ∨ z = 5 ∨ z = 6 ∨ z = 7 ∨ z = 8 ∨ z = 9 ∨ z = 10 ∨ z = 11 ∨ z = 12 := by omega
  rcases this with rfl | rfl | rfl | rfl | rfl | rfl | rfl | rfl | rfl | rfl | rfl | rfl <;> decide
theorem arc_ok {n : Int} {ms : List Str} {z : Int} {e : ND.En} (hms : ShOk ms) (h : EntOk n ms e) (h1 : 1 ≤ z) (h2 : z ≤ 12) (hc : cOf e.2.2 ≤ z) : ArcOk n.toNat (arcOf z e) := by
  obtain ⟨c, ec, c1, c2⟩ := h.val
  have e2 : cOf e.2.2 = c := by rw [ec]; rfl
  have hl := h.lo
  have hh := h.hi
  have hd := lc_div h1 h2
  have hp : 0 ≤ (LC : Int) / z := Int.ediv_nonneg (by decide) (by omega)
  rw [e2] at hc
  refine ⟨fun s hs => hms s (h.sh s hs), h.sl, by show e.1.2.toNat < n.toNat; omega, ?_, ?_, ?_⟩
  · show Fr (fr (cOf e.2.2) z) (cOf e.2.2 * ((LC : Int) / z)) LC
    rw [e2]
    refine Fr.of (x := (c, z)) (by show z ≠ 0; omega) ?_ (by decide)
    show c * (LC : Int) = (c * ((LC : Int) / z)) * z
    rw [Int.mul_assoc, hd]
  · show 0 ≤ cOf e.2.2 * ((LC : Int) / z)
    rw [e2]
    exact Int.mul_nonneg (by omega) hp
  · show cOf e.2.2 * ((LC : Int) / z) ≤ LC
    rw [e2]
    calc c * ((LC : Int) / z) ≤ z * ((LC : Int) / z) := Int.mul_le_mul_of_nonneg_right hc hp
      _ = LC := by rw [Int.mul_comm, hd]
section
variable {P : Program} {w : World} {K : PySem.W.Frag} {mg : Str → Option Value} {base : Heap}
theorem ok__law_drawn_web (T : Txt K mg) (D__law_draw : Kept P w K mg base 1 "_law_draw" ["d", "many"] spDraw) (D__law_frac : Kept P w K mg base 1 "_law_frac" ["n", "d"] spFrac) (D__law_drawn_shown : Kept P w K mg base 3 "_law_drawn_shown" ["d", "marks"] (spShown K)) {f : Addr} {fd : FuncData} (F : FnP K "_law_drawn_web" s__law_drawn_web f fd) : FnOk P w K mg base CX0 4 f fd ["d", "states", "marks"] (spDWeb K) := by
  refine F.ok sc__law_drawn_web (fun vs H Q E h => ?_) (fun cdv A outer s H vs Q E hr h => ?_)
  · obtain ⟨S, D, m, n, ms, rfl, _⟩ := h
    rfl
  · obtain ⟨S, D, m, n, ms, rfl, d, nD, hm, h0, h1, hsh, n1, n2, q⟩ := h
    refine ⟨_, PSs.nox (pss_cons (ps_set (i := 3) sc__law_drawn_web.nd rfl (Or.inl rfl) (pe_lst pa_nil))
      (pss_cons (ps_for PassesOwn.never rfl (pi_range1 (by rfl) T.b_range (pa_cons (pv 1) pa_nil)) (pg_name (i := 4) sc__law_drawn_web.nd rfl (Or.inl rfl)) (pss_cons (ps_set (i := 5) sc__law_drawn_web.nd rfl (Or.inr rfl) (ND.pe_nnewK (P := P) (w := w) rfl rfl))
      (pss_cons (ps_for PassesOwn.never rfl (pi_range1 (by rfl) T.b_range (pa_cons (pe_op op_add pe_int (pe_d D__law_draw (hr.mono (by decide)) (by rfl) (pa_cons (pv 0) (pa_cons pe_int pa_nil)))) pa_nil)) (pg_name (i := 6) sc__law_drawn_web.nd rfl (Or.inl rfl)) (pss_one (ND.ps_nputK (P := P) (w := w) (K := K) rfl rfl rfl hr.units (pv 5) (pe_tup (pa_cons (pe_d D__law_drawn_shown (hr.mono (by decide)) (by rfl) (pa_cons (pv 0) (pa_cons (pv 2) pa_nil))) (pa_cons (pe_d D__law_draw (hr.mono (by decide)) (by rfl) (pa_cons (pv 0) (pa_cons (pv 1) pa_nil))) pa_nil))) (pe_op op_add pe_int (pe_d D__law_draw (hr.mono (by decide)) (by rfl) (pa_cons (pv 0) (pa_cons pe_int pa_nil)))) (by rfl))))
      (pss_cons (ps_set (i := 7) sc__law_drawn_web.nd rfl (Or.inr rfl) (pe_callB (cr_sum rfl) (by rfl) T.b_sum (by decide +kernel) (pa_cons (pe_lock (pe_lc (own := [("key", 8)]) (g := (gName 8)) (tt := tYes) rfl sc__law_drawn_web.nd (ND.pi_keysNK (P := P) (w := w) rfl rfl (pv 5)) (blkOk_by (N := N__law_drawn_web) (sc := defScope s__law_drawn_web) (by decide +kernel)) (fun _ _ _ _ _ => (pg_name (i := 8) sc__law_drawn_web.nd rfl (Or.inl rfl))) (fun _ _ _ _ _ => pts_nil) (fun _ _ _ _ _ => (ND.pe_ngetK (P := P) (w := w) (K := K) rfl rfl rfl hr.units (pv 5) (pv 8) (fun _ _ => rfl))))) pa_nil)))
      (pss_one (ps_expr (pe_bm PySem.F.plainAttrs_list PySem.F.slot_list_append PySem.F.type_list_append mt_append (pv 3) (pa_cons (pe_callTy (tupOfT (K := K) rfl) (by rfl) T.b_tuple (by decide +kernel) (pa_cons (pe_lc (own := [("key", 8)]) (g := (gName 8)) (tt := tYes) rfl sc__law_drawn_web.nd (pi_list (pe_callB (ND.cr_sortedNK (P := P) (w := w) (K := K) rfl rfl rfl rfl hr.units) (by rfl) T.b_sorted (by decide +kernel) (pa_cons (pv 5) pa_nil))) (blkOk_by (N := N__law_drawn_web) (sc := defScope s__law_drawn_web) (by decide +kernel)) (fun _ _ _ _ _ => (pg_name (i := 8) sc__law_drawn_web.nd rfl (Or.inl rfl))) (fun _ _ _ _ _ => pts_nil) (fun _ _ _ _ _ => (pe_tup (pa_cons (pe_ix (ixT (K := K) rfl) (pv 8) pe_int (fun _ _ => rfl)) (pa_cons (pe_ix (ixT (K := K) rfl) (pv 8) pe_int (fun _ _ => rfl)) (pa_cons (pe_d D__law_frac (hr.mono (by decide)) (by rfl) (pa_cons (ND.pe_ngetK (P := P) (w := w) (K := K) rfl rfl rfl hr.units (pv 5) (pv 8) (fun _ _ => rfl)) (pa_cons (pv 7) pa_nil))) pa_nil)))))) pa_nil)) pa_nil))))))))
      (pss_one (ps_ret (pe_tup (pa_cons pe_str (pa_cons (pe_callTy (tupOfT (K := K) rfl) (by rfl) T.b_tuple (by decide +kernel) (pa_cons (pv 3) pa_nil)) pa_nil))))))), ?_⟩
    refine ⟨Nat.zero_le _, fun L hL => ?_⟩
    have g1 := Go.new (o := .lst []) d hL
    have LD := (d.free hL).1
    refine ⟨_, rfl, _, rfl, by omega, by omega, for_range (lo := 0) (n := n.toNat) (fun i σ H' => ∃ (W : Wb) (zs : List V) (y4 y5 y6 y7 : Option V), σ = [some (.ref D), some (.int n), some (.ref m), some (.ref L), y4, y5, y6, y7, none] ∧ Go S D H H' ∧ H' L = some (.lst zs) ∧ DpAll K H' zs (W.map dRow) ∧ W.length = i ∧ ∀ r ∈ W, 0 < r.length ∧ r.length ≤ 3 ∧ ∀ a ∈ r, ArcOk n.toNat a) ⟨[], [], _, _, _, _, rfl, g1, upd_same, .nil, rfl, fun _ h => absurd h List.not_mem_nil⟩ ?_ ?_⟩
    · rintro i σ H1 hi ⟨W, zs, y4, y5, y6, y7, rfl, g, hL1, hzs, hW, hWr⟩
      refine fun f hf => ?_
      have fD := (g.1.free hf).1
      have f0 := g.free d hf
      have d2 := g.1.new (o := ND.ND P w f []) hf
      have fL : f ≠ L := (ne_of_none hL1 hf).symm
      have hkf := keepT_new (o := ND.ND P w f []) hf
      refine ⟨_, rfl, S, D, 3, rfl, divW_of (by decide) (by decide), d2, fun H3 kk k0 k1 g3 => ?_⟩
      refine ⟨_, _, rfl, rfl, _, rfl, by omega, by omega, for_range (lo := 0) (n := (1 + kk).toNat) (fun j σ H' => ∃ (z6 z7 : Option V) (xs : List ND.En), σ = [some (.ref D), some (.int n), some (.ref m), some (.ref L), some (.int (0 + (i : Int))), some (.ref f), z6, z7, none] ∧ Go S D H1 H' ∧ H' f = some (ND.ND P w f xs) ∧ Ents K H' n ms xs ∧ xs.length ≤ j ∧ (0 < j → 0 < xs.length)) ⟨_, _, [], rfl, (Go.new g.1 hf).trans g3, g3.2 _ _ upd_same fD, ⟨fun _ h => absurd h List.not_mem_nil, List.nodup_nil, fun _ h => absurd h List.not_mem_nil⟩, Nat.le_refl _, fun h => absurd h (Nat.lt_irrefl _)⟩ ?_ ?_⟩
      · rintro j σ H4 hj ⟨z6, z7, xs, rfl, g4, hf4, he4, hl4, hp4⟩
        refine ⟨_, rfl, S, D, 4, rfl, divW_of (by decide) (by decide), g4.1, fun H5 c c0 c1 g5 => ⟨_, _, rfl, rfl, _, rfl, _, rfl, _, rfl, S, D, m, ms, rfl, g5.1, nD, ((g.trans g4).trans g5).2 _ _ hm nD, h0, h1, fun H6 p ss g6 hp0 hp hss hsl => ?_⟩⟩
        have pD := (g5.1.free hp0).1
        refine ⟨_, rfl, _, rfl, S, D, n, rfl, divW_of (by omega) (by omega), g6.1, fun H7 t t0 t1 g7 => ⟨by show 2 ≤ sizeLine; decide, fun b hb => ?_⟩⟩
        have hp7 := g7.2 _ _ hp pD
        have gg : Go S D H4 (upd H7 b (.tup [.ref p, .int t])) := ((g5.trans g6).trans g7).trans (Go.new g7.1 hb)
        have hk8 : ND.NkT K (upd H7 b (.tup [.ref p, .int t])) (ss, t) b := ⟨p, SqT.of upd_same, SqT.of (by rw [upd_ne (ne_of_none hp7 hb)]; exact hp7)⟩
        have hf8 := gg.2 _ _ hf4 fD
        have he8 := he4.keep (Go.keepT g4.1 gg)
        generalize upd H7 b (.tup [.ref p, .int t]) = H8 at gg hk8 hf8 he8
        obtain ⟨e1, e2⟩ := he8.put hk8 (v := .int (1 + c)) ⟨⟨_, rfl, by omega, by omega⟩, t0, t1, hss, hsl⟩
        refine ⟨f, b, xs, (ss, t), rfl, rfl, hf8, he8.keys, hk8, line6 (by omega), _, _, _, rfl, goU hf g.1 (g4.trans gg), upd_same, e1.keep (keepT_nt nt_nd hf8), ?_, fun _ => e2⟩
        exact Nat.le_trans (ND.len_put xs (ss, t) b (.int (1 + c))) (by omega)
      · rintro σ H4 ⟨z6, z7, xs, rfl, g4, hf4, he4, hl4, hp4⟩
        have hx0 := hp4 (by omega)
        have hx3 : xs.length ≤ 3 := by omega
        obtain ⟨b1, b2, b3⟩ := sz_bd he4.ok
        have f4 : H4 f ≠ none := by rw [hf4]; exact fun e => by cases e
        refine ⟨f, _, hf4, trivial, fun od => ?_⟩
        refine ⟨_, rfl, f, od, xs, rfl, upd_same, fun Lz hLz => ND.lc_keysN (P := P) (w := w) (d := f) (o := od) (xs := xs) (fun i H' => H' = upd (upd H4 f (.frz od (ND.ND P w f xs))) Lz (.lst ((xs.take i).map fun e => e.2.2))) rfl (fun i H' _ e => ?_) ?_ ?_⟩
        · subst e
          exact same_new hLz _ _ upd_same
        · rintro i e H5 hi rfl
          have hm := List.mem_of_getElem? hi
          have kp : KeepT H4 (upd (upd H4 f (.frz od (ND.ND P w f xs))) Lz (.lst ((xs.take i).map fun e => e.2.2))) := (keepT_nt (o := .frz od (ND.ND P w f xs)) nt_nd hf4).trans (keepT_new hLz)
          have he5 := he4.keep kp
          refine ⟨rfl, _, rfl, _, rfl, f, e.2.1, xs, e.1, e.2, rfl, rfl, .inr ⟨od, same_new hLz _ _ upd_same⟩, he5.keys, he5.keys e hm, at_mem he5.nd hm, _, upd_same, ?_, ?_⟩
          · rw [List.length_map, List.length_take]
            exact line6 (by omega)
          · rw [upd_upd, take_map_succ (f := fun e : ND.En => e.2.2) hi]
        · rintro H5 rfl
          rw [List.take_length]
          have Lf : Lz ≠ f := fun e => by
            rw [e, upd_same] at hLz
            cases hLz
          have hLz4 : H4 Lz = none := by
            rw [upd_ne Lf] at hLz
            exact hLz
          refine ⟨same_new hLz _ _ upd_same, ?_⟩
          have s6 : Same H4 (upd (upd (upd H4 f (.frz od (ND.ND P w f xs))) Lz (.lst (xs.map fun e => e.2.2))) f (ND.ND P w f xs)) := fun b o e => by
            by_cases hb : b = f
            · subst hb
              rw [upd_same, ← hf4]
              exact e
            · rw [upd_ne hb, upd_ne (ne_of_none e hLz4), upd_ne hb]
              exact e
          have hLz6 : (upd (upd (upd H4 f (.frz od (ND.ND P w f xs))) Lz (.lst (xs.map fun e => e.2.2))) f (ND.ND P w f xs)) Lz = some (.lst ((xs.map fun e => cOf e.2.2).map V.int)) := by
            rw [upd_ne Lf, upd_same, List.map_map]
            congr 2
            refine List.map_congr_left fun e he => ?_
            obtain ⟨c, hc, _⟩ := (he4.ok e he).val
            show e.2.2 = V.int (cOf e.2.2)
            rw [hc]
            rfl
          generalize upd (upd (upd H4 f (.frz od (ND.ND P w f xs))) Lz (.lst (xs.map fun e => e.2.2))) f (ND.ND P w f xs) = H6 at s6 hLz6
          have hf6 := s6 _ _ hf4
          have he6 := he4.keep (KeepT.of_same s6)
          have gL4 := g4.2 _ _ hL1 LD
          have hL6 := s6 _ _ gL4
          refine ⟨Lz, _, rfl, SqL.of hLz6, ?_⟩
          have ez : (xs.map fun e => cOf e.2.2).sum = szOf xs := rfl
          rw [ez]
          generalize hz : szOf xs = z at b1 b2 b3
          refine ⟨_, rfl, .inl ⟨rfl, _, SqL.of hL6⟩, _, rfl, f, xs, rfl, .inl hf6, he6.keys, fun ys p hperm hp => ?_⟩
          have s7 := same_new (o := .lst (ys.map fun e => V.ref e.2.1)) hp
          have hp7 := upd_same (H := H6) (a := p) (o := .lst (ys.map fun e => V.ref e.2.1))
          have he7 := he6.keep (KeepT.of_same s7)
          have hf7 := s7 _ _ hf6
          have hL7 := s7 _ _ hL6
          generalize upd H6 p (.lst (ys.map fun e => V.ref e.2.1)) = H7 at s7 hp7 he7 hf7 hL7
          have yl : ys.length = xs.length := hperm.length_eq
          refine ⟨p, rfl, ⟨_, SqL.of hp7⟩, fun Lk hLk => lc_list (xs := ys.map fun e => V.ref e.2.1) (fun i H' => Same H7 H' ∧ ∃ qs, H' Lk = some (.lst qs) ∧ DpAll K H' qs ((ys.take i).map fun e => dArc (arcOf z e))) ⟨same_new hLk, [], upd_same, .nil⟩ (fun i H' _ e => SqL.of (e.1 _ _ hp7)) ?_ ?_⟩
          · rintro i x H8 hi ⟨s8, qs, hL8, hA8⟩
            rw [List.getElem?_map] at hi
            obtain ⟨e, hye, rfl⟩ := Option.map_eq_some_iff.mp hi
            have hm := hperm.mem_iff.mp (List.mem_of_getElem? hye)
            have he8 := he7.keep (KeepT.of_same s8)
            obtain ⟨bk, hb1, hb2⟩ := he8.keys e hm
            obtain ⟨c, hc, c1, c2⟩ := (he8.ok e hm).val
            have ec : cOf e.2.2 = c := by rw [hc]; rfl
            have hcz := b3 e hm
            refine ⟨rfl, _, rfl, e.2.1, _, _, _, rfl, rfl, hb1, atI_nat (j := 0) rfl, _, rfl, e.2.1, _, _, _, rfl, rfl, hb1, atI_nat (j := 1) rfl, _, rfl, _, rfl, f, e.2.1, xs, e.1, e.2, rfl, rfl, .inl (s8 _ _ hf7), he8.keys, he8.keys e hm, at_mem he8.nd hm, ?_⟩
            have hb1s : 1 ≤ z := by omega
            have hzz : z ≤ 12 := by omega
            refine ⟨_, rfl, cOf e.2.2, z, by rw [ec, hc]; rfl, by omega, ⟨n_up (j := 5) (by show _ < 32; omega) (by decide), n_up (j := 5) (by show _ < 32; omega) (by decide)⟩, fun pf hpf => ⟨by show 3 ≤ sizeLine; decide, fun pa hpa => ?_⟩⟩
            have s9 := same_new (o := tupF (fr (cOf e.2.2) z)) hpf
            have hpf9 := upd_same (H := H8) (a := pf) (o := tupF (fr (cOf e.2.2) z))
            have s10 := s9.trans (same_new (o := .tup [.ref bk, .int e.1.2, .ref pf]) hpa)
            have hpf10 := same_new (o := .tup [.ref bk, .int e.1.2, .ref pf]) hpa _ _ hpf9
            have hpa10 := upd_same (H := upd H8 pf (tupF (fr (cOf e.2.2) z))) (a := pa) (o := .tup [.ref bk, .int e.1.2, .ref pf])
            generalize upd (upd H8 pf (tupF (fr (cOf e.2.2) z))) pa (.tup [.ref bk, .int e.1.2, .ref pf]) = H10 at s10 hpf10 hpa10
            have k10 := KeepT.of_same s10
            have hL10 := s10 _ _ hL8
            have kL := keepT_nt (o := .lst (qs ++ [.ref pa])) (nt_lst _) hL10
            have hlo := (he8.ok e hm).lo
            have dA : Dp K H10 (.ref pa) (dArc (arcOf z e)) := by
              have e1 : PyData.int ((e.1.2.toNat : Nat) : Int) = .int e.1.2 := by rw [Int.toNat_of_nonneg hlo]
              show Dp K H10 (.ref pa) (.tuple [dSh e.1.1, .int ((e.1.2.toNat : Nat) : Int), dF (fr (cOf e.2.2) z)])
              rw [e1]
              exact .tup (SqT.of hpa10) (.cons (sh_of (sqt_keep k10 hb2)) (.cons (.int _) (.cons (dp_F (SqT.of hpf10)) .nil)))
            refine ⟨_, hL10, ?_, same_mut (s8.trans s10) hLk, qs ++ [.ref pa], upd_same, ?_⟩
            · have := dpA_len hA8
              rw [List.length_map, List.length_take] at this
              exact line6 (by omega)
            · rw [List.take_add_one, hye, List.map_append]
              refine dpA_snoc (dpA_keep kL _ _ (noLs_map _ _ fun e _ => dArc_noL _) (dpA_keep k10 _ _ (noLs_map _ _ fun e _ => dArc_noL _) hA8)) (dp_keep kL _ _ (dArc_noL _) dA)
          · rintro H8 ⟨s8, qs, hL8, hA8⟩
            rw [List.length_map, List.take_length] at hA8
            refine ⟨Lk, qs, rfl, .inl ⟨SqL.of hL8, fun pr hpr => ?_⟩⟩
            have s9 := s7.trans (s8.trans (same_new (o := .tup qs) hpr))
            have hpr9 := upd_same (H := H8) (a := pr) (o := .tup qs)
            have hA9 := dpA_keep (KeepT.of_same (same_new (o := .tup qs) hpr)) _ _ (noLs_map _ _ fun e _ => dArc_noL _) hA8
            generalize upd H8 pr (.tup qs) = H9 at s9 hpr9 hA9
            have hL9 := s9 _ _ hL6
            have gT : Go S D H1 H9 := g4.trans ((Go.same g4.1 (s6.trans s9)))
            have kL := keepT_nt (o := .lst (zs ++ [.ref pr])) (nt_lst _) hL9
            have zl := dpA_len hzs
            rw [List.length_map] at zl
            have eA : (ys.map fun e => dArc (arcOf z e)) = (ys.map (arcOf z)).map dArc := by rw [List.map_map]; rfl
            rw [eA] at hA9
            refine ⟨L, zs, _, rfl, rfl, hL9, line6 (by omega), W ++ [ys.map (arcOf z)], zs ++ [.ref pr], _, _, _, _, rfl, ?_, upd_same, ?_, ?_, fun r hr => ?_⟩
            · have gg := g.trans gT
              exact goU hL d gg
            · rw [List.map_append]
              exact dpA_snoc (dpA_keep kL _ _ (noLs_map _ _ fun r _ => dRow_noL r) (dpA_keep (Go.keepT g.1 gT) _ _ (noLs_map _ _ fun r _ => dRow_noL r) hzs)) (dp_keep kL _ _ (dRow_noL _) (.tup (SqT.of hpr9) hA9))
            · rw [List.length_append, hW]
              rfl
            · rcases List.mem_append.mp hr with h | h
              · exact hWr r h
              · rw [List.mem_singleton.mp h, List.length_map, yl]
                refine ⟨hx0, hx3, fun a ha => ?_⟩
                obtain ⟨e, he, rfl⟩ := List.mem_map.mp ha
                have hm := hperm.mem_iff.mp he
                exact arc_ok hsh (he7.ok e hm) (by omega) (by omega) (b3 e hm)
    · rintro σ H1 ⟨W, zs, y4, y5, y6, y7, rfl, g, hL1, hzs, hW, hWr⟩
      refine ⟨_, rfl, L, zs, rfl, .inl ⟨SqL.of hL1, fun pq hpq => ⟨by show 2 ≤ sizeLine; decide, fun pw hpw => ?_⟩⟩⟩
      have gq := Go.new (o := .tup zs) g.1 hpq
      have gw := gq.trans (Go.new (o := .tup [.str "web", .ref pq]) gq.1 hpw)
      have hpq2 := same_new (o := .tup [.str "web", .ref pq]) hpw _ _ (upd_same (H := H1) (a := pq) (o := .tup zs))
      refine q _ _ W (g.trans gw) (.tup (SqT.of upd_same) (.cons (.str _) (.cons (.tup (SqT.of hpq2) (dpA_keep (Go.keepT g.1 gw) _ _ (noLs_map _ _ fun r _ => dRow_noL r) hzs)) .nil))) ⟨by omega, by omega, fun r hr => ?_⟩ hW
      rw [hW]
      exact hWr r hr
end
end Mt
namespace Mt
open PySem PySem.Spec PyProof.Rows L2
/-! ### bends, tickets -/
theorem slTK {X : Cx} {K : PySem.W.Frag} (h : X.K = K) : SlR X (rSlA K) := h ▸ sl_tupA
theorem sumTK {X : Cx} {K : PySem.W.Frag} (hc : X.calm = true) (h : X.K = K) : CallR X (.builtin "sum") (EnT.rSumT K) := h ▸ EnT.cr_sumT hc
def dI (l : List Int) : PyData := .tuple (l.map .int)
theorem dI_noL (l : List Int) : noL (dI l) = true := noLs_map _ _ fun _ _ => rfl
section
variable {K : PySem.W.Frag} {H : Hp} {v : V}
theorem dp_ints : ∀ {ss : List Int} {xs : List V}, DpAll K H xs (ss.map .int) → xs = ss.map V.int
  | [], _, h => dpA_nil h
  | s :: r, _, h => by
    obtain ⟨x, t, rfl, h1, h2⟩ := dpA_cons h
    rw [dp_int h1, dp_ints h2]
    rfl
theorem ints_dp : ∀ ss : List Int, DpAll K H (ss.map V.int) (ss.map .int)
  | [] => .nil
  | s :: r => .cons (.int s) (ints_dp r)
theorem i_of {p : Addr} {ss : List Int} (h : SqT K H p (ss.map V.int)) : Dp K H (.ref p) (dI ss) := .tup h (ints_dp ss)
theorem i_at {ss : List Int} (h : Dp K H v (dI ss)) : ∃ p, v = .ref p ∧ SqT K H p (ss.map V.int) := by
  obtain ⟨p, xs, rfl, h1, h2⟩ := dp_tup h
  rw [dp_ints h2] at h1
  exact ⟨p, rfl, h1⟩
end
abbrev Bd : Type := List (List Int)
def dBd (B : Bd) : PyData := .tuple (B.map dI)
theorem dBd_noL (B : Bd) : noL (dBd B) = true := noLs_map _ _ fun l _ => dI_noL l
abbrev BIG : Int := 10 ^ 30 + 5000
structure RowOk (r : List Arc) (l : List Int) : Prop where
  len : l.length = r.length
  nn : ∀ n ∈ l, 0 ≤ n
  big : ∀ n ∈ l, n ≤ BIG
  pos : 0 < l.sum
structure BdOk (W : Wb) (B : Bd) : Prop where
  len : B.length = W.length
  row : ∀ (i : Nat) (r : List Arc) (l : List Int), W[i]? = some r → B[i]? = some l → RowOk r l
/-- the arc that a ticket meets -/
def arcAt : List Int → Int → Nat
  | [], _ => 0
  | n :: r, t => if t < n then 0 else arcAt r (t - n) + 1
theorem sum_cons' (n : Int) (r : List Int) : (n :: r).sum = n + r.sum := List.sum_cons
theorem sum_nn' : ∀ {ns : List Int}, (∀ n ∈ ns, 0 ≤ n) → 0 ≤ ns.sum
  | [], _ => Int.le_refl _
  | n :: r, h => by
    rw [sum_cons']
    have := sum_nn' (ns := r) fun x hx => h x (List.mem_cons_of_mem _ hx)
    have := h n List.mem_cons_self
    omega
theorem arcAt_ok : ∀ {l : List Int} {t : Int}, (∀ n ∈ l, 0 ≤ n) → 0 ≤ t → t < l.sum → ∃ n, l[arcAt l t]? = some n ∧ 0 < n ∧ (l.take (arcAt l t)).sum ≤ t ∧ t < (l.take (arcAt l t + 1)).sum
  | [], t, _, h0, h1 => by
    have h1 : t < 0 := h1
    omega
  | n :: r, t, h, h0, h1 => by
    unfold arcAt
    have hn := h n List.mem_cons_self
    by_cases c : t < n
    · rw [if_pos c]
      refine ⟨n, rfl, by omega, ?_, ?_⟩
      · show (0 : Int) ≤ t
        exact h0
      · show t < n + 0
        omega
    · rw [if_neg c]
      rw [sum_cons'] at h1
      obtain ⟨m, e1, e2, e3, e4⟩ := arcAt_ok (l := r) (t := t - n) (fun x hx => h x (List.mem_cons_of_mem _ hx)) (by omega) (by omega)
      refine ⟨m, e1, e2, ?_, ?_⟩
      · rw [List.take_succ_cons, sum_cons']
        omega
      · rw [List.take_succ_cons, sum_cons']
        omega
theorem take_le {l : List Int} (h : ∀ n ∈ l, 0 ≤ n) {i j : Nat} (hij : i ≤ j) : (l.take i).sum ≤ (l.take j).sum := by
  have e : l.take j = l.take i ++ (l.drop i).take (j - i) := by
    rw [← List.take_append_drop i (l.take j), List.take_take, List.drop_take, Nat.min_eq_left hij]
  rw [e, List.sum_append]
  have := sum_nn' (ns := (l.drop i).take (j - i)) fun x hx => h x (List.mem_of_mem_drop (List.mem_of_mem_take hx))
  omega
/-- above and below the arc -/
theorem arcAt_lo {l : List Int} {t : Int} (h : ∀ n ∈ l, 0 ≤ n) (h0 : 0 ≤ t) (h1 : t < l.sum) {k : Nat} : ((l.take (k + 1)).sum ≤ t ↔ k < arcAt l t) := by
  obtain ⟨n, _, _, e3, e4⟩ := arcAt_ok h h0 h1
  constructor
  · intro z
    by_cases c : k < arcAt l t
    · exact c
    · have := take_le h (show arcAt l t + 1 ≤ k + 1 by omega)
      omega
  · intro z
    have := take_le h (show k + 1 ≤ arcAt l t by omega)
    omega
theorem arcAt_lt {l : List Int} {t : Int} (h : ∀ n ∈ l, 0 ≤ n) (h0 : 0 ≤ t) (h1 : t < l.sum) : arcAt l t < l.length := by
  obtain ⟨n, e, _⟩ := arcAt_ok h h0 h1
  exact (List.getElem?_eq_some_iff.mp e).1
theorem cut_to {xs : List V} {k : Nat} : cutV xs none (some (k : Int)) = xs.take k := by
  unfold cutV
  rw [HT.sIx_none, HT.sIx_nat, List.drop_zero, Nat.sub_zero]
  rcases Nat.le_total k xs.length with h | h
  · rw [Nat.min_eq_left h]
  · rw [Nat.min_eq_right h, List.take_of_length_le h, List.take_of_length_le (Nat.le_refl _)]
theorem slA_mono {K : PySem.W.Frag} {x : V} {lo hi : Option Int} {H : Hp} {Q Q' : VK} (h : rSlA K x lo hi H Q) (m : ∀ v H', Q v H' → Q' v H') : rSlA K x lo hi H Q' := by
  obtain ⟨a, xs, e, hx, q1, q2⟩ := h
  exact ⟨a, xs, e, hx, fun w => m _ _ (q1 w), fun w p hp => m _ _ (q2 w p hp)⟩
theorem sl_take {K : PySem.W.Frag} {H : Hp} {p : Addr} {xs : List V} (hx : SqT K H p xs) (k : Nat) : rSlA K (.ref p) none (some (k : Int)) H (fun v H' => ∃ r, v = .ref r ∧ Same H H' ∧ SqT K H' r (xs.take k)) := by
  refine ⟨p, xs, rfl, hx, fun hw => ⟨p, rfl, Same.refl _, ?_⟩, fun _ r hr => ⟨r, rfl, same_new hr, ?_⟩⟩
  · have h := hw.2
    rw [HT.sIx_nat] at h
    rw [List.take_of_length_le (by omega)]
    exact hx
  · rw [cut_to]
    exact SqT.of upd_same
def spArcAt (K : PySem.W.Frag) : Sp := fun vs H Q _ => ∃ (p : Addr) (l : List Int) (t : Int), vs = [.ref p, .int t] ∧ SqT K H p (l.map V.int) ∧ l.length ≤ 100 ∧ (∀ n ∈ l, 0 ≤ n) ∧ 0 ≤ t ∧ t < l.sum ∧ ∀ H', Same H H' → Q (.int ((arcAt l t : Nat) : Int)) H'
section
variable {P : Program} {w : World} {K : PySem.W.Frag} {mg : Str → Option Value} {base : Heap}
theorem ok_arc_at (T : Txt K mg) {f : Addr} {fd : FuncData} (F : FnP K "arc_at" s_arc_at f fd) : FnOk P w K mg base CX0 1 f fd ["numbers", "ticket"] (spArcAt K) := by
  refine F.ok sc_arc_at (fun vs H Q E h => ?_) (fun cdv A outer s H vs Q E hr h => ?_)
  · obtain ⟨p, l, t, rfl, _⟩ := h
    rfl
  · obtain ⟨p, l, t, rfl, hp, hl, nn, t0, t1, q⟩ := h
    refine ⟨_, PSs.nox (pss_cons (ps_set (i := 2) sc_arc_at.nd rfl (Or.inl rfl) pe_int)
      (pss_cons (ps_set (i := 3) sc_arc_at.nd rfl (Or.inl rfl) (pe_ix ix_tup (pv 0) pe_int (fun _ _ => rfl)))
      (pss_cons (ps_while PassesOwn.never (pt_cmpR op_le (pv 3) (pv 1) (nomark _)) (pss_cons (ps_aug (i := 2) sc_arc_at.nd rfl (Or.inl rfl) pe_int ip_add)
      (pss_one (ps_aug (i := 3) sc_arc_at.nd rfl (Or.inl rfl) (pe_ix ix_tup (pv 0) (pv 2) (fun _ _ => rfl)) ip_add))))
      (pss_one (ps_ret (pv 2)))))), ?_⟩
    have lt := arcAt_lt nn t0 t1
    have e0 : l[0]? = some (l[0]'(by omega)) := List.getElem?_eq_getElem _
    refine ⟨_, rfl, p, _, _, _, rfl, rfl, hp, atI_nat (j := 0) (by rw [List.getElem?_map, e0]; rfl), ?_⟩
    refine ⟨fun m σ' H1 => ∃ k : Nat, σ' = [some (.ref p), some (.int t), some (.int (k : Int)), some (.int ((l.take (k + 1)).sum))] ∧ k ≤ arcAt l t ∧ m + k = arcAt l t ∧ H1 = H, ⟨_, 0, ?_, Nat.zero_le _, rfl, rfl⟩, ?_⟩
    · have : (l.take 1).sum = l[0]'(by omega) := by
        rw [List.take_one, List.head?_eq_getElem?, e0]
        simp
      show (_ : L2.St) = [some (V.ref p), some (V.int t), some (V.int 0), some (V.int ((l.take 1).sum))]
      rw [this]
      rfl
    · rintro m σ' H1 ⟨k, rfl, k1, k2, rfl⟩
      refine ⟨_, rfl, _, rfl, _, _, rfl, rfl, _, rfl, ite2 (fun e => ?_) (fun e => ?_)⟩
      · have e1 : (l.take (k + 1)).sum ≤ t := of_decide_eq_true e
        have e2 := (arcAt_lo nn t0 t1).mp e1
        have ek : l[k + 1]? = some (l[k + 1]'(by omega)) := List.getElem?_eq_getElem _
        have es : (l.take (k + 1 + 1)).sum = (l.take (k + 1)).sum + l[k + 1]'(by omega) := by
          rw [List.take_add_one, ek, List.sum_append]
          simp
        refine ⟨fun σ2 H2 => σ2 = [some (.ref p), some (.int t), some (.int ((k + 1 : Nat) : Int)), some (.int ((l.take (k + 1 + 1)).sum))] ∧ H2 = H1, ?_, ?_⟩
        · rintro σ2 H2 ⟨rfl, rfl⟩
          exact ⟨m - 1, by omega, k + 1, rfl, by omega, by omega, rfl⟩
        · refine ⟨_, rfl, _, _, rfl, rfl, _, rfl, _, rfl, _, rfl, p, _, _, _, rfl, rfl, hp, (show atI _ ((k + 1 : Nat) : Int) = _ from atI_nat (by rw [List.getElem?_map, ek]; rfl)), _, _, rfl, rfl, ?_, rfl⟩
          rw [es]
          rfl
      · have e1 : ¬ (l.take (k + 1)).sum ≤ t := fun z => e (decide_eq_true z)
        have e2 : k = arcAt l t := by
          have : ¬ k < arcAt l t := fun z => e1 ((arcAt_lo nn t0 t1).mpr z)
          omega
        subst e2
        exact ⟨_, rfl, q _ (Same.refl _)⟩
theorem ok__law_arc (T : Txt K mg) {f : Addr} {fd : FuncData} (F : FnP K "_law_arc" s__law_arc f fd) : FnOk P w K mg base CX0 1 f fd ["parts", "ticket"] (spArcAt K) := by
  refine F.ok sc__law_arc (fun vs H Q E h => ?_) (fun cdv A outer s H vs Q E hr h => ?_)
  · obtain ⟨p, l, t, rfl, _⟩ := h
    rfl
  · obtain ⟨p, l, t, rfl, hp, hl, nn, t0, t1, q⟩ := h
    refine ⟨_, PSs.nox (pss_one (ps_ret (pe_ix ix_list (pe_lc (own := [("k", 2)]) (g := (gName 2)) rfl sc__law_arc.nd (pi_range1 (by rfl) T.b_range (pa_cons (pe_callB call_len (by rfl) T.b_len (by decide +kernel) (pa_cons (pv 0) pa_nil)) pa_nil)) (blkOk_by (N := N__law_arc) (sc := defScope s__law_arc) (by decide +kernel)) (fun _ _ _ _ _ => (pg_name (i := 2) sc__law_arc.nd rfl (Or.inl rfl))) (fun _ _ _ _ _ => (pts_one (pt_cmpR op_gt (pe_callB (sumTK (K := K) rfl rfl) (by rfl) T.b_sum (by decide +kernel) (pa_cons (pe_slice (slTK (K := K) rfl) (pv 0) po_none (po_some (pe_op op_add (pv 2) pe_int))) pa_nil)) (pv 1) (nomark _)))) (fun _ _ _ _ _ => (pv 2))) pe_int (fun _ _ => rfl)))), ?_⟩
    have lt := arcAt_lt nn t0 t1
    refine ⟨_, rfl, _, _, rfl, .inr ⟨_, hp, rfl⟩, _, rfl, by rw [List.length_map]; omega, by rw [List.length_map]; omega, fun L hL => lc_range (lo := 0) (n := (l.map V.int).length) (fun i H' => ∃ ks : List Nat, Same H H' ∧ H' L = some (.lst (ks.map fun k : Nat => V.int (k : Int))) ∧ ks = (List.range i).filter (fun k => decide (arcAt l t ≤ k))) ⟨[], same_new hL, upd_same, rfl⟩ ?_ ?_⟩
    · rintro i H1 hi ⟨ks, s1, hL1, ek⟩
      rw [List.length_map] at hi
      have kl : ks.length ≤ i := by
        rw [ek]
        exact Nat.le_trans (List.length_filter_le _ _) (by rw [List.length_range]; exact Nat.le_refl _)
      refine ⟨rfl, _, rfl, _, rfl, _, _, rfl, rfl, _, rfl, ?_⟩
      rw [Int.zero_add]
      refine slA_mono (sl_take (same_t s1 hp) (i + 1)) fun v H2 hh => ?_
      obtain ⟨r, rfl, s2, hr⟩ := hh
      rw [← List.map_take] at hr
      refine ⟨r, _, rfl, hr, _, rfl, _, _, rfl, rfl, _, rfl, ?_⟩
      have hL2 := s2 _ _ hL1
      have eq : decide (t < (l.take (i + 1)).sum) = decide (arcAt l t ≤ i) := by
        rw [decide_eq_decide]
        have := arcAt_lo nn t0 t1 (k := i)
        omega
      rw [eq]
      by_cases c : arcAt l t ≤ i
      · rw [decide_eq_true c]
        refine ⟨_, rfl, ks.map (fun k : Nat => V.int (k : Int)), hL2, by rw [List.length_map]; exact line6 (by omega), ks ++ [i], same_mut (s1.trans s2) hL, by rw [upd_same, List.map_append]; rfl, ?_⟩
        rw [List.range_succ, List.filter_append, ek]
        simp [c]
      · rw [decide_eq_false c]
        refine ⟨ks, s1.trans s2, hL2, ?_⟩
        rw [List.range_succ, List.filter_append, ek]
        simp [c]
    · rintro H1 ⟨ks, s1, hL1, ek⟩
      rw [List.length_map] at ek
      have e0 : ks[0]? = some (arcAt l t) := by
        rw [ek]
        have : List.range l.length = List.range (arcAt l t) ++ (List.range (l.length - arcAt l t)).map (arcAt l t + ·) := by
          rw [← List.range_add]
          congr 1
          omega
        rw [this, List.filter_append, List.filter_eq_nil_iff.mpr (by
          intro x hx
          have := List.mem_range.mp hx
          simp
          omega), List.nil_append]
        obtain ⟨m, hm⟩ : ∃ m, l.length - arcAt l t = m + 1 := ⟨l.length - arcAt l t - 1, by omega⟩
        rw [hm, List.range_succ_eq_map, List.map_cons]
        simp
      exact ⟨L, _, _, _, rfl, rfl, SqL.of hL1, atI_nat (j := 0) (by rw [List.getElem?_map, e0]; rfl), q _ s1⟩
end
end Mt
namespace Mt
open PySem PySem.Spec PyProof.Rows L2
mutual
theorem dp_same {K : PySem.W.Frag} {H H' : Hp} (s : Same H H') : ∀ (d : PyData) (v : V), Dp K H v d → Dp K H' v d
  | .none, _, h => by
    cases h
    exact .non
  | .bool b, _, h => by
    cases h
    exact .bl b
  | .int i, _, h => by
    cases h
    exact .int i
  | .str x, _, h => by
    cases h
    exact .str x
  | .list ds, _, h => by
    cases h with
    | lst h1 h2 => exact .lst (same_l s h1) (dpA_same s ds _ h2)
  | .dict ds, n, h => by
    cases h
  | .tuple ds, _, h => by
    cases h with
    | tup h1 h2 => exact .tup (same_t s h1) (dpA_same s ds _ h2)
theorem dpA_same {K : PySem.W.Frag} {H H' : Hp} (s : Same H H') : ∀ (ds : List PyData) (xs : List V), DpAll K H xs ds → DpAll K H' xs ds
  | [], _, h => by
    cases h
    exact .nil
  | d :: ds, _, h => by
    cases h with
    | cons h1 h2 => exact .cons (dp_same s d _ h1) (dpA_same s ds _ h2)
end
theorem new_tup {K : PySem.W.Frag} {H : Hp} {p : Addr} {xs : List V} {ds : List PyData} (hp : H p = none) (h : DpAll K H xs ds) : Same H (upd H p (.tup xs)) ∧ Dp K (upd H p (.tup xs)) (.ref p) (.tuple ds) := by
  have s := same_new (o := .tup xs) hp
  exact ⟨s, .tup (SqT.of upd_same) (dpA_same s _ _ h)⟩
theorem z1 : (1 : Nat) ≤ sizeLine := by decide
theorem z2 : (2 : Nat) ≤ sizeLine := by decide
theorem z3 : (3 : Nat) ≤ sizeLine := by decide
theorem inV_str (z : Str) (ss : List Str) : inV (.str z) (ss.map V.str) = decide (z ∈ ss) := by
  unfold inV
  rw [List.any_map, Bool.eq_iff_iff, List.any_eq_true, decide_eq_true_iff]
  constructor
  · rintro ⟨s, hs, h⟩
    have h : (s == z) = true := h
    rw [← eq_of_beq h]
    exact hs
  · intro h
    exact ⟨z, h, (beq_self_eq_true z : (z == z) = true)⟩
theorem flat_strs (ss : List Str) : (ss.map V.str).all flatV = true := by
  rw [List.all_map]
  exact List.all_eq_true.mpr fun _ _ => rfl
/-! ### a walk along a web that is bent -/
theorem Fr.div {a b : F2} {N1 N2 : Int} {M1 M2 : Nat} (ha : Fr a N1 M1) (hb : Fr b N2 M2) (h : 0 < N2) : Fr (frp (div2 a b)) (N1 * M2) (M1 * N2.toNat) ∧ (div2 a b).2 ≠ 0 := by
  have e1 := ha.eq
  have e2 := hb.eq
  have p1 := ha.pos
  have p2 := hb.pos
  have l1 := ha.low.pos
  have l2 := hb.low.pos
  have hb1 : b.1 ≠ 0 := fun z => by
    rw [z, Int.zero_mul] at e2
    rcases Int.mul_eq_zero.mp e2.symm with h' | h'
    · omega
    · omega
  have hn : (div2 a b).2 ≠ 0 := by
    show a.2 * b.1 ≠ 0
    intro z
    rcases Int.mul_eq_zero.mp z with h' | h'
    · omega
    · exact hb1 h'
  refine ⟨Fr.of hn ?_ (Nat.mul_pos p1 (by omega)), hn⟩
  show (a.1 * b.2) * ((M1 * N2.toNat : Nat) : Int) = (N1 * (M2 : Int)) * (a.2 * b.1)
  rw [Int.natCast_mul, Int.toNat_of_nonneg (by omega)]
  grind
theorem Fr.frac {n d : Int} (hd : 0 < d) : Fr (fr n d) n d.toNat := by
  refine Fr.of (x := (n, d)) (by show d ≠ 0; omega) ?_ (by omega)
  show n * ((d.toNat : Nat) : Int) = n * d
  rw [Int.toNat_of_nonneg (by omega)]
def rowB (B : Bd) (st : Nat) : List Int := (B[st]?).getD []
def arcW (W : Wb) (st k : Nat) : Arc := (((W[st]?).getD [])[k]?).getD ([], 0, (0, 1), 0)
/-- where a walk ends: at a bad ticket, or told (a number of arcs over a number, and how many tickets) -/
abbrev Res : Type := Int ⊕ (Int × Nat × Nat)
def wk (W : Wb) (B : Bd) (g : Str) : Nat → Int → Nat → Nat → List Int → Res
  | _, _, _, u, [] => .inr (0, 1, u)
  | st, N, M, u, t :: ts =>
    if t < 0 ∨ (rowB B st).sum ≤ t then .inl t
    else
      if g ∈ (arcW W st (arcAt (rowB B st) t)).1 then .inr (N * ((arcW W st (arcAt (rowB B st) t)).2.2.2 * (rowB B st).sum), M * (LC * ((rowB B st)[arcAt (rowB B st) t]?.getD 0).toNat), u + 1)
      else wk W B g (arcW W st (arcAt (rowB B st) t)).2.1 (N * ((arcW W st (arcAt (rowB B st) t)).2.2.2 * (rowB B st).sum)) (M * (LC * ((rowB B st)[arcAt (rowB B st) t]?.getD 0).toNat)) (u + 1) ts
/-- a place of the walk: what stands there -/
theorem at_place {W : Wb} {B : Bd} (hW : WebOk W) (hB : BdOk W B) {st : Nat} (h : st < W.length) : ∃ r, W[st]? = some r ∧ B[st]? = some (rowB B st) ∧ RowOk r (rowB B st) ∧ (rowB B st).length ≤ 3 ∧ ∀ k, k < (rowB B st).length → r[k]? = some (arcW W st k) ∧ ArcOk W.length (arcW W st k) := by
  have e1 : W[st]? = some W[st] := List.getElem?_eq_getElem h
  have hb : st < B.length := by rw [hB.len]; exact h
  have e2 : B[st]? = some B[st] := List.getElem?_eq_getElem hb
  have e3 : rowB B st = B[st] := by
    unfold rowB
    rw [e2]
    rfl
  have ro := hB.row st _ _ e1 e2
  obtain ⟨w1, w2, w3⟩ := hW.row _ (List.mem_of_getElem? e1)
  refine ⟨_, e1, by rw [e3]; exact e2, by rw [e3]; exact ro, by rw [e3, ro.len]; exact w2, fun k hk => ?_⟩
  rw [e3, ro.len] at hk
  have e4 : (W[st])[k]? = some (W[st])[k] := List.getElem?_eq_getElem hk
  have e5 : arcW W st k = (W[st])[k] := by
    unfold arcW
    rw [e1]
    show ((W[st])[k]?).getD _ = _
    rw [e4]
    rfl
  rw [e5]
  exact ⟨e4, w3 _ (List.mem_of_getElem? e4)⟩
theorem sum_le {b : Int} : ∀ {l : List Int}, (∀ n ∈ l, n ≤ b) → l.sum ≤ b * (l.length : Int)
  | [], _ => by simp
  | n :: r, h => by
    rw [sum_cons', List.length_cons]
    have h1 := sum_le (l := r) fun x hx => h x (List.mem_cons_of_mem _ hx)
    have h2 := h n List.mem_cons_self
    have : b * ((r.length + 1 : Nat) : Int) = b * (r.length : Int) + b := by
      rw [show ((r.length + 1 : Nat) : Int) = (r.length : Int) + 1 by omega, Int.mul_add, Int.mul_one]
    omega
theorem row_sum {r : List Arc} {l : List Int} (h : RowOk r l) (hl : l.length ≤ 3) : l.sum ≤ 3 * BIG := by
  have := sum_le h.big
  have h3 : BIG * (l.length : Int) ≤ BIG * 3 := Int.mul_le_mul_of_nonneg_left (by omega) (by decide)
  omega
/-- how large the numbers grow -/
structure Grow (N : Int) (M : Nat) (i : Nat) : Prop where
  n : N.natAbs < 2 ^ (120 * i + 1)
  m : M < 2 ^ (120 * i + 1)
  p : 0 < M
theorem Grow.one : Grow 1 1 0 := ⟨by decide, by decide, by decide⟩
theorem Grow.step {N a s : Int} {M c i : Nat} (g : Grow N M i) (ha : a.natAbs ≤ LC) (hs : s.natAbs ≤ 3 * BIG.natAbs) (hc : c ≤ BIG.natAbs) (c0 : 0 < c) : Grow (N * (a * s)) (M * (LC * c)) (i + 1) := by
  have e : 2 ^ (120 * (i + 1) + 1) = 2 ^ (120 * i + 1) * 2 ^ 120 := by
    rw [← Nat.pow_add]
    congr 1
  refine ⟨?_, ?_, Nat.mul_pos g.p (Nat.mul_pos (by decide) c0)⟩
  · rw [e, Int.natAbs_mul]
    refine Nat.mul_lt_mul'' g.n ?_
    rw [Int.natAbs_mul]
    exact Nat.lt_of_le_of_lt (Nat.mul_le_mul ha hs) (by decide)
  · rw [e]
    refine Nat.mul_lt_mul'' g.m ?_
    exact Nat.lt_of_le_of_lt (Nat.mul_le_mul (Nat.le_refl LC) hc) (by decide)
theorem Grow.sz {f : F2} {N : Int} {M i : Nat} (g : Grow N M i) (h : Fr f N M) (hi : i ≤ 14) : Sz 1900 f := sz_up (h.sz g.n g.m) (by omega)
def ownD (f : F2) : Res → PyData
  | .inl t => .tuple [.str "bad", .int t]
  | .inr (_, _, u) => .tuple [.str "told", .tuple [dF f, .int (u : Int)]]
structure Wld (K : PySem.W.Frag) (H : Hp) (v : V) (W : Wb) (B : Bd) (g : Str) : Prop where
  dp : Dp K H v (.tuple [dWeb W, dBd B, .str g])
  web : WebOk W
  bd : BdOk W B
theorem Wld.at {K : PySem.W.Frag} {H : Hp} {v : V} {W : Wb} {B : Bd} {g : Str} (h : Wld K H v W B g) : ∃ p x y, v = .ref p ∧ SqT K H p [x, y, .str g] ∧ Dp K H x (dWeb W) ∧ Dp K H y (dBd B) := by
  obtain ⟨p, us, rfl, h1, hA⟩ := dp_tup h.dp
  obtain ⟨x0, r0, rfl, h0, hA⟩ := dpA_cons hA
  obtain ⟨x1, r1, rfl, h2, hA⟩ := dpA_cons hA
  obtain ⟨x2, r2, rfl, h3, hA⟩ := dpA_cons hA
  cases dpA_nil hA
  obtain rfl := dp_str h3
  exact ⟨p, x0, x1, rfl, h1, h0, h2⟩
theorem Wld.same {K : PySem.W.Frag} {H H' : Hp} {v : V} {W : Wb} {B : Bd} {g : Str} (s : Same H H') (h : Wld K H v W B g) : Wld K H' v W B g := ⟨dp_same s _ _ h.dp, h.web, h.bd⟩
def spOwn (K : PySem.W.Frag) : Sp := fun vs H Q _ => ∃ (v : V) (pt : Addr) (W : Wb) (B : Bd) (g : Str) (ts : List Int), vs = [v, .ref pt] ∧ Wld K H v W B g ∧ SqL K H pt (ts.map V.int) ∧ ts.length ≤ 14 ∧
  ∀ (H' : Hp) (u : V) (f : F2), Same H H' → (∀ N M n, wk W B g 0 1 1 0 ts = .inr (N, M, n) → Fr f N M) → Dp K H' u (ownD f (wk W B g 0 1 1 0 ts)) → Q u H'
section
variable {P : Program} {w : World} {K : PySem.W.Frag} {mg : Str → Option Value} {base : Heap}
set_option maxHeartbeats 0 in
theorem ok__law_own (T : Txt K mg) (D__law_frac : Kept P w K mg base 1 "_law_frac" ["n", "d"] spFrac) (D__law_times : Kept P w K mg base 2 "_law_times" ["a", "b"] (spBin K mul2)) (D__law_arc : Kept P w K mg base 1 "_law_arc" ["parts", "ticket"] (spArcAt K)) {f : Addr} {fd : FuncData} (F : FnP K "_law_own" s__law_own f fd) : FnOk P w K mg base CX0 3 f fd ["world", "tickets"] (spOwn K) := by
  refine F.ok sc__law_own (fun vs H Q E h => ?_) (fun cdv A outer s H vs Q E hr h => ?_)
  · obtain ⟨v, pt, W, B, g, ts, rfl, _⟩ := h
    rfl
  · obtain ⟨v, pt, W, B, g, ts, rfl, hw, ht, hl, q⟩ := h
    refine ⟨_, PSs.nox (pss_cons (ps_asg (pv 0) (pg_tup rfl (pgs_cons (pg_name (i := 2) sc__law_own.nd rfl (Or.inl rfl)) (pgs_cons (pg_name (i := 3) sc__law_own.nd rfl (Or.inl rfl)) (pgs_cons (pg_name (i := 4) sc__law_own.nd rfl (Or.inl rfl)) pgs_nil)))))
      (pss_cons (ps_set (i := 5) sc__law_own.nd rfl (Or.inl rfl) pe_int)
      (pss_cons (ps_set (i := 6) sc__law_own.nd rfl (Or.inl rfl) (pe_tup (pa_cons pe_int (pa_cons pe_int pa_nil))))
      (pss_cons (ps_for PassesOwn.never rfl (pi_range1 (by rfl) T.b_range (pa_cons (pe_callB call_len (by rfl) T.b_len (by decide +kernel) (pa_cons (pv 1) pa_nil)) pa_nil)) (pg_name (i := 7) sc__law_own.nd rfl (Or.inl rfl)) (pss_cons (ps_set (i := 8) sc__law_own.nd rfl (Or.inl rfl) (pe_ix ix_tup (pv 3) (pv 5) (fun _ _ => rfl)))
      (pss_cons (ps_if (PW.pt (pw_or (pt_cmpR op_lt (pe_ix ix_list (pv 1) (pv 7) (fun _ _ => rfl)) pe_int (nomark _)) (pw_or1 (pt_cmpR op_ge (pe_ix ix_list (pv 1) (pv 7) (fun _ _ => rfl)) (pe_callB (EnT.cr_sumT rfl) (by rfl) T.b_sum (by decide +kernel) (pa_cons (pv 8) pa_nil)) (nomark _))))) (pss_one (ps_ret (pe_tup (pa_cons pe_str (pa_cons (pe_ix ix_list (pv 1) (pv 7) (fun _ _ => rfl)) pa_nil))))) pss_nil)
      (pss_cons (ps_set (i := 9) sc__law_own.nd rfl (Or.inl rfl) (pe_d D__law_arc (hr.mono (by decide)) (by rfl) (pa_cons (pv 8) (pa_cons (pe_ix ix_list (pv 1) (pv 7) (fun _ _ => rfl)) pa_nil))))
      (pss_cons (ps_asg (pe_ix ix_tup (pe_ix ix_tup (pe_ix ix_tup (pv 2) pe_int (fun _ _ => rfl)) (pv 5) (fun _ _ => rfl)) (pv 9) (fun _ _ => rfl)) (pg_tup rfl (pgs_cons (pg_name (i := 10) sc__law_own.nd rfl (Or.inl rfl)) (pgs_cons (pg_name (i := 11) sc__law_own.nd rfl (Or.inl rfl)) (pgs_cons (pg_name (i := 12) sc__law_own.nd rfl (Or.inl rfl)) pgs_nil)))))
      (pss_cons (ps_set (i := 6) sc__law_own.nd rfl (Or.inl rfl) (pe_d D__law_times (hr.mono (by decide)) (by rfl) (pa_cons (pv 6) (pa_cons (pe_d D__law_frac (hr.mono (by decide)) (by rfl) (pa_cons (pe_op op_mulW (pe_ix ix_tup (pv 12) pe_int (fun _ _ => rfl)) (pe_callB (EnT.cr_sumT rfl) (by rfl) T.b_sum (by decide +kernel) (pa_cons (pv 8) pa_nil))) (pa_cons (pe_op op_mulW (pe_ix ix_tup (pv 12) pe_int (fun _ _ => rfl)) (pe_ix ix_tup (pv 8) (pv 9) (fun _ _ => rfl))) pa_nil))) pa_nil))))
      (pss_cons (ps_if (pt_cmpR op_in_seq (pv 4) (pv 10) (by rfl)) (pss_one (ps_ret (pe_tup (pa_cons pe_str (pa_cons (pe_tup (pa_cons (pv 6) (pa_cons (pe_op op_add (pv 7) pe_int) pa_nil))) pa_nil))))) pss_nil)
      (pss_one (ps_set (i := 5) sc__law_own.nd rfl (Or.inl rfl) (pv 11))))))))))
      (pss_one (ps_ret (pe_tup (pa_cons pe_str (pa_cons (pe_tup (pa_cons (pe_tup (pa_cons pe_int (pa_cons pe_int pa_nil))) (pa_cons (pe_callB call_len (by rfl) T.b_len (by decide +kernel) (pa_cons (pv 1) pa_nil)) pa_nil))) pa_nil))))))))), ?_⟩
    obtain ⟨p, x, y, rfl, hp, hx, hy⟩ := hw.at
    have hW := hw.web
    have hB := hw.bd
    obtain ⟨pb, xb, rfl, hpb, hAb⟩ := dp_tup hy
    obtain ⟨pw, pq, xq, rfl, hpw, hpq, hAq⟩ := web_at hx
    refine ⟨_, rfl, p, _, rfl, hp, rfl, _, _, rfl, _, _, rfl, _, _, rfl, rfl, ?_⟩
    refine ⟨z2, fun p1 h1 => ?_⟩
    obtain ⟨s1, d1⟩ := new_tup (K := K) (xs := [V.int 1, V.int 1]) (ds := [.int 1, .int 1]) h1 (.cons (.int _) (.cons (.int _) .nil))
    have d1 : Dp K (upd H p1 (.tup [V.int 1, V.int 1])) (.ref p1) (dF (1, 1)) := d1
    generalize upd H p1 (.tup [V.int 1, V.int 1]) = H1 at s1 d1
    refine ⟨_, rfl, _, _, rfl, .inl ⟨_, same_l s1 ht, rfl⟩, _, rfl, by rw [List.length_map]; omega, by rw [List.length_map]; omega, for_range (lo := 0) (n := (ts.map V.int).length) (fun i σ H' => ∃ (st M : Nat) (N : Int) (f : F2) (c : Addr) (y7 y8 y9 y10 y11 y12 : Option V), σ = [some (.ref p), some (.ref pt), some (.ref pw), some (.ref pb), some (.str g), some (.int (st : Int)), some (.ref c), y7, y8, y9, y10, y11, y12] ∧ Same H H' ∧ wk W B g 0 1 1 0 ts = wk W B g st N M i (ts.drop i) ∧ st < W.length ∧ Dp K H' (.ref c) (dF f) ∧ Fr f N M ∧ Grow N M i) ⟨0, 1, 1, (1, 1), p1, _, _, _, _, _, _, rfl, s1, by rw [List.drop_zero], hW.pos, d1, Fr.one, Grow.one⟩ ?_ ?_⟩
    · rintro i σ H2 hi ⟨st, M, N, f, c, y7, y8, y9, y10, y11, y12, rfl, s2, ew, hst, dc, hf, hg⟩
      rw [List.length_map] at hi
      have et : ts[i]? = some ts[i] := List.getElem?_eq_getElem hi
      have ed : ts.drop i = ts[i] :: ts.drop (i + 1) := List.drop_eq_getElem_cons hi
      generalize ts[i] = t at et ed
      have etV : atI (ts.map V.int) ((0 : Int) + (i : Int)) = some (.int t) := by
        rw [Int.zero_add]
        exact atI_nat (by rw [List.getElem?_map, et]; rfl)
      obtain ⟨r, eW, eB, ro, l3, ak⟩ := at_place hW hB hst
      obtain ⟨vl, hvl, dl⟩ := dpA_get hAb eB
      obtain ⟨pl, rfl, hpl⟩ := i_at dl
      obtain ⟨vr, hvr, dr⟩ := dpA_get hAq eW
      obtain ⟨pr, xr, rfl, hpr, hAr⟩ := dp_tup dr
      have ht2 := same_l s2 ht
      have hpl2 := same_t s2 hpl
      have wkbad : (t < 0 ∨ (rowB B st).sum ≤ t) → wk W B g 0 1 1 0 ts = .inl t := fun h => by
        rw [ew, ed]
        show (if t < 0 ∨ (rowB B st).sum ≤ t then _ else _) = _
        rw [if_pos h]
      have bad : (t < 0 ∨ (rowB B st).sum ≤ t) → ∀ p9, H2 p9 = none → Q (.ref p9) (upd H2 p9 (.tup [.str "bad", .int t])) := fun h p9 h9 => by
        obtain ⟨s9, d9⟩ := new_tup (K := K) (xs := [V.str "bad", V.int t]) (ds := [.str "bad", .int t]) h9 (.cons (.str _) (.cons (.int _) .nil))
        refine q _ _ (0, 1) (s2.trans s9) (fun N M n e => ?_) ?_
        · rw [wkbad h] at e
          cases e
        · rw [wkbad h]
          exact d9
      generalize hlb : rowB B st = l at *
      refine ⟨_, rfl, _, rfl, pb, _, _, _, rfl, rfl, same_t s2 hpb, atI_nat hvl, ?_⟩
      refine ⟨_, rfl, _, rfl, pt, _, _, _, rfl, rfl, ht2, etV, _, _, rfl, rfl, _, rfl, ite2 (fun e => ite2 (fun _ => ?_) (fun h => absurd rfl h)) (fun e1 => ?_)⟩
      · have e : decide (t < 0) = true := e
        exact ⟨_, rfl, _, rfl, pt, _, _, _, rfl, rfl, ht2, etV, z2, bad (.inl (of_decide_eq_true e))⟩
      refine ⟨_, rfl, _, rfl, pt, _, _, _, rfl, rfl, ht2, etV, _, rfl, pl, _, rfl, hpl2, _, _, rfl, rfl, _, rfl, ite2 (fun e => ?_) (fun e2 => ?_)⟩
      · have e : decide (l.sum ≤ t) = true := e
        exact ⟨_, rfl, _, rfl, pt, _, _, _, rfl, rfl, ht2, etV, z2, bad (.inr (of_decide_eq_true e))⟩
      have t0 : 0 ≤ t := by
        have : ¬ t < 0 := fun z => e1 (decide_eq_true z)
        omega
      have t1 : t < l.sum := by
        have : ¬ l.sum ≤ t := fun z => e2 (decide_eq_true z)
        omega
      clear e1 e2 bad wkbad
      have klt := arcAt_lt ro.nn t0 t1
      obtain ⟨num, en, n0, _, _⟩ := arcAt_ok ro.nn t0 t1
      obtain ⟨era, aok⟩ := ak _ klt
      obtain ⟨va, hva, da⟩ := dpA_get hAr era
      obtain ⟨pa, x0, x2, rfl, hpa, dsh, dfr⟩ := arc_at da
      obtain ⟨px, rfl, hpx⟩ := sh_at dsh
      obtain ⟨p2, rfl, hp2⟩ := f_at dfr
      refine ⟨_, rfl, _, rfl, _, rfl, pt, _, _, _, rfl, rfl, ht2, etV, pl, l, t, rfl, hpl2, by omega, ro.nn, t0, t1, fun H3 s3 => ?_⟩
      have s3 := s2.trans s3
      refine ⟨_, rfl, pw, _, _, _, rfl, rfl, same_t s3 hpw, atI_nat (j := 1) rfl, _, rfl, pq, _, _, _, rfl, rfl, same_t s3 hpq, atI_nat hvr, _, rfl, pr, _, _, _, rfl, rfl, same_t s3 hpr, atI_nat hva, pa, _, rfl, same_t s3 hpa, rfl, _, _, rfl, _, _, rfl, _, _, rfl, rfl, ?_⟩
      generalize harc : arcW W st (arcAt l t) = arc at *
      obtain ⟨ss, to, f2, sh⟩ := arc
      have aT : to < W.length := aok.to
      have aF : Fr f2 sh LC := aok.fr
      have aL : 0 ≤ sh := aok.lo
      have aH : sh ≤ LC := aok.hi
      have big := ro.big num (List.mem_of_getElem? en)
      have lsum := row_sum ro l3
      have l0 := ro.pos
      have c1 : sh.natAbs ≤ LC := by omega
      have c2 : l.sum.natAbs ≤ 3 * BIG.natAbs := by
        have : (BIG : Int).natAbs = (BIG : Int) := rfl
        omega
      have c3 : num.toNat ≤ BIG.natAbs := by
        have : (BIG : Int).natAbs = (BIG : Int) := rfl
        omega
      have z15 : Sz 15 f2 := aF.sz (Nat.lt_of_le_of_lt c1 (by decide)) (by decide)
      have zs : l.sum.natAbs < 2 ^ 103 := Nat.lt_of_le_of_lt c2 (by decide)
      have zn : num.natAbs < 2 ^ 103 := Nat.lt_of_le_of_lt (show num.natAbs ≤ BIG.natAbs by have : (BIG : Int).natAbs = (BIG : Int) := rfl; omega) (by decide)
      have zx : Sz 118 (f2.1 * l.sum, f2.2 * num) := ⟨sz_mul z15.1 zs, sz_mul z15.2 zn⟩
      have dne : f2.2 * num ≠ 0 := fun z => by
        have := aF.low.pos
        rcases Int.mul_eq_zero.mp z with h | h
        · omega
        · omega
      have fq : Fr (fr (f2.1 * l.sum) (f2.2 * num)) (sh * l.sum) (LC * num.toNat) := by
        refine Fr.of (x := (f2.1 * l.sum, f2.2 * num)) dne ?_ (Nat.mul_pos (by decide) (by omega))
        have e1 := aF.eq
        show (f2.1 * l.sum) * ((LC * num.toNat : Nat) : Int) = (sh * l.sum) * (f2.2 * num)
        rw [Int.natCast_mul, Int.toNat_of_nonneg (by omega)]
        grind
      have hp23 := same_t s3 hp2
      have hpl3 := same_t s3 hpl
      obtain ⟨c', ec, hc⟩ := f_at dc
      cases ec
      have s23 : Same H2 H3 := ‹Same H2 H3›
      refine ⟨_, rfl, _, rfl, p2, _, _, _, rfl, rfl, hp23, atI_nat (j := 0) rfl, _, rfl, pl, _, rfl, hpl3, _, _, rfl, rfl, wide_mul z15.1 zs (by decide) (by decide) (by decide), _, rfl, p2, _, _, _, rfl, rfl, hp23, atI_nat (j := 1) rfl, _, rfl, _, rfl, pl, _, _, _, rfl, rfl, hpl3, atI_nat (by rw [List.getElem?_map, en]; rfl), _, _, rfl, rfl, wide_mul z15.2 zn (by decide) (by decide) (by decide), _, _, rfl, dne, sz_up zx (by decide), fun r1 hr1 => ?_⟩
      have t3 := same_new (o := tupF (fr (f2.1 * l.sum) (f2.2 * num))) hr1
      have hr1' := upd_same (H := H3) (a := r1) (o := tupF (fr (f2.1 * l.sum) (f2.2 * num)))
      generalize upd H3 r1 (tupF (fr (f2.1 * l.sum) (f2.2 * num))) = H4 at t3 hr1'
      have nf := Fr.mul hf fq
      refine ⟨c, r1, f, _, rfl, same_t (s23.trans t3) hc, SqT.of hr1', hg.sz hf (by omega), sz_up (fr_sz zx) (by decide), mul2_ne hf.low fq.low, fun r2 hr2 => ?_⟩
      have t4 := same_new (o := tupF (frp (mul2 f (fr (f2.1 * l.sum) (f2.2 * num))))) hr2
      have dn : Dp K (upd H4 r2 (tupF (frp (mul2 f (fr (f2.1 * l.sum) (f2.2 * num)))))) (.ref r2) (dF (frp (mul2 f (fr (f2.1 * l.sum) (f2.2 * num))))) := dp_F (SqT.of upd_same)
      have s5 := s3.trans (t3.trans t4)
      generalize upd H4 r2 (tupF (frp (mul2 f (fr (f2.1 * l.sum) (f2.2 * num))))) = H5 at dn s5
      have en' : (l[arcAt l t]?.getD 0).toNat = num.toNat := by rw [en]; rfl
      have ng := hg.step c1 c2 c3 (by omega)
      have wkgo : wk W B g 0 1 1 0 ts = if g ∈ ss then .inr (N * (sh * l.sum), M * (LC * num.toNat), i + 1) else wk W B g to (N * (sh * l.sum)) (M * (LC * num.toNat)) (i + 1) (ts.drop (i + 1)) := by
        rw [ew, ed]
        show (if t < 0 ∨ (rowB B st).sum ≤ t then _ else _) = _
        rw [hlb, if_neg (by omega), en', harc]
      refine ⟨_, rfl, _, rfl, px, _, rfl, .inr (same_t s5 hpx), rfl, flat_strs _, ?_⟩
      rw [inV_str]
      refine ⟨_, rfl, ite2 (fun e => ?_) (fun e => ?_)⟩
      · have e : decide (g ∈ ss) = true := e
        rw [if_pos (of_decide_eq_true e)] at wkgo
        refine ⟨_, rfl, _, rfl, _, _, rfl, rfl, z2, fun p8 h8 => ⟨z2, fun p9 h9 => ?_⟩⟩
        obtain ⟨s8, d8⟩ := new_tup (K := K) (xs := [.ref r2, V.int (0 + (i : Int) + 1)]) (ds := [dF (frp (mul2 f (fr (f2.1 * l.sum) (f2.2 * num)))), .int (0 + (i : Int) + 1)]) h8 (.cons dn (.cons (.int _) .nil))
        obtain ⟨s9, d9⟩ := new_tup (K := K) (xs := [V.str "told", .ref p8]) (ds := [.str "told", .tuple [dF (frp (mul2 f (fr (f2.1 * l.sum) (f2.2 * num)))), .int (0 + (i : Int) + 1)]]) h9 (.cons (.str _) (.cons d8 .nil))
        refine q _ _ (frp (mul2 f (fr (f2.1 * l.sum) (f2.2 * num)))) (s5.trans (s8.trans s9)) (fun N' M' n e => ?_) ?_
        · rw [wkgo] at e
          cases e
          exact nf
        · rw [wkgo]
          show Dp K _ _ (.tuple [.str "told", .tuple [dF _, .int ((i + 1 : Nat) : Int)]])
          rw [show ((i + 1 : Nat) : Int) = 0 + (i : Int) + 1 by omega]
          exact d9
      · have e : ¬ g ∈ ss := fun z => e (decide_eq_true z)
        rw [if_neg e] at wkgo
        exact ⟨_, rfl, to, _, _, _, r2, _, _, _, _, _, _, rfl, s5, wkgo, aT, dn, nf, ng⟩
    · rintro σ H2 ⟨st, M, N, f, c, y7, y8, y9, y10, y11, y12, rfl, s2, ew, hst, dc, hf, hg⟩
      rw [List.length_map, List.drop_length] at ew
      have ew : wk W B g 0 1 1 0 ts = .inr (0, 1, ts.length) := ew
      refine ⟨z2, fun p7 h7 => ?_⟩
      obtain ⟨s7, d7⟩ := new_tup (K := K) (xs := [V.int 0, V.int 1]) (ds := [.int 0, .int 1]) h7 (.cons (.int _) (.cons (.int _) .nil))
      have d7 : Dp K (upd H2 p7 (.tup [V.int 0, V.int 1])) (.ref p7) (dF (0, 1)) := d7
      generalize upd H2 p7 (.tup [V.int 0, V.int 1]) = H7 at s7 d7
      have s7 := s2.trans s7
      refine ⟨_, rfl, _, _, rfl, .inl ⟨_, same_l s7 ht, rfl⟩, z2, fun p8 h8 => ⟨z2, fun p9 h9 => ?_⟩⟩
      obtain ⟨s8, d8⟩ := new_tup (K := K) (xs := [.ref p7, V.int ((ts.map V.int).length : Nat)]) (ds := [dF (0, 1), .int (((ts.map V.int).length : Nat) : Int)]) h8 (.cons d7 (.cons (.int _) .nil))
      obtain ⟨s9, d9⟩ := new_tup (K := K) (xs := [V.str "told", .ref p8]) (ds := [.str "told", .tuple [dF (0, 1), .int (((ts.map V.int).length : Nat) : Int)]]) h9 (.cons (.str _) (.cons d8 .nil))
      refine q _ _ (0, 1) (s7.trans (s8.trans s9)) (fun N' M' n e => ?_) ?_
      · rw [ew] at e
        cases e
        exact Fr.zero (by decide)
      · rw [ew]
        have e7 : (((ts.map V.int).length : Nat) : Int) = (ts.length : Int) := by rw [List.length_map]
        show Dp K _ _ (.tuple [.str "told", .tuple [dF (0, 1), .int (ts.length : Int)]])
        rw [← e7]
        exact d9
end
end Mt
namespace Mt
open PySem PySem.Spec PyProof.Rows L2
abbrev s_bn : Stmt := inClass (topS 4) 0
/-! ### the error BadNumber -/
theorem sc_bn : NdefX.NScope ["self", "value", "__class__"] ["self", "value"] ["__class__"] (defScope s_bn) := NdefX.nscope_by (by decide +kernel)
def spInit (K : PySem.W.Frag) (C : Addr) : Sp := fun vs H Q _ => ∃ (a : Addr) (t : Int), vs = [.ref a, .int t] ∧ H a = some (exo a C none) ∧ t.natAbs < 2 ^ 1000 ∧ ∀ dx, H dx = none → dx ≠ a → Q .non (upd (upd H dx (exd dx [("value", .int t)])) a (exo a C (some dx)))
theorem log_lt {n : Nat} (h : n < 2 ^ 1000) : n.log2 < 1920 := by
  by_cases h0 : n = 0
  · rw [h0]
    decide
  · have := (Nat.log2_lt h0).mpr h
    omega
theorem len_dig {i : Int} (h : i.natAbs < 2 ^ 1000) : (Str.ofString (toString i)).length ≤ 2000 := by
  have := int_text_length_le (k := 1920) (by decide) (log_lt h)
  rw [PySem.ofString_length]
  omega
section
variable {P : Program} {w : World} {K : PySem.W.Frag} {mg : Str → Option Value} {base : Heap} {CX : CXT}
theorem ok_bn {f C : Addr} {F : NdefX.NF} {doc pm ctv : Value} (hpar : F.params = defArgs s_bn) (hbod : F.body = defBody s_bn) (hsc : F.scope = defScope s_bn) (X : EXS.SupD P K mg f C F doc pm ctv) (T : OexC K C)
    (hv : PySem.W.findIn K (.ref C) "value" = some none) (hs : mg "super" = none) (htop : (P.main.scope.names.lookup ("super" : Str)).isSome = false) : FnOk P w K mg base CX 1 f (F.fd doc pm ctv) ["self", "value"] (spInit K C) := by
  obtain ⟨n, q, pr, bd, sc, cl, c⟩ := F
  dsimp only at hpar hbod hsc
  subst hpar hbod hsc
  refine EXS.fn_sup (k := 0) X T hs (by rfl) htop sc_bn ⟨_, rfl⟩ (by rfl) (by rfl) (fun vs H Q E h => ?_) (fun A outer s H vs Q E hr h => ?_)
  · obtain ⟨a, t, rfl, _⟩ := h
    rfl
  · obtain ⟨a, t, rfl, ha, ht, q⟩ := h
    refine ⟨a, _, _, _, rfl, ha, pa_cons (pe_joined (.cons (pe_fmt (pv 1)) (.cons pe_str .nil))) pa_nil, pss_one (ps_ost (pv 0) (pv 1)), ?_⟩
    have l1 := len_dig ht
    have l2 : (" is out of its bounds" : Str).length = 21 := by decide +kernel
    refine ⟨_, rfl, .inr ⟨t, rfl, log_lt ht, _, rfl, ?_, _, rfl, ?_, (show (1 : Nat) ≤ 1000 by decide), ha, _, rfl, _, rfl, a, C, rfl, T, hv, .inl ⟨ha, q⟩⟩⟩
    · rw [strLen_append, show (Str.empty : Str).length = 0 from rfl, sizeLine_eq]
      omega
    · rw [strLen_append, strLen_append, show (Str.empty : Str).length = 0 from rfl, sizeLine_eq]
      omega
end
end Mt
namespace Mt
open PySem PySem.Spec PyProof.Rows L2
/-! ### the walk itself -/
structure BnX (P : Program) (w : World) (K : PySem.W.Frag) (mg : Str → Option Value) (base : Heap) (C fI : Addr) (fdI : FuncData) : Prop where
  mgC : mg "BadNumber" = some (.ref C)
  T_ : OexC K C
  iC : PySem.W.findIn K (.ref C) "__init__" = some (some (.ref fI))
  tI : PySem.W.typeIn K (.ref fI) = some (.type "function")
  F1 : FnOk P w K mg base CX0 1 fI fdI ["self", "value"] (spInit K C)
  bI : Binds K fdI ["self", "value"] []
def spWalk (K : PySem.W.Frag) (C : Addr) : Sp := fun vs H Q E => ∃ (x y : V) (g : Str) (pt : Addr) (W : Wb) (B : Bd) (ts : List Int), vs = [x, y, .str g, .ref pt] ∧ Dp K H x (dWeb W) ∧ Dp K H y (dBd B) ∧ WebOk W ∧ BdOk W B ∧ SqT K H pt (ts.map V.int) ∧ ts.length ≤ 14 ∧ (∀ t ∈ ts, t.natAbs < 2 ^ 1000) ∧
  (∀ (H' : Hp) (u : V) (f : F2) (N : Int) (M n : Nat), Same H H' → wk W B g 0 1 1 0 ts = .inr (N, M, n) → Fr f N M → Dp K H' u (.tuple [dF f, .int (n : Int)]) → Q u H') ∧
  (∀ (H' : Hp) (d : Addr) (t : Int), Same H H' → wk W B g 0 1 1 0 ts = .inl t → H' d = some (.xd [("value", .int t)]) → E (.ref C) (some d) H')
theorem same_xd {H : Hp} {a dx C : Addr} {o : HO} {fs : List (Str × V)} (ha : H a = none) (hd : upd H a o dx = none) : Same H (upd (del (upd (upd (upd H a o) dx (exd dx fs)) a (exo a C (some dx))) a) dx (.xd fs)) := fun b o' hb => by
  have nb : b ≠ a := fun z => by
    rw [z, ha] at hb
    cases hb
  have nd : b ≠ dx := fun z => by
    rw [← z, upd_ne nb, hb] at hd
    cases hd
  rw [upd_ne nd, del_ne nb, upd_ne nb, upd_ne nd, upd_ne nb]
  exact hb
section
variable {P : Program} {w : World} {K : PySem.W.Frag} {mg : Str → Option Value} {base : Heap}
set_option maxHeartbeats 0 in
theorem ok_bent_walk (T : Txt K mg) {C fI : Addr} {fdI : FuncData} (Bn : BnX P w K mg base C fI fdI) (D_make_fraction : Kept P w K mg base 1 "make_fraction" ["n", "d"] spFrac) (D_product_of : Kept P w K mg base 2 "product_of" ["a", "b"] (spBin K mul2)) (D_quotient_of : Kept P w K mg base 2 "quotient_of" ["a", "b"] (spBin K div2)) (D_arc_at : Kept P w K mg base 1 "arc_at" ["numbers", "ticket"] (spArcAt K))
    {f : Addr} {fd : FuncData} (F : FnP K "bent_walk" s_bent_walk f fd) : FnOk P w K mg base (L2N.CX P w) 3 f fd ["web", "bend", "goal", "tickets"] (spWalk K C) := by
  refine F.ok (CX := L2N.CX P w) sc_bent_walk (fun vs H Q E h => ?_) (fun cdv A outer s H vs Q E hr h => ?_)
  · obtain ⟨x, y, g, pt, W, B, ts, rfl, _⟩ := h
    rfl
  · obtain ⟨x, y, g, pt, W, B, ts, rfl, hx, hy, hW, hB, ht, hl, tb, q, qe⟩ := h
    refine ⟨_, (pss_cons (ps_set (i := 4) sc_bent_walk.nd rfl (Or.inl rfl) pe_int)
      (pss_cons (ps_set (i := 5) sc_bent_walk.nd rfl (Or.inl rfl) (pe_tup (pa_cons pe_int (pa_cons pe_int pa_nil))))
      (pss_cons (ps_for (passes_of rfl) rfl (EnT.pi_enumT (by rfl) T.b_enumerate (pa_cons (pv 3) pa_nil)) (pg_tup rfl (pgs_cons (pg_name (i := 6) sc_bent_walk.nd rfl (Or.inl rfl)) (pgs_cons (pg_name (i := 7) sc_bent_walk.nd rfl (Or.inl rfl)) pgs_nil))) (pss_cons (ps_set (i := 8) sc_bent_walk.nd rfl (Or.inl rfl) (pe_ix ix_tup (pv 1) (pv 4) (fun _ _ => rfl)))
      (pss_cons (ps_if (pt_not (pt_chain op_le op_lt pe_int (pv 7) (pe_callB (EnT.cr_sumT rfl) (by rfl) T.b_sum (by decide +kernel) (pa_cons (pv 8) pa_nil)))) (pss_one (L2N.ps_raise rfl (L2N.takes_of rfl rfl rfl rfl) (EXS.pmkN_oex Bn.T_ Bn.iC Bn.tI Bn.F1 (hr.mono (by decide)) Bn.bI pass0 (by rfl) Bn.mgC (pa_cons (pv 7) pa_nil)))) pss_nil)
      (pss_cons (ps_set (i := 9) sc_bent_walk.nd rfl (Or.inl rfl) (pe_d D_arc_at (hr.mono (by decide)) (by rfl) (pa_cons (pv 8) (pa_cons (pv 7) pa_nil))))
      (pss_cons (ps_asg (pe_ix ix_tup (pe_ix ix_tup (pe_ix ix_tup (pv 0) pe_int (fun _ _ => rfl)) (pv 4) (fun _ _ => rfl)) (pv 9) (fun _ _ => rfl)) (pg_tup rfl (pgs_cons (pg_name (i := 10) sc_bent_walk.nd rfl (Or.inl rfl)) (pgs_cons (pg_name (i := 11) sc_bent_walk.nd rfl (Or.inl rfl)) (pgs_cons (pg_name (i := 12) sc_bent_walk.nd rfl (Or.inl rfl)) pgs_nil)))))
      (pss_cons (ps_set (i := 5) sc_bent_walk.nd rfl (Or.inl rfl) (pe_d D_product_of (hr.mono (by decide)) (by rfl) (pa_cons (pv 5) (pa_cons (pe_d D_quotient_of (hr.mono (by decide)) (by rfl) (pa_cons (pv 12) (pa_cons (pe_d D_make_fraction (hr.mono (by decide)) (by rfl) (pa_cons (pe_ix ix_tup (pv 8) (pv 9) (fun _ _ => rfl)) (pa_cons (pe_callB (EnT.cr_sumT rfl) (by rfl) T.b_sum (by decide +kernel) (pa_cons (pv 8) pa_nil)) pa_nil))) pa_nil))) pa_nil))))
      (pss_cons (ps_if (pt_cmpR op_in_seq (pv 2) (pv 10) (by rfl)) (pss_one (ps_ret (pe_tup (pa_cons (pv 5) (pa_cons (pe_op op_add (pv 6) pe_int) pa_nil))))) pss_nil)
      (pss_one (ps_set (i := 4) sc_bent_walk.nd rfl (Or.inl rfl) (pv 11))))))))))
      (pss_one (ps_ret (pe_tup (pa_cons (pe_tup (pa_cons pe_int (pa_cons pe_int pa_nil))) (pa_cons (pe_callB call_len (by rfl) T.b_len (by decide +kernel) (pa_cons (pv 3) pa_nil)) pa_nil)))))))), ?_⟩
    obtain ⟨pb, xb, rfl, hpb, hAb⟩ := dp_tup hy
    obtain ⟨pw, pq, xq, rfl, hpw, hpq, hAq⟩ := web_at hx
    refine ⟨z2, fun p1 h1 => ?_⟩
    obtain ⟨s1, d1⟩ := new_tup (K := K) (xs := [V.int 1, V.int 1]) (ds := [.int 1, .int 1]) h1 (.cons (.int _) (.cons (.int _) .nil))
    have d1 : Dp K (upd H p1 (.tup [V.int 1, V.int 1])) (.ref p1) (dF (1, 1)) := d1
    generalize upd H p1 (.tup [V.int 1, V.int 1]) = H1 at s1 d1
    refine ⟨_, rfl, pt, _, rfl, same_t s1 ht, for_it EnT.walk_enumT (fun i σ H' => ∃ (st M : Nat) (N : Int) (f : F2) (c : Addr) (y6 y7 y8 y9 y10 y11 y12 : Option V), σ = [some (.ref pw), some (.ref pb), some (.str g), some (.ref pt), some (.int (st : Int)), some (.ref c), y6, y7, y8, y9, y10, y11, y12] ∧ Same H H' ∧ wk W B g 0 1 1 0 ts = wk W B g st N M i (ts.drop i) ∧ st < W.length ∧ Dp K H' (.ref c) (dF f) ∧ Fr f N M ∧ Grow N M i) ⟨0, 1, 1, (1, 1), p1, _, _, _, _, _, _, _, rfl, s1, by rw [List.drop_zero], hW.pos, d1, Fr.one, Grow.one⟩ (fun i σ H' _ ⟨_, _, _, _, _, _, _, _, _, _, _, _, _, s, _⟩ => same_t s ht) ?_ ?_⟩
    · rintro i z σ H2' H2 hi ⟨st, M, N, f, c, y6, y7, y8, y9, y10, y11, y12, rfl, s2, ew, hst, dc, hf, hg⟩ ⟨T', a', y', rfl, hT, rfl, ha', hb'⟩
      obtain rfl := Option.some.inj ha'
      rw [List.length_map] at hi
      have et : ts[i]? = some ts[i] := List.getElem?_eq_getElem hi
      have ed : ts.drop i = ts[i] :: ts.drop (i + 1) := List.drop_eq_getElem_cons hi
      have tbt := tb _ (List.getElem_mem hi)
      generalize ts[i] = t at et ed tbt
      have eb : y' = .int t := by
        have hb' : (ts.map V.int)[i]? = some y' := hb'
        rw [List.getElem?_map, et] at hb'
        exact (Option.some.inj hb').symm
      subst eb
      refine ⟨T', _, rfl, SqT.of upd_same, ?_⟩
      have s2 := s2.trans (same_new (o := .tup [V.int (i : Int), .int t]) hT)
      have dc := dp_same (same_new (o := .tup [V.int (i : Int), .int t]) hT) _ _ dc
      generalize upd H2' T' (.tup [V.int (i : Int), .int t]) = H2 at s2 dc
      obtain ⟨r, eW, eB, ro, l3, ak⟩ := at_place hW hB hst
      obtain ⟨vl, hvl, dl⟩ := dpA_get hAb eB
      obtain ⟨pl, rfl, hpl⟩ := i_at dl
      obtain ⟨vr, hvr, dr⟩ := dpA_get hAq eW
      obtain ⟨pr, xr, rfl, hpr, hAr⟩ := dp_tup dr
      have hpl2 := same_t s2 hpl
      have bad : (t < 0 ∨ (rowB B st).sum ≤ t) → ∀ a, H2 a = none → ∀ dx, upd H2 a (exo a C none) dx = none → dx ≠ a → E (.ref C) (some dx) (upd (del (upd (upd (upd H2 a (exo a C none)) dx (exd dx [("value", .int t)])) a (exo a C (some dx))) a) dx (.xd [("value", .int t)])) := fun h a h9 dx hdx nd => by
        refine qe _ _ t (s2.trans (same_xd h9 hdx)) ?_ upd_same
        rw [ew, ed]
        show (if t < 0 ∨ (rowB B st).sum ≤ t then _ else _) = _
        rw [if_pos h]
      generalize hlb : rowB B st = l at *
      refine ⟨rfl, _, _, rfl, _, _, rfl, rfl, _, rfl, _, rfl, pb, _, _, _, rfl, rfl, same_t s2 hpb, atI_nat hvl, ?_⟩
      have raise : (t < 0 ∨ l.sum ≤ t) → ∀ σ', σ'[7]? = some (some (V.int t)) → tMkO C (spInit K C) [] (tCons (tVar 7) tNil) σ' H2 fun cls d H' => E cls d H' := fun h σ' e7 => by
        refine ⟨_, e7, (show (1 : Nat) ≤ 1000 by decide), fun a h9 => ?_⟩
        refine ⟨a, t, rfl, upd_same, tbt, fun dx hdx nd => ⟨rfl, dx, [("value", .int t)], ?_, ?_, ?_, ?_⟩⟩
        · exact upd_same
        · rw [upd_ne nd]
          exact upd_same
        · rw [← hdx, upd_ne nd]
        · exact bad h a h9 dx hdx nd
      refine ⟨_, rfl, _, _, rfl, rfl, _, rfl, ite2 (fun e1 => ?_) (fun e => ?_)⟩
      rotate_left
      · have e : ¬ decide ((0 : Int) ≤ t) = true := e
        have e : ¬ (0 : Int) ≤ t := fun z => e (decide_eq_true z)
        exact ⟨_, rfl, raise (.inl (by omega)) _ rfl⟩
      have t0 : 0 ≤ t := of_decide_eq_true e1
      refine ⟨_, rfl, pl, l, rfl, hpl2, _, _, rfl, rfl, _, rfl, ite2 (fun e2 => ?_) (fun e2 => ?_)⟩
      · have e2 : (!decide (t < l.sum)) = true := e2
        have e2 : ¬ t < l.sum := fun z => by
          rw [decide_eq_true z] at e2
          cases e2
        exact raise (.inr (by omega)) _ rfl
      have t1 : t < l.sum := by
        have e2 : ¬ (!decide (t < l.sum)) = true := e2
        by_cases z : t < l.sum
        · exact z
        · rw [decide_eq_false z] at e2
          exact absurd rfl e2
      clear e1 e2 bad raise
      have klt := arcAt_lt ro.nn t0 t1
      obtain ⟨num, en, n0, _, _⟩ := arcAt_ok ro.nn t0 t1
      obtain ⟨era, aok⟩ := ak _ klt
      obtain ⟨va, hva, da⟩ := dpA_get hAr era
      obtain ⟨pa, x0, x2, rfl, hpa, dsh, dfr⟩ := arc_at da
      obtain ⟨px, rfl, hpx⟩ := sh_at dsh
      obtain ⟨p2, rfl, hp2⟩ := f_at dfr
      refine ⟨_, rfl, _, rfl, pl, l, t, rfl, hpl2, by omega, ro.nn, t0, t1, fun H3 s3 => ?_⟩
      have s23 : Same H2 H3 := s3
      have s3 := s2.trans s3
      refine ⟨_, rfl, pw, _, _, _, rfl, rfl, same_t s3 hpw, atI_nat (j := 1) rfl, _, rfl, pq, _, _, _, rfl, rfl, same_t s3 hpq, atI_nat hvr, _, rfl, pr, _, _, _, rfl, rfl, same_t s3 hpr, atI_nat hva, pa, _, rfl, same_t s3 hpa, rfl, _, _, rfl, _, _, rfl, _, _, rfl, rfl, ?_⟩
      generalize harc : arcW W st (arcAt l t) = arc at *
      obtain ⟨ss, to, f2, sh⟩ := arc
      have aT : to < W.length := aok.to
      have aF : Fr f2 sh LC := aok.fr
      have aL : 0 ≤ sh := aok.lo
      have aH : sh ≤ LC := aok.hi
      have big := ro.big num (List.mem_of_getElem? en)
      have lsum := row_sum ro l3
      have l0 := ro.pos
      have c1 : sh.natAbs ≤ LC := by omega
      have c2 : l.sum.natAbs ≤ 3 * BIG.natAbs := by
        have : (BIG : Int).natAbs = (BIG : Int) := rfl
        omega
      have c3 : num.toNat ≤ BIG.natAbs := by
        have : (BIG : Int).natAbs = (BIG : Int) := rfl
        omega
      have zs : l.sum.natAbs < 2 ^ 103 := Nat.lt_of_le_of_lt c2 (by decide)
      have zn : num.natAbs < 2 ^ 103 := Nat.lt_of_le_of_lt (show num.natAbs ≤ BIG.natAbs by have : (BIG : Int).natAbs = (BIG : Int) := rfl; omega) (by decide)
      have z15 : Sz 15 f2 := aF.sz (Nat.lt_of_le_of_lt c1 (by decide)) (by decide)
      have hp23 := same_t s3 hp2
      have hpl3 := same_t s3 hpl
      obtain ⟨c', ec, hc⟩ := f_at dc
      cases ec
      refine ⟨_, rfl, _, rfl, _, rfl, _, rfl, pl, _, _, _, rfl, rfl, hpl3, atI_nat (by rw [List.getElem?_map, en]; rfl), ?_⟩
      have l0' : l.sum ≠ 0 := by omega
      have fb : Fr (fr num l.sum) num l.sum.toNat := Fr.frac (by omega)
      have zb : Sz 103 (num, l.sum) := ⟨zn, zs⟩
      refine ⟨_, rfl, pl, l, rfl, hpl3, num, l.sum, rfl, l0', sz_up zb (by decide), fun r1 hr1 => ?_⟩
      have t3 := same_new (o := tupF (fr num l.sum)) hr1
      have hr1' := upd_same (H := H3) (a := r1) (o := tupF (fr num l.sum))
      generalize upd H3 r1 (tupF (fr num l.sum)) = H4 at t3 hr1'
      obtain ⟨fqd, nqd⟩ := Fr.div aF fb n0
      have zq : Sz 120 (frp (div2 f2 (fr num l.sum))) := fr_sz (show Sz 120 (div2 f2 (fr num l.sum)) from ⟨n_up (sz_mul z15.1 (fr_sz zb).2) (by decide), n_up (sz_mul z15.2 (fr_sz zb).1) (by decide)⟩)
      refine ⟨p2, r1, f2, fr num l.sum, rfl, same_t t3 hp23, SqT.of hr1', sz_up z15 (by decide), sz_up (fr_sz zb) (by decide), nqd, fun r3 hr3 => ?_⟩
      have t5 := same_new (o := tupF (frp (div2 f2 (fr num l.sum)))) hr3
      have hr3' := upd_same (H := H4) (a := r3) (o := tupF (frp (div2 f2 (fr num l.sum))))
      generalize upd H4 r3 (tupF (frp (div2 f2 (fr num l.sum)))) = H5 at t5 hr3'
      rw [Int.toNat_of_nonneg (by omega)] at fqd
      generalize frp (div2 f2 (fr num l.sum)) = qq at *
      have nf := Fr.mul hf fqd
      refine ⟨c, r3, f, qq, rfl, same_t (s23.trans (t3.trans t5)) hc, SqT.of hr3', hg.sz hf (by omega), sz_up zq (by decide), mul2_ne hf.low fqd.low, fun r2 hr2 => ?_⟩
      have t4 := same_new (o := tupF (frp (mul2 f qq))) hr2
      have dn : Dp K (upd H5 r2 (tupF (frp (mul2 f qq)))) (.ref r2) (dF (frp (mul2 f qq))) := dp_F (SqT.of upd_same)
      have s5 := s3.trans (t3.trans (t5.trans t4))
      generalize upd H5 r2 (tupF (frp (mul2 f qq))) = H6 at dn s5
      have en' : (l[arcAt l t]?.getD 0).toNat = num.toNat := by rw [en]; rfl
      have ng := hg.step c1 c2 c3 (by omega)
      have wkgo : wk W B g 0 1 1 0 ts = if g ∈ ss then .inr (N * (sh * l.sum), M * (LC * num.toNat), i + 1) else wk W B g to (N * (sh * l.sum)) (M * (LC * num.toNat)) (i + 1) (ts.drop (i + 1)) := by
        rw [ew, ed]
        show (if t < 0 ∨ (rowB B st).sum ≤ t then _ else _) = _
        rw [hlb, if_neg (by omega), en', harc]
      refine ⟨_, rfl, _, rfl, px, _, rfl, .inr (same_t s5 hpx), rfl, flat_strs _, ?_⟩
      rw [inV_str]
      refine ⟨_, rfl, ite2 (fun e => ?_) (fun e => ?_)⟩
      · have e : decide (g ∈ ss) = true := e
        rw [if_pos (of_decide_eq_true e)] at wkgo
        refine ⟨_, rfl, _, rfl, _, _, rfl, rfl, z2, fun p8 h8 => ?_⟩
        obtain ⟨s8, d8⟩ := new_tup (K := K) (xs := [.ref r2, V.int ((i : Int) + 1)]) (ds := [dF (frp (mul2 f qq)), .int ((i : Int) + 1)]) h8 (.cons dn (.cons (.int _) .nil))
        exact q _ _ _ _ _ (i + 1) (s5.trans s8) wkgo nf d8
      · have e : ¬ g ∈ ss := fun z => e (decide_eq_true z)
        rw [if_neg e] at wkgo
        exact ⟨_, rfl, to, _, _, _, r2, _, _, _, _, _, _, _, rfl, s5, wkgo, aT, dn, nf, ng⟩
    · rintro σ H2 ⟨st, M, N, f, c, y6, y7, y8, y9, y10, y11, y12, rfl, s2, ew, hst, dc, hf, hg⟩
      rw [List.length_map, List.drop_length] at ew
      have ew : wk W B g 0 1 1 0 ts = .inr (0, 1, ts.length) := ew
      refine ⟨z2, fun p7 h7 => ?_⟩
      obtain ⟨s7, d7⟩ := new_tup (K := K) (xs := [V.int 0, V.int 1]) (ds := [.int 0, .int 1]) h7 (.cons (.int _) (.cons (.int _) .nil))
      have d7 : Dp K (upd H2 p7 (.tup [V.int 0, V.int 1])) (.ref p7) (dF (0, 1)) := d7
      generalize upd H2 p7 (.tup [V.int 0, V.int 1]) = H7 at s7 d7
      have s7 := s2.trans s7
      refine ⟨_, rfl, _, _, rfl, .inr ⟨_, same_t s7 ht, rfl⟩, z2, fun p8 h8 => ?_⟩
      obtain ⟨s8, d8⟩ := new_tup (K := K) (xs := [.ref p7, V.int ((ts.map V.int).length : Nat)]) (ds := [dF (0, 1), .int (((ts.map V.int).length : Nat) : Int)]) h8 (.cons d7 (.cons (.int _) .nil))
      refine q _ _ (0, 1) 0 1 ts.length (s7.trans s8) ew (Fr.zero (by decide)) ?_
      have e7 : (((ts.map V.int).length : Nat) : Int) = (ts.length : Int) := by rw [List.length_map]
      rw [← e7]
      exact d8
end
end Mt
namespace Mt
open PySem PySem.Spec PyProof.Rows L2
/-! ### data of ints and tuples of them, not too wide -/
mutual
def pvW : PyData → Bool
  | .none => false
  | .str _ => false
  | .int _ => true
  | .tuple ds => decide (ds.length ≤ 1000) && pvWs ds
  | .bool _ => false
  | .list _ => false
  | .dict _ => false
def pvWs : List PyData → Bool
  | [] => true
  | d :: r => pvW d && pvWs r
end
mutual
def dep : PyData → Nat
  | .tuple ds => deps ds + 1
  | .none => 0
  | .str _ => 0
  | .int _ => 0
  | .bool _ => 0
  | .list _ => 0
  | .dict _ => 0
def deps : List PyData → Nat
  | [] => 0
  | d :: r => max (dep d) (deps r)
end
theorem pvWs_mem : ∀ {ds : List PyData} {d : PyData}, pvWs ds = true → d ∈ ds → pvW d = true
  | [], _, _, h => absurd h List.not_mem_nil
  | e :: r, d, h, m => by
    obtain ⟨h1, h2⟩ := Bool.and_eq_true_iff.mp (show (pvW e && pvWs r) = true from h)
    rcases List.mem_cons.mp m with k | k
    · rw [k]
      exact h1
    · exact pvWs_mem h2 k
theorem pvWs_all : ∀ {l : List PyData}, (∀ x ∈ l, pvW x = true) → pvWs l = true
  | [], _ => rfl
  | x :: r, h => by
    show (pvW x && pvWs r) = true
    rw [h x List.mem_cons_self, pvWs_all fun y hy => h y (List.mem_cons_of_mem _ hy)]
    rfl
theorem deps_mem : ∀ {ds : List PyData} {d : PyData}, d ∈ ds → dep d ≤ deps ds
  | [], _, h => absurd h List.not_mem_nil
  | e :: r, d, m => by
    show dep d ≤ max (dep e) (deps r)
    rcases List.mem_cons.mp m with k | k
    · rw [k]
      exact Nat.le_max_left _ _
    · exact Nat.le_trans (deps_mem k) (Nat.le_max_right _ _)
theorem deps_le {n : Nat} : ∀ {ds : List PyData}, (∀ d ∈ ds, dep d ≤ n) → deps ds ≤ n
  | [], _ => Nat.zero_le _
  | d :: r, h => Nat.max_le.mpr ⟨h d List.mem_cons_self, deps_le (ds := r) fun x hx => h x (List.mem_cons_of_mem _ hx)⟩
def spSm (K : PySem.W.Frag) (n : Nat) : Sp := fun vs H Q _ => ∃ (t u : V) (d : PyData), vs = [t, u] ∧ Dp K H t d ∧ Dp K H u d ∧ pvW d = true ∧ dep d < n ∧ ∀ H', Same H H' → Q (.bl true) H'
def spInteger : Sp := fun vs H Q _ => ∃ S D : Addr, vs = [.ref D] ∧ DrawAt S D H ∧ ∀ (H' : Hp) (n : Int), 0 ≤ n → n ≤ BIG → Go S D H H' → Q (.int n) H'
section
variable {P : Program} {w : World} {K : PySem.W.Frag} {mg : Str → Option Value} {base : Heap}
theorem cpow30 : CPow 10 30 := ⟨by decide, by decide, by decide⟩
theorem pow30 : (fun i j : Int => V.int (i ^ j.toNat)) 10 30 = V.int (10 ^ 30) := rfl
theorem sm_ok (T : Txt K mg) (D__law_is_int : Kept P w K mg base 1 "_law_is_int" ["thing"] spIsInt) : ∀ (n : Nat) {f : Addr} {fd : FuncData}, FnP K "_law_same" s__law_same f fd → mg "_law_same" = some (.ref f) → Binds K fd ["told", "due"] [] → FnOk P w K mg base CX0 (n + 2) f fd ["told", "due"] (spSm K n)
  | 0, f, fd, F, hg, hb => F.ok (k := 1) sc__law_same (fun vs H Q E h => by
      obtain ⟨t, u, d, rfl, _⟩ := h
      rfl) (fun cdv A outer s H vs Q E hr h => by
      obtain ⟨t, u, d, rfl, _, _, _, h, _⟩ := h
      exact absurd h (Nat.not_lt_zero _))
  | n + 1, f, fd, F, hg, hb => by
    have D__law_same : Kept P w K mg base (n + 2) "_law_same" ["told", "due"] (spSm K n) := ⟨f, fd, sm_ok T D__law_is_int n F hg hb, hg, F.kp, hb⟩
    refine F.ok (k := n + 2) sc__law_same (fun vs H Q E h => ?_) (fun cdv A outer s H vs Q E hr h => ?_)
    · obtain ⟨t, u, d, rfl, _⟩ := h
      rfl
    · obtain ⟨t, u, d, rfl, ht, hu, hp, hn, q⟩ := h
      refine ⟨_, PSs.nox (pss_cons (ps_if (pt_val (pe_callB call_isi (by rfl) T.b_isinstance (by decide +kernel) (pa_cons (pv 1) (pa_cons (pe_bltn (v := .ty "tuple") (u := .type "tuple") (by rfl) T.b_tuple (by decide +kernel) rfl) pa_nil)))) (pss_cons (ps_if (PW.pt (pw_or (pt_not (pt_val (pe_callB call_isi (by rfl) T.b_isinstance (by decide +kernel) (pa_cons (pv 0) (pa_cons (pe_bltn (v := .ty "tuple") (u := .type "tuple") (by rfl) T.b_tuple (by decide +kernel) rfl) pa_nil))))) (pw_or1 (pt_cmpR op_ne (pe_callB call_len (by rfl) T.b_len (by decide +kernel) (pa_cons (pv 0) pa_nil)) (pe_callB call_len (by rfl) T.b_len (by decide +kernel) (pa_cons (pv 1) pa_nil)) (nomark _))))) (pss_one (ps_ret pe_bl)) pss_nil)
      (pss_one (ps_ret (pe_callB (cr_all rfl) (by rfl) T.b_all (by decide +kernel) (pa_cons (pe_lc (own := [("k", 2)]) (g := (gName 2)) (tt := tYes) rfl sc__law_same.nd (pi_range1 (by rfl) T.b_range (pa_cons (pe_callB call_len (by rfl) T.b_len (by decide +kernel) (pa_cons (pv 1) pa_nil)) pa_nil)) (blkOk_by (N := N__law_same) (sc := defScope s__law_same) (by decide +kernel)) (fun _ _ _ _ _ => (pg_name (i := 2) sc__law_same.nd rfl (Or.inl rfl))) (fun _ _ _ _ _ => pts_nil) (fun _ _ _ _ _ => (pe_d D__law_same (hr.mono (by omega)) (by rfl) (pa_cons (pe_ix (ixT (K := K) rfl) (pv 0) (pv 2) (fun _ _ => rfl)) (pa_cons (pe_ix (ixT (K := K) rfl) (pv 1) (pv 2) (fun _ _ => rfl)) pa_nil))))) pa_nil))))) pss_nil)
      (pss_one (ps_ret (pe_and (pe_d D__law_is_int (hr.mono (by omega)) (by rfl) (pa_cons (pv 0) pa_nil)) (pe_one (pe_cmpR op_eq (pv 0) (pv 1) (nomark _))))))), ?_⟩
      match d, ht, hu, hp, hn, q with
      | .int i, ht, hu, hp, hn, q =>
        obtain rfl := dp_int ht
        obtain rfl := dp_int hu
        refine ⟨_, rfl, _, .ty "tuple", .type "int", .type "tuple", false, rfl, .ty _, .base (.int _), kit_ty (by decide +kernel), false, rfl, ite2 (fun h => (nomatch h)) (fun _ => ?_)⟩
        refine ⟨_, rfl, i, rfl, true, rfl, ite2 (fun _ => ?_) (fun h => absurd rfl h)⟩
        refine ⟨_, rfl, _, rfl, rfl, ?_⟩
        rw [decide_eq_true rfl]
        exact q _ (Same.refl _)
      | .tuple ds, ht, hu, hp, hn, q =>
        obtain ⟨pt, xs, rfl, hpt, hA⟩ := dp_tup ht
        obtain ⟨pu, ys, rfl, hpu, hB⟩ := dp_tup hu
        have xl := dpA_len hA
        have yl := dpA_len hB
        obtain ⟨hw, hp⟩ := Bool.and_eq_true_iff.mp (show (decide (ds.length ≤ 1000) && pvWs ds) = true from hp)
        have hw := of_decide_eq_true hw
        have hdd : deps ds < n := by
          have : deps ds + 1 < n + 1 := hn
          omega
        refine ⟨_, rfl, _, .ty "tuple", .type "tuple", .type "tuple", true, rfl, .ty _, sqt_ty hpu, kit_ty (by decide +kernel), true, rfl, ite2 (fun _ => ?_) (fun h => absurd rfl h)⟩
        refine ⟨_, rfl, _, .ty "tuple", .type "tuple", .type "tuple", true, rfl, .ty _, sqt_ty hpt, kit_ty (by decide +kernel), true, rfl, ite2 (fun h => (nomatch (show false = true from h))) (fun _ => ?_)⟩
        refine ⟨_, rfl, _, _, rfl, .inr ⟨_, hpt, rfl⟩, _, rfl, _, _, rfl, .inr ⟨_, hpu, rfl⟩, rfl, ?_⟩
        rw [xl, yl, decide_eq_true rfl]
        refine ⟨_, rfl, ite2 (fun h => (nomatch (show false = true from h))) (fun _ => ?_)⟩
        refine ⟨_, rfl, _, _, rfl, .inr ⟨_, hpu, rfl⟩, _, rfl, by omega, by omega, fun L hL => lc_range (lo := 0) (n := ys.length) (fun i H' => Same H H' ∧ H' L = some (.lst ((List.replicate i true).map V.bl))) ⟨same_new hL, upd_same⟩ ?_ ?_⟩
        · rintro i H1 hi ⟨s1, hL1⟩
          have hi' : i < ds.length := by omega
          have hdi : ds[i]? = some ds[i] := List.getElem?_eq_getElem hi'
          generalize ds[i] = d at hdi
          have hm := List.mem_of_getElem? hdi
          have h4 := deps_mem hm
          have ex : xs[i]? = some (xs[i]'(by omega)) := List.getElem?_eq_getElem _
          have ey : ys[i]? = some (ys[i]'(by omega)) := List.getElem?_eq_getElem _
          generalize xs[i]'(by omega) = x at ex
          generalize ys[i]'(by omega) = y at ey
          obtain ⟨d1, hd1, hx⟩ := dpA_at hA ex
          obtain ⟨d2, hd2, hy⟩ := dpA_at hB ey
          rw [hdi] at hd1 hd2
          cases hd1
          cases hd2
          refine ⟨rfl, _, rfl, _, rfl, pt, _, _, _, rfl, rfl, same_t s1 hpt, (by rw [Int.zero_add]; exact atI_nat ex), _, rfl, _, rfl, pu, _, _, _, rfl, rfl, same_t s1 hpu, (by rw [Int.zero_add]; exact atI_nat ey), x, y, d, rfl, dp_same s1 _ _ hx, dp_same s1 _ _ hy, pvWs_mem hp hm, by omega, fun H2 s2 => ⟨_, s2 _ _ hL1, by rw [List.length_map, List.length_replicate]; exact line6 (by omega), same_mut (s1.trans s2) hL, ?_⟩⟩
          rw [upd_same, List.replicate_succ', List.map_append]
          rfl
        · rintro H1 ⟨s1, hL1⟩
          refine ⟨L, List.replicate ys.length true, rfl, SqL.of hL1, ?_⟩
          rw [show (List.replicate ys.length true).all id = true from by simp]
          exact q _ s1
      | .none, _, _, hp, _, _ => nomatch hp
      | .str _, _, _, hp, _, _ => nomatch hp
      | .bool _, _, _, hp, _, _ => nomatch hp
      | .list _, _, _, hp, _, _ => nomatch hp
      | .dict _, _, _, hp, _, _ => nomatch hp
/-- the same def, called while an exception is handled -/
theorem ih_ok (T : Txt K mg) {f : Addr} {fd : FuncData} (F : FnP K "_law_is_int" s__law_is_int f fd) : L2H.FnH P w K mg base CX0 1 f fd ["thing"] spIsInt := by
  obtain ⟨oc, od, dV, kV, doc, pm, an, cdv, ct, osl, rfl, lk, hcd, _, _⟩ := F.ex
  refine L2H.fn_ofH lk hcd sc__law_is_int (fun vs H Q E h => ?_) (fun A outer s H vs Q E p hot hr h => ?_)
  · obtain ⟨i, rfl, _⟩ := h
    rfl
  · obtain ⟨i, rfl, q⟩ := h
    refine ⟨_, (pss_one (ps_ret (pe_and (pe_callB call_isi (by rfl) T.b_isinstance (by decide +kernel) (pa_cons (pv 0) (pa_cons (pe_bltn (v := .ty "int") (u := .type "int") (by rfl) T.b_int (by decide +kernel) rfl) pa_nil))) (pe_one (pe_not (pe_callB call_isi (by rfl) T.b_isinstance (by decide +kernel) (pa_cons (pv 0) (pa_cons (pe_bltn (v := .ty "bool") (u := .type "bool") (by rfl) T.b_bool (by decide +kernel) rfl) pa_nil)))))))), ?_⟩
    refine ⟨_, rfl, _, .ty "int", .type "int", .type "int", true, rfl, .ty _, .base (.int _), kit_ty (by decide +kernel), true, rfl, ?_⟩
    exact ⟨_, rfl, _, .ty "bool", .type "int", .type "bool", false, rfl, .ty _, .base (.int _), kit_ty (by decide +kernel), false, rfl, q⟩
theorem ok__law_integer (T : Txt K mg) (D__law_draw : Kept P w K mg base 1 "_law_draw" ["d", "many"] spDraw) (D__law_pick : Kept P w K mg base 2 "_law_pick" ["d", "row"] (spPick K)) {f : Addr} {fd : FuncData} (F : FnP K "_law_integer" s__law_integer f fd) : FnOk P w K mg base CX0 3 f fd ["d"] spInteger := by
  refine F.ok sc__law_integer (fun vs H Q E h => ?_) (fun cdv A outer s H vs Q E hr h => ?_)
  · obtain ⟨S, D, rfl, _⟩ := h
    rfl
  · obtain ⟨S, D, rfl, d, q⟩ := h
    refine ⟨_, PSs.nox (pss_cons (ps_set (i := 1) sc__law_integer.nd rfl (Or.inl rfl) (pe_d D__law_draw (hr.mono (by decide)) (by rfl) (pa_cons (pv 0) (pa_cons pe_int pa_nil))))
      (pss_cons (ps_if (pt_cmpR op_lt (pv 1) pe_int (nomark _)) (pss_one (ps_ret pe_int)) pss_nil)
      (pss_cons (ps_if (pt_cmpR op_lt (pv 1) pe_int (nomark _)) (pss_one (ps_ret pe_int)) pss_nil)
      (pss_cons (ps_if (pt_cmpR op_lt (pv 1) pe_int (nomark _)) (pss_one (ps_ret (pe_op op_add pe_int (pe_d D__law_draw (hr.mono (by decide)) (by rfl) (pa_cons (pv 0) (pa_cons pe_int pa_nil)))))) pss_nil)
      (pss_one (ps_ret (pe_op op_add (pe_d D__law_pick (hr.mono (by decide)) (by rfl) (pa_cons (pv 0) (pa_cons (pe_lst (pa_cons pe_int (pa_cons pe_int (pa_cons pe_int (pa_cons (pe_op op_pow pe_int pe_int) pa_nil))))) pa_nil))) (pe_d D__law_draw (hr.mono (by decide)) (by rfl) (pa_cons (pv 0) (pa_cons pe_int pa_nil)))))))))), ?_⟩
    refine ⟨_, rfl, S, D, _, rfl, divW_of (by decide) (by decide), d, fun H1 k k0 k1 g1 => ?_⟩
    refine ⟨_, rfl, _, _, rfl, rfl, _, rfl, ite2 (fun _ => q _ _ (by decide) (by decide) g1) (fun _ => ?_)⟩
    refine ⟨_, rfl, _, _, rfl, rfl, _, rfl, ite2 (fun _ => q _ _ (by decide) (by decide) g1) (fun _ => ?_)⟩
    refine ⟨_, rfl, _, _, rfl, rfl, _, rfl, ite2 (fun _ => ?_) (fun _ => ?_)⟩
    · refine ⟨_, rfl, S, D, _, rfl, divW_of (by decide) (by decide), g1.1, fun H2 a a0 a1 g2 => ?_⟩
      exact ⟨_, _, rfl, rfl, q _ _ (by omega) (by show 1 + a ≤ (10 : Int) ^ 30 + 5000; omega) (g1.trans g2)⟩
    · have d1 := g1.1
      refine ⟨_, rfl, _, _, rfl, rfl, cpow30, by show 4 ≤ sizeLine; decide, fun L hL => ?_⟩
      have LD := (d1.free hL).1
      rw [pow30]
      have g2 : Go S D H1 (upd H1 L (.lst [V.int 1, .int 1, .int 1, .int (10 ^ 30)])) := Go.new d1 hL
      refine ⟨S, D, .ref L, [V.int 1, .int 1, .int 1, .int (10 ^ 30)], rfl, g2.1, fun H' g => .inr (.inl ⟨L, rfl, SqL.of (g.2 _ _ upd_same LD)⟩), by show 0 < 4; decide, by show 4 ≤ 100000; decide, fun H3 x hx g3 => ?_⟩
      obtain ⟨n, rfl, n0, n1⟩ : ∃ n : Int, x = .int n ∧ 1 ≤ n ∧ n ≤ 10 ^ 30 := by
        simp only [List.mem_cons, List.not_mem_nil, or_false] at hx
        rcases hx with e | e | e | e
        · exact ⟨1, e, by decide, by decide⟩
        · exact ⟨1, e, by decide, by decide⟩
        · exact ⟨1, e, by decide, by decide⟩
        · exact ⟨10 ^ 30, e, by decide, by decide⟩
      have g3 := g2.trans g3
      refine ⟨_, rfl, S, D, _, rfl, divW_of (by decide) (by decide), g3.1, fun H4 a a0 a1 g4 => ?_⟩
      exact ⟨_, _, rfl, rfl, q _ _ (by omega) (by show n + a ≤ (10 : Int) ^ 30 + 5000; omega) (g1.trans (g3.trans g4))⟩
end
end Mt
namespace Mt
open PySem PySem.Spec PyProof.Rows L2
theorem pool_ok : ∀ z ∈ POOL, PyData.strOk z = true := by
  have : (POOL.all fun z => PyData.strOk z) = true := by decide +kernel
  exact List.all_eq_true.mp this
theorem three_ok : ShOk (["a", "aa", ""] : List Str) := by
  have : ((["a", "aa", ""] : List Str).all fun z => PyData.strOk z) = true := by decide +kernel
  exact List.all_eq_true.mp this
theorem sum_mem : ∀ {l : List Int} {x : Int}, (∀ n ∈ l, 0 ≤ n) → x ∈ l → x ≤ l.sum
  | [], _, _, h => absurd h List.not_mem_nil
  | n :: r, x, h, hx => by
    rw [sum_cons']
    have h1 := h n List.mem_cons_self
    have h2 := sum_nn' (ns := r) fun y hy => h y (List.mem_cons_of_mem _ hy)
    rcases List.mem_cons.mp hx with e | e
    · omega
    · have := sum_mem (l := r) (fun y hy => h y (List.mem_cons_of_mem _ hy)) e
      omega
def spWorld (K : PySem.W.Frag) : Sp := fun vs H Q _ => ∃ S D : Addr, vs = [.ref D] ∧ DrawAt S D H ∧ ∀ (H' : Hp) (v : V) (W : Wb) (B : Bd) (g : Str), Go S D H H' → Wld K H' v W B g → Q v H'
section
variable {P : Program} {w : World} {K : PySem.W.Frag} {mg : Str → Option Value} {base : Heap}
set_option maxHeartbeats 0 in
theorem ok__law_world (T : Txt K mg) (D__law_draw : Kept P w K mg base 1 "_law_draw" ["d", "many"] spDraw) (D__law_pick : Kept P w K mg base 2 "_law_pick" ["d", "row"] (spPick K)) (D__law_pop : Kept P w K mg base 2 "_law_pop" ["d", "row"] spPop) (D__law_pool : Kept P w K mg base 1 "_law_pool" [] spPool) (D__law_drawn_web : Kept P w K mg base 4 "_law_drawn_web" ["d", "states", "marks"] (spDWeb K)) (D__law_integer : Kept P w K mg base 3 "_law_integer" ["d"] spInteger) {f : Addr} {fd : FuncData} (F : FnP K "_law_world" s__law_world f fd) : FnOk P w K mg base CX0 5 f fd ["d"] (spWorld K) := by
  refine F.ok sc__law_world (fun vs H Q E h => ?_) (fun cdv A outer s H vs Q E hr h => ?_)
  · obtain ⟨S, D, rfl, _⟩ := h
    rfl
  · obtain ⟨S, D, rfl, d, q⟩ := h
    refine ⟨_, PSs.nox (pss_cons (ps_set (i := 1) sc__law_world.nd rfl (Or.inr rfl) (pe_d0 D__law_pool (hr.mono (by decide)) (by rfl)))
      (pss_cons (ps_set (i := 2) sc__law_world.nd rfl (Or.inl rfl) (pe_lst (pa_cons pe_str (pa_cons pe_str (pa_cons pe_str pa_nil)))))
      (Evl.pss_cut (ps_if (pt_cmpR op_eq (pe_d D__law_draw (hr.mono (by decide)) (by rfl) (pa_cons (pv 0) (pa_cons pe_int pa_nil))) pe_int (nomark _)) (pss_one (ps_setLc (i := 2) (own := [("k", 3)]) (g := (gName 3)) (tt := tYes) rfl sc__law_world.nd rfl rfl (sw_true rfl rfl rfl (by decide +kernel)) (pi_range1 (by rfl) T.b_range (pa_cons pe_int pa_nil)) (blkOk_by (N := N__law_world) (sc := defScope s__law_world) (by decide +kernel)) (fun _ _ _ _ _ => (pg_name (i := 3) sc__law_world.nd rfl (Or.inl rfl))) (fun _ _ _ _ _ => pts_nil) (fun _ _ _ _ _ => (pe_d D__law_pop (hr.mono (by decide)) (by rfl) (pa_cons (pv 0) (pa_cons (pv 1) pa_nil)))))) pss_nil)
      (pss_cons (ps_set (i := 4) sc__law_world.nd rfl (Or.inl rfl) (pe_d D__law_drawn_web (hr.mono (by decide)) (by rfl) (pa_cons (pv 0) (pa_cons (pe_d D__law_pick (hr.mono (by decide)) (by rfl) (pa_cons (pv 0) (pa_cons (pe_lst (pa_cons pe_int (pa_cons pe_int (pa_cons pe_int (pa_cons pe_int (pa_cons pe_int (pa_cons pe_int pa_nil))))))) pa_nil))) (pa_cons (pv 2) pa_nil)))))
      (pss_cons (ps_set (i := 5) sc__law_world.nd rfl (Or.inl rfl) (pe_lst pa_nil))
      (pss_cons (ps_for PassesOwn.never rfl (pi_tup (pe_ix ix_tup (pv 4) pe_int (fun _ _ => rfl))) (pg_name (i := 6) sc__law_world.nd rfl (Or.inl rfl)) (pss_cons (ps_setLc (i := 7) (own := [("arc", 8)]) (g := (gName 8)) (tt := tYes) rfl sc__law_world.nd rfl rfl (sw_true rfl rfl rfl (by decide +kernel)) (pi_tup (pv 6)) (blkOk_by (N := N__law_world) (sc := defScope s__law_world) (by decide +kernel)) (fun _ _ _ _ _ => (pg_name (i := 8) sc__law_world.nd rfl (Or.inl rfl))) (fun _ _ _ _ _ => pts_nil) (fun _ _ _ _ _ => (pe_d D__law_integer (hr.mono (by decide)) (by rfl) (pa_cons (pv 0) pa_nil))))
      (Evl.pss_cut (ps_if (pt_cmpR op_eq (pe_callB (cr_sum rfl) (by rfl) T.b_sum (by decide +kernel) (pa_cons (pv 7) pa_nil)) pe_int (nomark _)) (pss_one (ps_asg (pe_op op_add pe_int (pe_d D__law_draw (hr.mono (by decide)) (by rfl) (pa_cons (pv 0) (pa_cons pe_int pa_nil)))) (pg_sub (pv 7) (pe_d D__law_draw (hr.mono (by decide)) (by rfl) (pa_cons (pv 0) (pa_cons (pe_callB call_len (by rfl) T.b_len (by decide +kernel) (pa_cons (pv 7) pa_nil)) pa_nil))) set_list))) pss_nil)
      (pss_one (ps_expr (pe_bm PySem.F.plainAttrs_list PySem.F.slot_list_append PySem.F.type_list_append mt_append (pv 5) (pa_cons (pe_callTy call_tuple_of (by rfl) T.b_tuple (by decide +kernel) (pa_cons (pv 7) pa_nil)) pa_nil)))))))
      (pss_one (ps_ret (pe_tup (pa_cons (pv 4) (pa_cons (pe_callTy call_tuple_of (by rfl) T.b_tuple (by decide +kernel) (pa_cons (pv 5) pa_nil)) (pa_cons (pe_d D__law_pick (hr.mono (by decide)) (by rfl) (pa_cons (pv 0) (pa_cons (pe_op op_cat (pe_op op_cat (pv 2) (pv 2)) (pe_lst (pa_cons pe_str pa_nil))) pa_nil))) pa_nil)))))))))))), ?_⟩
    refine ⟨rfl, fun N hN => ?_⟩
    have ND := (d.free hN).1
    have g1 : Go S D H (upd H N (.lst (POOL.map V.str))) := Go.new d hN
    have hN1 := upd_same (H := H) (a := N) (o := .lst (POOL.map V.str))
    generalize upd H N (.lst (POOL.map V.str)) = H1 at g1 hN1
    refine ⟨by show 3 ≤ sizeLine; decide, fun m hm => ?_⟩
    have mD := (g1.1.free hm).1
    have g2 : Go S D H1 (upd H1 m (.lst [V.str "a", V.str "aa", V.str ""])) := Go.new g1.1 hm
    have hm2 : upd H1 m (.lst [V.str "a", V.str "aa", V.str ""]) m = some (.lst ((["a", "aa", ""] : List Str).map V.str)) := upd_same
    have hN2 := g2.2 _ _ hN1 ND
    generalize upd H1 m (.lst [V.str "a", V.str "aa", V.str ""]) = H2 at g2 hm2 hN2
    have g2 := g1.trans g2
    refine ⟨fun σ H' => ∃ (p : Addr) (ms : List Str), σ = [some (.ref D), some (.ref N), some (.ref p), none, none, none, none, none, none] ∧ Go S D H H' ∧ p ≠ D ∧ H' p = some (.lst (ms.map V.str)) ∧ ms.length = 3 ∧ ShOk ms, ?_, ?_⟩
    · refine ⟨_, rfl, S, D, 2, rfl, divW_of (by decide) (by decide), g2.1, fun H3 k k0 k1 g3 => ⟨rfl, _, rfl, ite2 (fun _ => ?_) (fun _ => ?_)⟩⟩
      · have hN3 := g3.2 _ _ hN2 ND
        have g3 := g2.trans g3
        refine ⟨_, rfl, by decide, by decide, fun Lm hLm => lc_range (lo := 0) (n := 3) (fun j H' => ∃ nms ms : List Str, Go S D H H' ∧ H' N = some (.lst (nms.map V.str)) ∧ H' Lm = some (.lst (ms.map V.str)) ∧ nms.length + j = 60 ∧ ms.length = j ∧ (∀ z ∈ nms, z ∈ POOL) ∧ ∀ z ∈ ms, z ∈ POOL)
          ⟨POOL, [], goU (g3.free d hLm) d g3, by rw [upd_ne (ne_of_none hN3 hLm)]; exact hN3, upd_same, by rw [pool_len], rfl, fun _ h => h, fun _ h => absurd h List.not_mem_nil⟩ ?_ ?_⟩
        · rintro j H4 hj ⟨nms, ms, g4, hN4, hM4, hl4, hm4, ho1, ho2⟩
          have LmD := (g3.1.free hLm).1
          have LmN : Lm ≠ N := (ne_of_none hN3 hLm).symm
          refine ⟨rfl, _, rfl, _, rfl, S, D, N, nms.map V.str, rfl, g4.1, ND, hN4, by rw [List.length_map]; omega, by rw [List.length_map]; omega, fun H5 jx x g5 hx => ?_⟩
          rw [List.getElem?_map] at hx
          obtain ⟨z, hz, rfl⟩ := Option.map_eq_some_iff.mp hx
          have hjx := (List.getElem?_eq_some_iff.mp hz).1
          have ee : (nms.map V.str).eraseIdx jx = (nms.eraseIdx jx).map V.str := by
            first
              | exact List.eraseIdx_map ..
              | exact (List.map_eraseIdx ..).symm
              | simp [List.eraseIdx_eq_take_drop_succ]
          rw [ee]
          have hM5 := g5.2 _ _ hM4 LmD
          refine ⟨_, by rw [upd_ne LmN]; exact hM5, by rw [List.length_map]; exact line6 (by omega), nms.eraseIdx jx, ms ++ [z], goU (g3.free d hLm) d (goU hN d (g4.trans g5)), by rw [upd_ne LmN.symm, upd_same], by rw [upd_same, List.map_append]; rfl, ?_, by rw [List.length_append, List.length_singleton, hm4], fun y hy => ho1 y (List.mem_of_mem_eraseIdx hy), fun y hy => ?_⟩
          · rw [List.length_eraseIdx_of_lt hjx]
            omega
          · rcases List.mem_append.mp hy with h | h
            · exact ho2 y h
            · rw [List.mem_singleton.mp h]
              exact ho1 z (List.mem_of_getElem? hz)
        · rintro H4 ⟨nms, ms, g4, hN4, hM4, hl4, hm4, ho1, ho2⟩
          exact ⟨Lm, ms, rfl, g4, (g3.1.free hLm).1, hM4, hm4, fun z hz => pool_ok z (ho2 z hz)⟩
      · exact ⟨m, _, rfl, g2.trans g3, mD, g3.2 _ _ hm2 mD, rfl, three_ok⟩
    · rintro σ H3 ⟨p, ms, rfl, g3, pD, hp, ml, mo⟩
      refine ⟨_, rfl, _, rfl, by show 6 ≤ sizeLine; decide, fun L hL => ?_⟩
      have LD := (g3.1.free hL).1
      have g4 : Go S D H3 (upd H3 L (.lst [V.int 1, V.int 2, V.int 3, V.int 4, V.int 5, V.int 30])) := Go.new g3.1 hL
      have hL4 : upd H3 L (.lst [V.int 1, V.int 2, V.int 3, V.int 4, V.int 5, V.int 30]) L = some (.lst (([1, 2, 3, 4, 5, 30] : List Int).map V.int)) := upd_same
      generalize upd H3 L (.lst [V.int 1, V.int 2, V.int 3, V.int 4, V.int 5, V.int 30]) = H4 at g4 hL4
      refine ⟨S, D, .ref L, _, rfl, g4.1, fun H' g => .inr (.inl ⟨L, rfl, SqL.of (g.2 _ _ hL4 LD)⟩), by decide, by decide, fun H5 x hx g5 => ?_⟩
      obtain ⟨n, rfl, n0, n1⟩ : ∃ n : Int, x = .int n ∧ 1 ≤ n ∧ n ≤ 60 := by
        obtain ⟨n, hn, rfl⟩ := List.mem_map.mp hx
        refine ⟨n, rfl, ?_⟩
        have : ∀ n ∈ ([1, 2, 3, 4, 5, 30] : List Int), 1 ≤ n ∧ n ≤ 60 := by decide
        exact this n hn
      have g5 := g4.trans g5
      have hp5 := g5.2 _ _ hp pD
      refine ⟨_, rfl, S, D, p, n, ms, rfl, g5.1, pD, hp5, by omega, by omega, mo, n0, n1, fun H6 v W g6 hv okW hWl => ?_⟩
      have hp6 := g6.2 _ _ hp5 pD
      have g6 := g3.trans (g5.trans g6)
      obtain ⟨pw, pq, xq, rfl, hpw, hpq, hAq⟩ := web_at hv
      refine ⟨Nat.zero_le _, fun Bl hBl => ?_⟩
      have BlD := (g6.1.free hBl).1
      have d6 := g6.1
      refine ⟨_, rfl, pw, _, _, _, rfl, rfl, same_t (same_new hBl) hpw, atI_nat (j := 1) rfl, ?_⟩
      refine ⟨pq, rfl, ⟨_, same_t (same_new hBl) hpq⟩, for_tup (K := K) (a := pq) (xs := xq) (fun i σ H' => ∃ (B : List (List Int)) (y6 y7 y8 : Option V) (zs : List V), σ = [some (.ref D), some (.ref N), some (.ref p), none, some (.ref pw), some (.ref Bl), y6, y7, y8] ∧ Go S D H6 H' ∧ H' Bl = some (.lst zs) ∧ DpAll K H' zs (B.map dI) ∧ B.length = i ∧ ∀ (j : Nat) (r : List Arc) (l : List Int), W[j]? = some r → B[j]? = some l → RowOk r l) ⟨[], _, _, _, [], rfl, Go.new d6 hBl, upd_same, .nil, rfl, fun _ _ _ _ h => by cases h⟩ (fun i σ H' _ ⟨_, _, _, _, _, _, g, _⟩ => sqt_keep (Go.keepT d6 g) hpq) ?_ ?_⟩
      · rintro i x σ H7 hi ⟨B, y6, y7, y8, zs, rfl, g7, hB7, hz, hBl', hrow⟩
        obtain ⟨r, er, dr⟩ := dpA_mem hAq hi
        obtain ⟨pr, xr, rfl, hpr, hAr⟩ := dp_tup dr
        have xrl := dpA_len hAr
        rw [List.length_map] at xrl
        have d7 := g7.1
        have zl := dpA_len hz
        rw [List.length_map] at zl
        have iW := (List.getElem?_eq_some_iff.mp er).1
        have r3 := okW.row r (List.mem_of_getElem? er)
        have hpr7 := sqt_keep (Go.keepT d6 g7) hpr
        refine ⟨_, rfl, pr, rfl, ⟨_, hpr7⟩, fun Lp hLp => lc_tup (K := K) (a := pr) (xs := xr) (fun j H' => ∃ ns : List Int, Go S D H7 H' ∧ H' Lp = some (.lst (ns.map V.int)) ∧ ns.length = j ∧ (∀ n ∈ ns, 0 ≤ n) ∧ ∀ n ∈ ns, n ≤ BIG) ⟨[], Go.new d7 hLp, upd_same, rfl, fun _ h => absurd h List.not_mem_nil, fun _ h => absurd h List.not_mem_nil⟩ (fun j H' _ ⟨_, g, _⟩ => sqt_keep (Go.keepT d7 g) hpr7) ?_ ?_⟩
        · rintro j x H8 hj ⟨ns, g8, hL8, nl, nn, nb⟩
          have LpD := (d7.free hLp).1
          refine ⟨rfl, _, rfl, S, D, rfl, g8.1, fun H9 n n0 n1 g9 => ⟨_, g9.2 _ _ hL8 LpD, by rw [List.length_map]; exact line6 (by have := (List.getElem?_eq_some_iff.mp hj).1; omega), ns ++ [n], goU hLp d7 (g8.trans g9), by rw [upd_same, List.map_append]; rfl, by rw [List.length_append, List.length_singleton, nl], fun y hy => ?_, fun y hy => ?_⟩⟩
          · rcases List.mem_append.mp hy with h | h
            · exact nn y h
            · rw [List.mem_singleton.mp h]
              exact n0
          · rcases List.mem_append.mp hy with h | h
            · exact nb y h
            · rw [List.mem_singleton.mp h]
              exact n1
        · rintro H8 ⟨ns, g8, hL8, nl, nn, nb⟩
          have LpD := (d7.free hLp).1
          rw [xrl] at nl
          refine ⟨fun σ H' => ∃ ns : List Int, σ = [some (.ref D), some (.ref N), some (.ref p), none, some (.ref pw), some (.ref Bl), some (.ref pr), some (.ref Lp), y8] ∧ Go S D H7 H' ∧ H' Lp = some (.lst (ns.map V.int)) ∧ RowOk r ns, ?_, ?_⟩
          · refine ⟨_, rfl, Lp, ns, rfl, SqL.of hL8, rfl, _, rfl, ite2 (fun e => ?_) (fun e => ?_)⟩
            · refine ⟨_, rfl, S, D, _, rfl, divW_of (by decide) (by decide), g8.1, fun H9 a a0 a1 g9 => ?_⟩
              have hL9 := g9.2 _ _ hL8 LpD
              refine ⟨_, _, rfl, rfl, _, rfl, _, rfl, _, rfl, _, _, rfl, .inl ⟨_, SqL.of hL9, rfl⟩, S, D, _, rfl, divW_of (by rw [List.length_map]; omega) (by rw [List.length_map]; omega), g9.1, fun HA k k0 k1 gA => ?_⟩
              rw [List.length_map] at k1
              have hLA := gA.2 _ _ hL9 LpD
              have kl : k.toNat < ns.length := by omega
              have ek : ((k.toNat : Nat) : Int) = k := by omega
              refine ⟨Lp, _, k, k.toNat, rfl, rfl, hLA, ?_, ns.set k.toNat (1 + a), rfl, goU hLp d7 (g8.trans (g9.trans gA)), by rw [upd_same, List.map_set], ?_⟩
              · rw [List.length_map, ← ek]
                exact Evl.ixN_nat kl
              · refine ⟨by rw [List.length_set, nl], fun x hx => ?_, fun x hx => ?_, ?_⟩
                · rcases List.mem_or_eq_of_mem_set hx with h | h
                  · exact nn x h
                  · omega
                · rcases List.mem_or_eq_of_mem_set hx with h | h
                  · exact nb x h
                  · rw [h]
                    show 1 + a ≤ (10 : Int) ^ 30 + 5000
                    omega
                · have : (1 + a) ≤ (ns.set k.toNat (1 + a)).sum := sum_mem (fun x hx => by
                    rcases List.mem_or_eq_of_mem_set hx with h | h
                    · exact nn x h
                    · omega) (List.mem_set kl _)
                  omega
            · have e : ¬ decide (V.int ns.sum = V.int 0) = true := e
              have e : ns.sum ≠ 0 := fun z => e (decide_eq_true (by rw [z]))
              have := sum_nn' nn
              exact ⟨ns, rfl, g8, hL8, nl, nn, nb, by omega⟩
          · rintro σ H9 ⟨ns, rfl, g9, hL9, ro⟩
            have hB9 := g9.2 _ _ hB7 BlD
            have hz9 := dpA_keep (Go.keepT d7 g9) _ _ (noLs_of dI_noL B) hz
            refine ⟨_, rfl, .inl ⟨rfl, _, SqL.of hB9⟩, ?_⟩
            refine ⟨_, rfl, Lp, _, rfl, .inl ⟨SqL.of hL9, fun pt hpt => ?_⟩⟩
            obtain ⟨sA, dA⟩ := new_tup (K := K) hpt (ints_dp ns)
            have gA := Go.same g9.1 sA
            have hBA := sA _ _ hB9
            have hzA := dpA_same sA _ _ hz9
            generalize upd H9 pt (.tup (ns.map V.int)) = HA at sA dA gA hBA hzA
            have kB := keepT_nt (o := .lst (zs ++ [.ref pt])) (nt_lst _) hBA
            refine ⟨Bl, zs, _, rfl, rfl, hBA, line6 (by omega), B ++ [ns], _, _, _, zs ++ [.ref pt], rfl, goU hBl d6 (g7.trans (g9.trans gA)), upd_same, ?_, by rw [List.length_append, List.length_singleton, hBl'], fun j r' l hr' hl' => ?_⟩
            · rw [List.map_append]
              exact dpA_snoc (dpA_keep kB _ _ (noLs_of dI_noL B) hzA) (dp_keep kB _ _ (dI_noL ns) dA)
            · by_cases c : j < B.length
              · rw [List.getElem?_append_left c] at hl'
                exact hrow j r' l hr' hl'
              · have lt := (List.getElem?_eq_some_iff.mp hl').1
                rw [List.length_append, List.length_singleton] at lt
                have ej : j = i := by omega
                subst ej
                rw [er] at hr'
                cases hr'
                rw [List.getElem?_append_right (by omega), hBl', Nat.sub_self] at hl'
                cases hl'
                exact ro
      · rintro σ H7 ⟨B, y6, y7, y8, zs, rfl, g7, hB7, hz, hBl', hrow⟩
        rw [dpA_len hAq, List.length_map] at hBl'
        have hp7 := g7.2 _ _ hp6 pD
        have d7 := g7.1
        have dW7 := dp_keep (Go.keepT d6 g7) _ _ (dWeb_noL W) hv
        refine ⟨_, rfl, _, rfl, Bl, zs, rfl, .inl ⟨SqL.of hB7, fun b hb => ?_⟩⟩
        obtain ⟨s8, d8⟩ := new_tup (K := K) hb hz
        have g8 := Go.same d7 s8
        have hp8 := s8 _ _ hp7
        have dW8 := dp_same s8 _ _ dW7
        generalize upd H7 b (.tup zs) = H8 at s8 d8 g8 hp8 dW8
        refine ⟨_, rfl, _, rfl, _, rfl, ?_⟩
        refine ⟨p, p, _, _, rfl, rfl, hp8, hp8, line5 (by rw [List.length_map]; omega), fun L1 hL1 => ⟨by show 1 ≤ sizeLine; decide, fun L2 hL2 => ?_⟩⟩
        have h1 := same_new (o := .lst (ms.map V.str ++ ms.map V.str)) hL1
        have e1 := upd_same (H := H8) (a := L1) (o := .lst (ms.map V.str ++ ms.map V.str))
        generalize upd H8 L1 (.lst (ms.map V.str ++ ms.map V.str)) = HA at h1 e1 hL2
        have h2 := same_new (o := .lst [V.str "nowhere"]) hL2
        have e2 := upd_same (H := HA) (a := L2) (o := .lst [V.str "nowhere"])
        have e1' := h2 _ _ e1
        generalize upd HA L2 (.lst [V.str "nowhere"]) = HB at h2 e2 e1'
        refine ⟨L1, L2, _, _, rfl, rfl, e1', e2, line5 (by rw [List.length_append, List.length_map]; show ms.length + ms.length + 1 ≤ 100000; omega), fun L3 hL3 => ?_⟩
        have h3 := same_new (o := .lst (ms.map V.str ++ ms.map V.str ++ [V.str "nowhere"])) hL3
        have e3 : upd HB L3 (.lst (ms.map V.str ++ ms.map V.str ++ [V.str "nowhere"])) L3 = some (.lst ((ms ++ ms ++ [("nowhere" : Str)]).map V.str)) := by
          rw [upd_same, List.map_append, List.map_append]
          rfl
        generalize upd HB L3 (.lst (ms.map V.str ++ ms.map V.str ++ [V.str "nowhere"])) = HC at h3 e3
        have s13 := h1.trans (h2.trans h3)
        have gC := Go.same g8.1 s13
        have L3D : L3 ≠ D := ((Go.same g8.1 (h1.trans h2)).1.free hL3).1
        refine ⟨S, D, .ref L3, _, rfl, gC.1, fun H' g => .inr (.inl ⟨L3, rfl, SqL.of (g.2 _ _ e3 L3D)⟩), by rw [List.length_map, List.length_append]; exact Nat.succ_pos _, by rw [List.length_map, List.length_append, List.length_append]; show ms.length + ms.length + 1 ≤ 100000; omega, fun HD x hx gD => ?_⟩
        obtain ⟨g, _, rfl⟩ := List.mem_map.mp hx
        refine ⟨z3, fun pr hpr => ?_⟩
        have kD := (KeepT.of_same s13).trans (Go.keepT gC.1 gD)
        obtain ⟨sE, dE⟩ := new_tup (K := K) hpr (.cons (dp_keep kD _ _ (dWeb_noL W) dW8) (.cons (dp_keep kD _ _ (dBd_noL B) d8) (.cons (.str g) .nil)))
        exact q _ _ W B g (g6.trans (g7.trans (g8.trans (gC.trans (gD.trans (Go.same gD.1 sE)))))) ⟨dE, okW, hBl', hrow⟩
end
end Mt
namespace Mt
open PySem PySem.Spec PyProof.Rows L2
theorem takesN0 {X : Cx} : L2N.Takes X (fun _ _ _ _ => False) := fun _ _ x => by
  obtain ⟨_, _, _, _, _, _, _, _, _, _, _, _, _, _, _, _, z⟩ := x
  exact z.elim
theorem passAtN {X : Cx} {W : WX} (tk : L2N.Takes X W) (σ : L2.St) : PassesAt (L2N.CX X.prog X.w) X σ (L2.WE W σ) := fun _ _ _ e s' I c => tk e s' (L2N.XE.of_call I (fun _ _ _ h => h) c)
theorem passAt0 {X : Cx} {σ : L2.St} {E : XK} : PassesAt CX0 X σ E := fun _ _ _ _ _ _ h => h.elim
theorem hot_of {cls : Value} {d : Option Addr} {oe : Obj} (hz : L2N.Zn cls d oe) (hf : ∃ vs, oe.data = .fields vs) : ∃ vs : Array Value, oe.data = .fields vs ∧ vs[2]? = some .none := by
  obtain ⟨vs, hv⟩ := hf
  exact ⟨vs, hv, hz.2.2 vs hv⟩
theorem bb_tuple : bootBuiltins "tuple" = some (.type "tuple") := by decide +kernel
theorem bb_isinstance : bootBuiltins "isinstance" = some (.builtin "isinstance") := by decide +kernel
theorem room1 {A : Around} {k : Nat} {x : Option Value} (h : Room (k + 1) A) : L2H.RoomH 1 (A.mark x) := (L2H.roomH_mark h x).mono (Nat.succ_le_succ (Nat.zero_le k))
theorem room3 {A : Around} {k : Nat} (h : Room (k + 3) A) : Room 3 A := h.mono (Nat.le_add_left 3 k)
theorem eqDK {X : Cx} {K : PySem.W.Frag} (h : X.K = K) (hu : X.A.units + 64 < cLine) : OpR X (compareOp .Eq) (rEqD K) := h ▸ op_eqD hu
/-- isinstance(e, ..), its class asked for in the reading -/
def rIsDC (K : PySem.W.Frag) (C a : Addr) (cls : Value) (d : Option Addr) : List V → Hp → VK → Prop := fun xs H Q => cls = .ref C ∧ EXS.rIsD K C a d xs H Q
theorem call_isDC {X : Cx} {a C : Addr} {cls : Value} {d : Option Addr} {oe : Obj} {pn : List (Addr × Obj)} (E : ExcC X.K C) (hz : Zc cls d oe) (hf : ∃ vs, oe.data = .fields vs) : CallR (X.suite a ((a, oe) :: pn)) (.builtin "isinstance") (rIsDC X.K C a cls d) := by
  intro pins s σ H xs us Q I r h
  obtain ⟨rfl, h⟩ := h
  exact EXS.call_isD E hz hf pins s σ H xs us Q I r h
theorem vals4 {a b c d : Addr} {its : List Value} (h : Vals [V.ref a, V.ref b, V.ref c, V.ref d] its) : its = [.ref a, .ref b, .ref c, .ref d] := by
  cases h with
  | cons e h =>
    cases e
    cases h with
    | cons e h =>
      cases e
      cases h with
      | cons e h =>
        cases e
        cases h with
        | cons e h =>
          cases e
          cases h
          rfl
theorem bad_sh (t : Int) : SeqAt.shaped (.tuple [.str "bad", .int t]) = true := by
  unfold SeqAt.shaped
  rw [Bool.and_eq_true]
  refine ⟨?_, decide_eq_true (by show 1 ≤ 64; decide)⟩
  have e : PyData.strOk "bad" = true := by decide +kernel
  show (PyData.strOk "bad" && (PyData.canLay0 (.int t) && true)) = true
  rw [e]
  rfl
theorem bad_eq (t : Int) : PyData.eqv (.tuple [.str "bad", .int t]) (.tuple [.str "bad", .int t]) = true := by
  simp [PyData.eqv, PyData.eqvAll]
structure RzX (K : PySem.W.Frag) (mg : Str → Option Value) (C M a1 a2 a3 a4 : Addr) : Prop where
  mgC : mg "BadNumber" = some (.ref C)
  mgM : mg "MeanError" = some (.ref M)
  m1 : mg "BadText" = some (.ref a1)
  m2 : mg "Dry" = some (.ref a2)
  m3 : mg "TooLarge" = some (.ref a3)
  m4 : mg "TooMany" = some (.ref a4)
  ex : ExcC K C
  xf : XfC K C
  nv : PySem.W.findIn K (.ref C) "value" = some none
  e1 : PySem.W.exmOne K (.ref C) (.ref C) = some true
  e2 : PySem.W.exmOne K (.ref C) (.ref M) = some true
  k4 : PySem.W.kitAny K (.ref C) [.ref a1, .ref a2, .ref a3, .ref a4] = some false
  kC : PySem.W.kitOne K (.ref C) (.ref C) = some true
  kV : PySem.W.kitOne K (.ref C) (.type "ValueError") = some true
def spAsked (K : PySem.W.Frag) : Sp := fun vs H Q _ => ∃ (v : V) (pt : Addr) (W : Wb) (B : Bd) (g : Str) (ts : List Int), vs = [v, .ref pt] ∧ Wld K H v W B g ∧ SqL K H pt (ts.map V.int) ∧ ts.length ≤ 14 ∧ (∀ t ∈ ts, t.natAbs < 2 ^ 1000) ∧ ∀ H', Same H H' → Q (.bl true) H'
def spRefused (K : PySem.W.Frag) : Sp := fun vs H Q _ => ∃ (v : V) (pt : Addr) (W : Wb) (B : Bd) (g : Str) (t : Int) (l : List Int), vs = [v, .ref pt] ∧ Wld K H v W B g ∧ SqL K H pt ([t].map V.int) ∧ B[0]? = some l ∧ l.sum ≤ t ∧ t.natAbs < 2 ^ 1000 ∧ ∀ H', Same H H' → Q (.bl true) H'
section
variable {P : Program} {w : World} {K : PySem.W.Frag} {mg : Str → Option Value} {base : Heap}
set_option maxHeartbeats 0 in
theorem ok__law_asked (T : Txt K mg) {Cb Mb a1 a2 a3 a4 fW fI : Addr} {fdW fdI : FuncData} (Rz : RzX K mg Cb Mb a1 a2 a3 a4) (FW : FnOk P w K mg base (L2N.CX P w) 3 fW fdW ["web", "bend", "goal", "tickets"] (spWalk K Cb)) (mgW : mg "bent_walk" = some (.ref fW)) (kpW : PySem.W.keepIn K (.ref fW) = true) (bW : Binds K fdW ["web", "bend", "goal", "tickets"] [])
    (FI : L2H.FnH P w K mg base CX0 1 fI fdI ["thing"] spIsInt) (mgI : mg "_law_is_int" = some (.ref fI)) (kpI : PySem.W.keepIn K (.ref fI) = true) (bI : Binds K fdI ["thing"] []) (D__law_own : Kept P w K mg base 3 "_law_own" ["world", "tickets"] (spOwn K)) (D__law_same : Kept P w K mg base 7 "_law_same" ["told", "due"] (spSm K 5)) {f : Addr} {fd : FuncData} (F : FnP K "_law_asked" s__law_asked f fd) : FnOk P w K mg base CX0 8 f fd ["world", "tickets"] (spAsked K) := by
  refine F.ok sc__law_asked (fun vs H Q E h => ?_) (fun cdv A outer s H vs Q E hr h => ?_)
  · obtain ⟨v, pt, W, B, g, ts, rfl, _⟩ := h
    rfl
  · obtain ⟨v, pt, W, B, g, ts, rfl, hw, ht, hl, tb, q⟩ := h
    refine ⟨_, PSs.nox (pss_cons (ps_set (i := 2) sc__law_asked.nd rfl (Or.inl rfl) (pe_d D__law_own (hr.mono (by decide)) (by rfl) (pa_cons (pv 0) (pa_cons (pv 1) pa_nil))))
      (pss_cons (L2N.ps_try_as (i := 4) (c := .ref Cb) rfl rfl sc__law_asked.nd rfl rfl ⟨by rfl, by decide, .inl Rz.mgC⟩ takesN0 (fun W0 pn1 xe1 tk0 hp0 => (pss_one (ps_set (i := 3) sc__law_asked.nd rfl (Or.inl rfl) (L2.pe_callS (E := L2.WE W0) FW (room3 hr) (by rfl) mgW kpW bW (passAtN tk0) (pa_cons (pe_ix (ixT (K := K) rfl) (pv 0) pe_int (fun _ _ => rfl)) (pa_cons (pe_ix (ixT (K := K) rfl) (pv 0) pe_int (fun _ _ => rfl)) (pa_cons (pe_ix (ixT (K := K) rfl) (pv 0) pe_int (fun _ _ => rfl)) (pa_cons (pe_callTy (tupOfT (K := K) rfl) (by rfl) T.b_tuple bb_tuple (pa_cons (pv 1) pa_nil)) pa_nil)))))))) (fun a0 oe0 cls0 d0 pn0 hz0 hf0 => (pss_cons (ps_if (PW.pt (pw_or (pt_val (pe_callB (call_isDC (a := a0) (C := Cb) (cls := cls0) (d := d0) (pn := pn0) (oe := oe0) Rz.ex hz0.zc hf0) (by rfl) T.b_isinstance bb_isinstance (pa_cons (pv 4) (pa_cons (pe_tup (pa_cons (pe_glob (v := .ref a1) (by rfl) Rz.m1 rfl) (pa_cons (pe_glob (v := .ref a2) (by rfl) Rz.m2 rfl) (pa_cons (pe_glob (v := .ref a3) (by rfl) Rz.m3 rfl) (pa_cons (pe_glob (v := .ref a4) (by rfl) Rz.m4 rfl) pa_nil))))) pa_nil)))) (pw_or1 (pt_not (pt_val (L2H.pe_callH (E := fun _ => E0) FI (room1 hr) ⟨(a0, oe0), ⟨rfl, hot_of hz0 hf0⟩, List.mem_cons_self⟩ (by rfl) mgI kpI bI (fun _ => passAt0) (pa_cons (pe_xf Rz.xf Rz.nv hz0.zc hf0 (pv 4)) pa_nil))))))) (pss_one (ps_ret pe_bl)) pss_nil)
      (pss_one (ps_ret (pe_cmpR (eqDK (K := K) rfl hr.units) (pv 2) (pe_tup (pa_cons pe_str (pa_cons (pe_xf Rz.xf Rz.nv hz0.zc hf0 (pv 4)) pa_nil))) (nomark _)))))))
      (pss_one (ps_ret (pe_and (pe_cmpR op_eq (pe_ix ix_tup (pv 2) pe_int (fun _ _ => rfl)) pe_str (nomark _)) (pe_one (pe_d D__law_same (hr.mono (by decide)) (by rfl) (pa_cons (pv 3) (pa_cons (pe_ix ix_tup (pv 2) pe_int (fun _ _ => rfl)) pa_nil))))))))), ?_⟩
    obtain ⟨p, x, y, rfl, hp, hx, hy⟩ := hw.at
    refine ⟨_, rfl, _, rfl, .ref p, pt, W, B, g, ts, rfl, hw, ht, hl, fun H1 u f s1 hf du => ?_⟩
    have hp1 := same_t s1 hp
    have ht1 := same_l s1 ht
    refine ⟨_, rfl, p, _, _, _, rfl, rfl, hp1, atI_nat (j := 0) rfl, _, rfl, p, _, _, _, rfl, rfl, hp1, atI_nat (j := 1) rfl, _, rfl, p, _, _, _, rfl, rfl, hp1, atI_nat (j := 2) rfl, _, rfl, pt, _, rfl, .inl ⟨ht1, fun pT hpT => ?_⟩⟩
    have s2 := same_new (o := .tup (ts.map V.int)) hpT
    have hT := SqT.of (K := K) (upd_same (H := H1) (a := pT) (o := .tup (ts.map V.int)))
    have s12 := s1.trans s2
    have du2 := dp_same s2 _ _ du
    generalize upd H1 pT (.tup (ts.map V.int)) = H2 at s2 hT s12 du2
    refine ⟨x, y, g, pT, W, B, ts, rfl, dp_same s12 _ _ hx, dp_same s12 _ _ hy, hw.web, hw.bd, hT, hl, tb, fun H3 u2 f2 N M n s3 e fr d2 => ?_, fun H3 dd t s3 e hdd => ?_⟩
    · have hff := (hf N M n e).uniq fr
      subst hff
      rw [e] at du2
      have du3 : Dp K H3 u (.tuple [.str "told", .tuple [dF f, .int (n : Int)]]) := dp_same s3 _ _ du2
      obtain ⟨pu, us, rfl, hpu, hA⟩ := dp_tup du3
      obtain ⟨w0, r0, rfl, h0, hA⟩ := dpA_cons hA
      obtain ⟨w1, r1, rfl, h1, hA⟩ := dpA_cons hA
      cases dpA_nil hA
      obtain rfl := dp_str h0
      refine ⟨_, rfl, pu, _, _, _, rfl, rfl, hpu, atI_nat (j := 0) rfl, rfl, _, rfl, ite2 (fun _ => ?_) (fun h => absurd (decide_eq_true rfl) h)⟩
      exact ⟨_, rfl, _, rfl, pu, _, _, _, rfl, rfl, hpu, atI_nat (j := 1) rfl, u2, w1, _, rfl, d2, h1, rfl, (show (2 : Nat) < 5 by decide), fun H4 s4 => q _ (s12.trans (s3.trans s4))⟩
    · refine ⟨true, Rz.e1, fun _ a hna => ?_, fun h => nomatch h⟩
      refine ⟨_, rfl, by show 4 ≤ sizeLine; decide, fun pq hpq => ⟨rfl, .ref pq, false, dd, [("value", .int t)], rfl, rfl, same_new hpq _ _ hdd, .inr ⟨pq, _, rfl, SqT.of upd_same, fun its vs => ?_⟩, ?_⟩⟩
      · rw [vals4 vs]
        exact Rz.k4
      · have s4 := same_new (o := .tup [V.ref a1, V.ref a2, V.ref a3, V.ref a4]) hpq
        have hd4 := s4 _ _ hdd
        generalize upd H3 pq (.tup [V.ref a1, V.ref a2, V.ref a3, V.ref a4]) = H4 at s4 hd4
        refine ⟨_, rfl, ite2 (fun h => (nomatch (show false = true from h))) (fun _ => ?_)⟩
        refine ⟨_, rfl, rfl, rfl, dd, _, _, rfl, hd4, rfl, t, rfl, true, rfl, ite2 (fun h => (nomatch (show false = true from h))) (fun _ => ?_)⟩
        refine ⟨_, rfl, _, rfl, rfl, rfl, dd, _, _, rfl, hd4, rfl, z2, fun pn hpn => ?_⟩
        obtain ⟨s5, d5⟩ := new_tup (K := K) (xs := [V.str "bad", V.int t]) (ds := [.str "bad", .int t]) hpn (.cons (.str _) (.cons (.int _) .nil))
        rw [e] at du2
        have du3 : Dp K _ u (.tuple [.str "bad", .int t]) := dp_same (s3.trans (s4.trans s5)) _ _ du2
        refine ⟨_, _, du3, d5, bad_sh t, bad_sh t, ?_⟩
        rw [bad_eq]
        exact q _ (s12.trans (s3.trans (s4.trans s5)))
set_option maxHeartbeats 0 in
theorem ok__law_refused (T : Txt K mg) {Cb Mb a1 a2 a3 a4 fW : Addr} {fdW : FuncData} (Rz : RzX K mg Cb Mb a1 a2 a3 a4) (FW : FnOk P w K mg base (L2N.CX P w) 3 fW fdW ["web", "bend", "goal", "tickets"] (spWalk K Cb)) (mgW : mg "bent_walk" = some (.ref fW)) (kpW : PySem.W.keepIn K (.ref fW) = true) (bW : Binds K fdW ["web", "bend", "goal", "tickets"] [])
    {f : Addr} {fd : FuncData} (F : FnP K "_law_refused" s__law_refused f fd) : FnOk P w K mg base CX0 4 f fd ["world", "tickets"] (spRefused K) := by
  refine F.ok sc__law_refused (fun vs H Q E h => ?_) (fun cdv A outer s H vs Q E hr h => ?_)
  · obtain ⟨v, pt, W, B, g, t, l, rfl, _⟩ := h
    rfl
  · obtain ⟨v, pt, W, B, g, t, l, rfl, hw, ht, hB, hs, tb, q⟩ := h
    refine ⟨_, PSs.nox (pss_cons (L2N.ps_try_as (i := 2) (c := .ref Mb) rfl rfl sc__law_refused.nd rfl rfl ⟨by rfl, by decide, .inl Rz.mgM⟩ takesN0 (fun W0 pn1 xe1 tk0 hp0 => (pss_one (ps_expr (L2.pe_callS (E := L2.WE W0) FW (room3 hr) (by rfl) mgW kpW bW (passAtN tk0) (pa_cons (pe_ix (ixT (K := K) rfl) (pv 0) pe_int (fun _ _ => rfl)) (pa_cons (pe_ix (ixT (K := K) rfl) (pv 0) pe_int (fun _ _ => rfl)) (pa_cons (pe_ix (ixT (K := K) rfl) (pv 0) pe_int (fun _ _ => rfl)) (pa_cons (pe_callTy (tupOfT (K := K) rfl) (by rfl) T.b_tuple bb_tuple (pa_cons (pv 1) pa_nil)) pa_nil)))))))) (fun a0 oe0 cls0 d0 pn0 hz0 hf0 => (pss_one (ps_ret (pe_and (pe_callB (call_isDC (a := a0) (C := Cb) (cls := cls0) (d := d0) (pn := pn0) (oe := oe0) Rz.ex hz0.zc hf0) (by rfl) T.b_isinstance bb_isinstance (pa_cons (pv 2) (pa_cons (pe_bltn (v := .ty "ValueError") (u := .type "ValueError") (by rfl) T.b_ValueError (by decide +kernel) rfl) pa_nil))) (pe_one (pe_callB (call_isDC (a := a0) (C := Cb) (cls := cls0) (d := d0) (pn := pn0) (oe := oe0) Rz.ex hz0.zc hf0) (by rfl) T.b_isinstance bb_isinstance (pa_cons (pv 2) (pa_cons (pe_glob (v := .ref Cb) (by rfl) Rz.mgC rfl) pa_nil)))))))))
      (pss_one (ps_ret pe_bl))), ?_⟩
    obtain ⟨p, x, y, rfl, hp, hx, hy⟩ := hw.at
    have ewk : wk W B g 0 1 1 0 [t] = .inl t := by
      have er : rowB B 0 = l := by
        unfold rowB
        rw [hB]
        rfl
      show (if t < 0 ∨ (rowB B 0).sum ≤ t then _ else _) = _
      rw [er, if_pos (.inr hs)]
    refine ⟨_, rfl, p, _, _, _, rfl, rfl, hp, atI_nat (j := 0) rfl, _, rfl, p, _, _, _, rfl, rfl, hp, atI_nat (j := 1) rfl, _, rfl, p, _, _, _, rfl, rfl, hp, atI_nat (j := 2) rfl, _, rfl, pt, _, rfl, .inl ⟨ht, fun pT hpT => ?_⟩⟩
    have s2 := same_new (o := .tup ([t].map V.int)) hpT
    have hT := SqT.of (K := K) (upd_same (H := H) (a := pT) (o := .tup ([t].map V.int)))
    generalize upd H pT (.tup ([t].map V.int)) = H2 at s2 hT
    refine ⟨x, y, g, pT, W, B, [t], rfl, dp_same s2 _ _ hx, dp_same s2 _ _ hy, hw.web, hw.bd, hT, by show 1 ≤ 14; decide, fun t' h' => by rw [List.mem_singleton.mp h']; exact tb, fun H3 u2 f2 N M n s3 e fr d2 => ?_, fun H3 dd t' s3 e hdd => ?_⟩
    · rw [ewk] at e
      cases e
    · refine ⟨true, Rz.e2, fun _ a hna => ?_, fun h => nomatch h⟩
      refine ⟨_, rfl, ⟨rfl, .ty "ValueError", true, dd, _, rfl, rfl, hdd, .inl ⟨.type "ValueError", fun u e => e, Rz.kV⟩, true, rfl, ite2 (fun _ => ?_) (fun h => absurd rfl h)⟩⟩
      exact ⟨_, rfl, ⟨rfl, .ref Cb, true, dd, _, rfl, rfl, hdd, .inl ⟨.ref Cb, fun u e => e, Rz.kC⟩, q _ (s2.trans s3)⟩⟩
end
end Mt
namespace Mt
open PySem PySem.Spec PyProof.Rows L2
/-! ### rows of tickets -/
structure RowAt (D R : Addr) (H : Hp) (lo n : Nat) (x : V) : Prop where
  ex : ∃ p ts, x = V.ref p ∧ p ≠ D ∧ p ≠ R ∧ H p = some (.lst ((ts : List Int).map V.int)) ∧ (lo ≤ ts.length ∧ ts.length ≤ n) ∧ ∀ t ∈ ts, t.natAbs < 2 ^ 1000
section
variable {S D R : Addr} {H0 H H' : Hp} {lo n m : Nat} {x : V}
theorem RowAt.go (h : RowAt D R H lo n x) (g : Go S D H H') : RowAt D R H' lo n x := by
  obtain ⟨p, ts, e, pD, pR, hp, hl, hb⟩ := h.ex
  exact ⟨p, ts, e, pD, pR, g.2 _ _ hp pD, hl, hb⟩
theorem RowAt.upd {o : HO} (h : RowAt D R H lo n x) : RowAt D R (upd H R o) lo n x := by
  obtain ⟨p, ts, e, pD, pR, hp, hl, hb⟩ := h.ex
  exact ⟨p, ts, e, pD, pR, by rw [upd_ne pR]; exact hp, hl, hb⟩
theorem RowAt.low (h : RowAt D R H lo n x) : RowAt D R H 0 n x := by
  obtain ⟨p, ts, e, pD, pR, hp, hl, hb⟩ := h.ex
  exact ⟨p, ts, e, pD, pR, hp, ⟨Nat.zero_le _, hl.2⟩, hb⟩
theorem RowAt.mono (h : RowAt D R H lo n x) (l : n ≤ m) : RowAt D R H lo m x := by
  obtain ⟨p, ts, e, pD, pR, hp, hl, hb⟩ := h.ex
  exact ⟨p, ts, e, pD, pR, hp, ⟨hl.1, by omega⟩, hb⟩
theorem RowAt.other {R' : Addr} (h : RowAt D R H lo n x) (hR : H R' = none) : RowAt D R' H lo n x := by
  obtain ⟨p, ts, e, pD, pR, hp, hl, hb⟩ := h.ex
  exact ⟨p, ts, e, pD, ne_of_none hp hR, hp, hl, hb⟩
/-- a list of rows that is being filled -/
structure RI (S D R : Addr) (H0 H : Hp) (m : Nat) : Prop where
  g : Go S D H0 H
  ex : ∃ rs, H R = some (.lst rs) ∧ rs.length ≤ m ∧ ∀ x ∈ rs, RowAt D R H 1 14 x
theorem RI.go (RD : R ≠ D) (h : RI S D R H0 H m) (g : Go S D H H') : RI S D R H0 H' m := by
  obtain ⟨rs, h1, h2, h3⟩ := h.ex
  exact ⟨h.g.trans g, rs, g.2 _ _ h1 RD, h2, fun x hx => (h3 x hx).go g⟩
theorem RI.add (d0 : DrawAt S D H0) (h0 : H0 R = none) (h : RI S D R H0 H m) {rs : List V} (hr : H R = some (.lst rs)) (a : RowAt D R H 1 14 x) : RI S D R H0 (upd H R (.lst (rs ++ [x]))) (m + 1) := by
  obtain ⟨rs', h1, h2, h3⟩ := h.ex
  rw [hr] at h1
  cases h1
  refine ⟨goU h0 d0 h.g, _, upd_same, by rw [List.length_append, List.length_singleton]; omega, fun y hy => ?_⟩
  rcases List.mem_append.mp hy with e | e
  · exact (h3 y e).upd
  · rw [List.mem_singleton.mp e]
    exact a.upd
end
theorem new_row {S D R l1 l2 : Addr} {H : Hp} {o u : HO} {ts : List Int} {z : Int} {n : Nat} (d : DrawAt S D H) (hR : H R = some u) (h1 : H l1 = none) (h2 : upd H l1 o l2 = none) (hl : ts.length + 1 ≤ n) (hb : ∀ t ∈ ts, t.natAbs < 2 ^ 1000) (hz : z.natAbs < 2 ^ 1000) :
    Go S D H (upd (upd H l1 o) l2 (.lst (ts.map V.int ++ [V.int z]))) ∧ RowAt D R (upd (upd H l1 o) l2 (.lst (ts.map V.int ++ [V.int z]))) 1 n (.ref l2) := by
  have g1 : Go S D H (upd H l1 o) := Go.new d h1
  have g2 := g1.trans (Go.new (o := .lst (ts.map V.int ++ [V.int z])) g1.1 h2)
  have hR1 := same_new (o := o) h1 _ _ hR
  refine ⟨g2, l2, ts ++ [z], rfl, (g1.1.free h2).1, (ne_of_none hR1 h2).symm, by rw [upd_same, List.map_append]; rfl, by rw [List.length_append, List.length_singleton]; exact ⟨Nat.succ_pos _, hl⟩, fun t ht => ?_⟩
  rcases List.mem_append.mp ht with e | e
  · exact hb t e
  · rw [List.mem_singleton.mp e]
    exact hz
abbrev oddL : List Int := [-1, 0, 1, 10 ^ (6 : Int).toNat, -(10 ^ (6 : Int).toNat), 7]
theorem oddL_lt : ∀ z ∈ oddL, z.natAbs < 2 ^ 1000 := fun z hz => by
  have h : z.natAbs < 2 ^ 30 := by
    have : ∀ z ∈ oddL, z.natAbs < 2 ^ 30 := by decide
    exact this z hz
  exact Nat.lt_of_lt_of_le h (Nat.pow_le_pow_right (by decide) (by decide))
def spRowsL (K : PySem.W.Frag) : Sp := fun vs H Q _ => ∃ (S D : Addr) (v : V) (W : Wb) (B : Bd) (g : Str), vs = [.ref D, v] ∧ DrawAt S D H ∧ Wld K H v W B g ∧
  ∀ (H' : Hp) (R : Addr), R ≠ D → H R = none → RI S D R H H' 200 → Q (.ref R) H'
theorem big_lt {n : Int} (h0 : -1 ≤ n) (h1 : n ≤ 3 * BIG + 1000001) : n.natAbs < 2 ^ 1000 := by
  have : (3 * BIG + 1000001 : Int) < 2 ^ 103 := by decide
  have h2 : n.natAbs < 2 ^ 103 := by
    have e : ((2 ^ 103 : Nat) : Int) = 2 ^ 103 := by decide
    omega
  exact Nat.lt_of_lt_of_le h2 (Nat.pow_le_pow_right (by decide) (by decide))
theorem cpow6 : CPow 10 6 := ⟨by decide, by decide, by decide⟩
theorem pow6d : CDivW 0 ((10 : Int) ^ (6 : Int).toNat) := divW_of (by decide) (by decide)
theorem sz_div {n : Int} (h0 : 0 < n) (h1 : n ≤ 3 * BIG) : CDivW 0 n := by
  have : (3 * BIG : Int) < 2 ^ 103 := by decide
  have h2 : n.natAbs < 2 ^ 103 := by
    have e : ((2 ^ 103 : Nat) : Int) = 2 ^ 103 := by decide
    omega
  exact wide_div (b := 103) (by omega) h2 (by decide) (by decide)
section
variable {P : Program} {w : World} {K : PySem.W.Frag} {mg : Str → Option Value} {base : Heap}
set_option maxHeartbeats 0 in
theorem ok__law_rows (T : Txt K mg) (D__law_draw : Kept P w K mg base 1 "_law_draw" ["d", "many"] spDraw) (D__law_pick : Kept P w K mg base 2 "_law_pick" ["d", "row"] (spPick K)) (D__law_arc : Kept P w K mg base 1 "_law_arc" ["parts", "ticket"] (spArcAt K)) {f : Addr} {fd : FuncData} (F : FnP K "_law_rows" s__law_rows f fd) : FnOk P w K mg base CX0 3 f fd ["d", "world"] (spRowsL K) := by
  refine F.ok sc__law_rows (fun vs H Q E h => ?_) (fun cdv A outer s H vs Q E hr h => ?_)
  · obtain ⟨S, D, v, W, B, g, rfl, _⟩ := h
    rfl
  · obtain ⟨S, D, v, W, B, g, rfl, d, hw, q⟩ := h
    refine ⟨_, PSs.nox (pss_cons (ps_asg (pv 1) (pg_tup rfl (pgs_cons (pg_name (i := 2) sc__law_rows.nd rfl (Or.inl rfl)) (pgs_cons (pg_name (i := 3) sc__law_rows.nd rfl (Or.inl rfl)) (pgs_cons (pg_name (i := 4) sc__law_rows.nd rfl (Or.inl rfl)) pgs_nil)))))
      (pss_cons (ps_set (i := 5) sc__law_rows.nd rfl (Or.inl rfl) pe_int)
      (pss_cons (ps_set (i := 6) sc__law_rows.nd rfl (Or.inl rfl) (pe_lst pa_nil))
      (pss_cons (ps_set (i := 7) sc__law_rows.nd rfl (Or.inl rfl) (pe_lst pa_nil))
      (Evl.pss_cut (ps_for PassesOwn.never rfl (pi_range1 (by rfl) T.b_range (pa_cons (pe_d D__law_draw (hr.mono (by decide)) (by rfl) (pa_cons (pv 0) (pa_cons pe_int pa_nil))) pa_nil)) (pg_name (i := 8) sc__law_rows.nd rfl (Or.inl rfl)) (pss_cons (ps_set (i := 9) sc__law_rows.nd rfl (Or.inl rfl) (pe_ix ix_tup (pv 3) (pv 5) (fun _ _ => rfl)))
      (pss_cons (ps_set (i := 10) sc__law_rows.nd rfl (Or.inl rfl) (pe_callB (EnT.cr_sumT rfl) (by rfl) T.b_sum (by decide +kernel) (pa_cons (pv 9) pa_nil)))
      (pss_cons (ps_for PassesOwn.never rfl (pi_list (pe_lst (pa_cons pe_int (pa_cons (pe_op op_sub (pv 10) pe_int) (pa_cons (pe_un un_neg pe_int) (pa_cons (pv 10) (pa_cons (pe_op op_add (pe_op op_add (pv 10) pe_int) (pe_d D__law_draw (hr.mono (by decide)) (by rfl) (pa_cons (pv 0) (pa_cons (pe_op op_pow pe_int pe_int) pa_nil)))) pa_nil))))))) (pg_name (i := 11) sc__law_rows.nd rfl (Or.inl rfl)) (pss_one (ps_expr (pe_bm PySem.F.plainAttrs_list PySem.F.slot_list_append PySem.F.type_list_append mt_append (pv 7) (pa_cons (pe_op op_cat (pv 6) (pe_lst (pa_cons (pv 11) pa_nil))) pa_nil)))))
      (pss_cons (ps_set (i := 12) sc__law_rows.nd rfl (Or.inl rfl) (pe_d D__law_draw (hr.mono (by decide)) (by rfl) (pa_cons (pv 0) (pa_cons (pv 10) pa_nil))))
      (Evl.pss_cut (ps_if (pt_cmpR op_eq (pe_d D__law_draw (hr.mono (by decide)) (by rfl) (pa_cons (pv 0) (pa_cons pe_int pa_nil))) pe_int (nomark _)) (pss_cons (ps_set (i := 13) sc__law_rows.nd rfl (Or.inl rfl) (pe_callB (EnT.cr_sumT rfl) (by rfl) T.b_sum (by decide +kernel) (pa_cons (pe_slice sl_tupA (pv 9) po_none (po_some (pe_d D__law_draw (hr.mono (by decide)) (by rfl) (pa_cons (pv 0) (pa_cons (pe_op op_add (pe_callB call_len (by rfl) T.b_len (by decide +kernel) (pa_cons (pv 9) pa_nil)) pe_int) pa_nil))))) pa_nil)))
      (pss_one (ps_set (i := 12) sc__law_rows.nd rfl (Or.inl rfl) (pe_callB (call_min2 rfl) (by rfl) T.b_min (by decide +kernel) (pa_cons (pe_callB (call_max2 rfl) (by rfl) T.b_max (by decide +kernel) (pa_cons pe_int (pa_cons (pe_op op_sub (pv 13) (pe_d D__law_draw (hr.mono (by decide)) (by rfl) (pa_cons (pv 0) (pa_cons pe_int pa_nil)))) pa_nil))) (pa_cons (pe_op op_sub (pv 10) pe_int) pa_nil)))))) pss_nil)
      (pss_cons (ps_set (i := 6) sc__law_rows.nd rfl (Or.inl rfl) (pe_op op_cat (pv 6) (pe_lst (pa_cons (pv 12) pa_nil))))
      (pss_cons (ps_expr (pe_bm PySem.F.plainAttrs_list PySem.F.slot_list_append PySem.F.type_list_append mt_append (pv 7) (pa_cons (pv 6) pa_nil)))
      (pss_cons (ps_asg (pe_ix ix_tup (pe_ix ix_tup (pe_ix ix_tup (pv 2) pe_int (fun _ _ => rfl)) (pv 5) (fun _ _ => rfl)) (pe_d D__law_arc (hr.mono (by decide)) (by rfl) (pa_cons (pv 9) (pa_cons (pv 12) pa_nil))) (fun _ _ => rfl)) (pg_tup rfl (pgs_cons (pg_name (i := 14) sc__law_rows.nd rfl (Or.inl rfl)) (pgs_cons (pg_name (i := 15) sc__law_rows.nd rfl (Or.inl rfl)) (pgs_cons (pg_name (i := 16) sc__law_rows.nd rfl (Or.inl rfl)) pgs_nil)))))
      (pss_cons (ps_if (pt_cmpR op_in_seq (pv 4) (pv 14) (by rfl)) (pss_one ps_break) pss_nil)
      (pss_one (ps_set (i := 5) sc__law_rows.nd rfl (Or.inl rfl) (pv 15)))))))))))))
      (pss_cons (ps_set (i := 17) sc__law_rows.nd rfl (Or.inr rfl) (pe_lst (pa_cons (pe_un un_neg pe_int) (pa_cons pe_int (pa_cons pe_int (pa_cons (pe_op op_pow pe_int pe_int) (pa_cons (pe_un un_neg (pe_op op_pow pe_int pe_int)) (pa_cons pe_int pa_nil))))))))
      (pss_cons (ps_expr (pe_bm PySem.F.plainAttrs_list PySem.F.slot_list_append PySem.F.type_list_append mt_append (pv 7) (pa_cons (pe_op op_cat (pv 6) (pe_lc (own := [("k", 8)]) (g := (gName 8)) (tt := tYes) rfl sc__law_rows.nd (pi_range1 (by rfl) T.b_range (pa_cons (pe_op op_add pe_int (pe_d D__law_draw (hr.mono (by decide)) (by rfl) (pa_cons (pv 0) (pa_cons pe_int pa_nil)))) pa_nil)) (blkOk_by (N := N__law_rows) (sc := defScope s__law_rows) (by decide +kernel)) (fun _ _ _ _ _ => (pg_name (i := 8) sc__law_rows.nd rfl (Or.inl rfl))) (fun _ _ _ _ _ => pts_nil) (fun _ _ _ _ _ => (pe_d D__law_pick (hr.mono (by decide)) (by rfl) (pa_cons (pv 0) (pa_cons (pv 17) pa_nil)))))) pa_nil)))
      (pss_cons (ps_for PassesOwn.never rfl (pi_range1 (by rfl) T.b_range (pa_cons (pe_op op_add (pe_callB call_len (by rfl) T.b_len (by decide +kernel) (pa_cons (pe_ix ix_tup (pv 3) pe_int (fun _ _ => rfl)) pa_nil)) pe_int) pa_nil)) (pg_name (i := 8) sc__law_rows.nd rfl (Or.inl rfl)) (pss_cons (ps_set (i := 13) sc__law_rows.nd rfl (Or.inl rfl) (pe_callB (EnT.cr_sumT rfl) (by rfl) T.b_sum (by decide +kernel) (pa_cons (pe_slice sl_tupA (pe_ix ix_tup (pv 3) pe_int (fun _ _ => rfl)) po_none (po_some (pv 8))) pa_nil)))
      (pss_one (ps_set (i := 7) sc__law_rows.nd rfl (Or.inl rfl) (pe_op op_cat (pv 7) (pe_lst (pa_cons (pe_lst (pa_cons (pe_op op_sub (pv 13) pe_int) pa_nil)) (pa_cons (pe_lst (pa_cons (pv 13) pa_nil)) pa_nil))))))))
      (pss_one (ps_ret (pv 7))))))))))), ?_⟩
    obtain ⟨p, x, y, rfl, hp, hx, hy⟩ := hw.at
    have hW := hw.web
    have hB := hw.bd
    obtain ⟨pb, xb, rfl, hpb, hAb⟩ := dp_tup hy
    obtain ⟨pw, pq, xq, rfl, hpw, hpq, hAq⟩ := web_at hx
    refine ⟨_, rfl, p, _, rfl, hp, rfl, _, _, rfl, _, _, rfl, _, _, rfl, rfl, ?_⟩
    refine ⟨Nat.zero_le _, fun r0 hr0 => ?_⟩
    have g1 : Go S D H (upd H r0 (.lst [])) := Go.new d hr0
    have r0D := (d.free hr0).1
    have hr1 := upd_same (H := H) (a := r0) (o := .lst [])
    generalize upd H r0 (.lst []) = H1 at g1 hr1
    refine ⟨Nat.zero_le _, fun R hR => ?_⟩
    have RD := (g1.1.free hR).1
    have hR0 := g1.free d hR
    have ri0 : RI S D R H (upd H1 R (.lst [])) 0 := ⟨g1.trans (Go.new g1.1 hR), [], upd_same, Nat.le_refl _, fun _ h => absurd h List.not_mem_nil⟩
    have ra0 : RowAt D R (upd H1 R (.lst [])) 0 0 (.ref r0) := ⟨r0, [], rfl, r0D, ne_of_none hr1 hR, by rw [upd_ne (ne_of_none hr1 hR)]; exact hr1, ⟨Nat.le_refl _, Nat.le_refl _⟩, fun _ h => absurd h List.not_mem_nil⟩
    generalize upd H1 R (.lst []) = H2 at ri0 ra0
    refine ⟨fun σ H' => ∃ (st : Nat) (r : Addr) (y8 y9 y10 y11 y12 y13 y14 y15 y16 : Option V), σ = [some (.ref D), some (.ref p), some (.ref pw), some (.ref pb), some (.str g), some (.int (st : Int)), some (.ref r), some (.ref R), y8, y9, y10, y11, y12, y13, y14, y15, y16, none] ∧ RI S D R H H' 54 ∧ RowAt D R H' 0 9 (.ref r), ?_, ?_⟩
    · refine ⟨_, rfl, S, D, _, rfl, divW_of (by decide) (by decide), ri0.g.1, fun H3 n n0 n1 g3 => ⟨_, rfl, by omega, by omega, for_range (lo := 0) (n := n.toNat) (fun i σ H' => ∃ (st : Nat) (r : Addr) (y8 y9 y10 y11 y12 y13 y14 y15 y16 : Option V), σ = [some (.ref D), some (.ref p), some (.ref pw), some (.ref pb), some (.str g), some (.int (st : Int)), some (.ref r), some (.ref R), y8, y9, y10, y11, y12, y13, y14, y15, y16, none] ∧ RI S D R H H' (6 * i) ∧ RowAt D R H' 0 i (.ref r) ∧ st < W.length) ⟨0, r0, _, _, _, _, _, _, _, _, _, rfl, ri0.go RD g3, ra0.go g3, hW.pos⟩ ?_ ?_⟩⟩
      · rintro i σ H4 hi ⟨st, r, y8, y9, y10, y11, y12, y13, y14, y15, y16, rfl, ri, ra, hst⟩
        obtain ⟨rw', eW, eB, ro, l3, ak⟩ := at_place hW hB hst
        obtain ⟨vl, hvl, dl⟩ := dpA_get hAb eB
        obtain ⟨pl, rfl, hpl⟩ := i_at dl
        obtain ⟨vr, hvr, dr⟩ := dpA_get hAq eW
        obtain ⟨pr, xr, rfl, hpr, hAr⟩ := dp_tup dr
        generalize hlb : rowB B st = l at *
        have kt := Go.keepT d ri.g
        have hpl4 := sqt_keep kt hpl
        have lsum := row_sum ro l3
        have l0 := ro.pos
        refine ⟨_, rfl, _, rfl, pb, _, _, _, rfl, rfl, sqt_keep kt hpb, atI_nat hvl, _, rfl, pl, l, rfl, hpl4, ?_⟩
        refine ⟨_, rfl, _, _, rfl, rfl, _, rfl, _, rfl, _, rfl, _, _, rfl, rfl, _, rfl, _, _, rfl, rfl, cpow6, S, D, _, rfl, pow6d, ri.g.1, fun H5 v v0 v1 g5 => ⟨_, _, rfl, rfl, by show 5 ≤ sizeLine; decide, fun L hL => ?_⟩⟩
        have v1 : v < 1000000 := v1
        have LD := (g5.1.free hL).1
        have hLo : upd H5 L (.lst [V.int 0, V.int (l.sum - 1), V.int (-1), V.int l.sum, V.int (l.sum + 1 + v)]) L = some (.lst (([0, l.sum - 1, -1, l.sum, l.sum + 1 + v] : List Int).map V.int)) := upd_same
        have g6 : Go S D H4 (upd H5 L (.lst [V.int 0, V.int (l.sum - 1), V.int (-1), V.int l.sum, V.int (l.sum + 1 + v)])) := g5.trans (Go.new g5.1 hL)
        have LR : L ≠ R := by
          obtain ⟨rs, h1, _⟩ := (ri.go RD g5).ex
          exact (ne_of_none h1 hL).symm
        have hL0 : H L = none := (ri.g.trans g5).free d hL
        have hlast : ∀ z ∈ ([0, l.sum - 1, -1, l.sum, l.sum + 1 + v] : List Int), z.natAbs < 2 ^ 1000 := fun z hz => by
          have hh : -1 ≤ z ∧ z ≤ 3 * BIG + 1000001 := by
            simp only [List.mem_cons, List.not_mem_nil, or_false] at hz
            rcases hz with e | e | e | e | e <;> subst e <;> constructor <;> omega
          exact big_lt hh.1 hh.2
        have ri6 := ri.go RD g6
        have ra6 := ra.go g6
        generalize hls : ([0, l.sum - 1, -1, l.sum, l.sum + 1 + v] : List Int) = ls at hLo hlast
        have ll : ls.length = 5 := by rw [← hls]; rfl
        have hls' : [V.int 0, V.int (l.sum - 1), V.int (-1), V.int l.sum, V.int (l.sum + 1 + v)] = ls.map V.int := by rw [← hls]; rfl
        generalize upd H5 L (.lst [V.int 0, V.int (l.sum - 1), V.int (-1), V.int l.sum, V.int (l.sum + 1 + v)]) = H6 at hLo g6 ri6 ra6
        refine ⟨L, rfl, ⟨_, SqL.of hLo⟩, for_list (K := K) (a := L) (xs := ls.map V.int) (fun j σ H' => ∃ y11 : Option V, σ = [some (.ref D), some (.ref p), some (.ref pw), some (.ref pb), some (.str g), some (.int (st : Int)), some (.ref r), some (.ref R), some (.int (0 + (i : Int))), some (.ref pl), some (.int l.sum), y11, y12, y13, y14, y15, y16, none] ∧ RI S D R H H' (6 * i + j) ∧ RowAt D R H' 0 i (.ref r) ∧ H' L = some (.lst (ls.map V.int))) ⟨_, rfl, ri6, ra6, hLo⟩ (fun j σ H' _ ⟨_, _, _, _, h⟩ => SqL.of h) ?_ ?_⟩
        · rintro j x σ H7 hj ⟨y11', rfl, ri7, ra7, hL7⟩
          obtain ⟨z, rfl, hz⟩ := getV hj
          have hzb := hlast z (List.mem_of_getElem? hz)
          have hj5 := (List.getElem?_eq_some_iff.mp hz).1
          obtain ⟨rs, hR7, rsl, hrs⟩ := ri7.ex
          obtain ⟨p', ts, e, pD, pR, hp', hl, hb⟩ := ra7.ex
          cases e
          refine ⟨_, rfl, .inl ⟨rfl, _, SqL.of hR7⟩, _, rfl, _, rfl, by show 1 ≤ sizeLine; decide, fun l1 h1 => ⟨r, l1, _, _, rfl, rfl, same_new h1 _ _ hp', upd_same, line5 (by rw [List.length_map]; show ts.length + 1 ≤ 100000; omega), fun l2 h2 => ?_⟩⟩
          obtain ⟨g8, ra8⟩ := new_row (n := 14) (o := .lst [V.int z]) ri7.g.1 hR7 h1 h2 (by omega) hb hzb
          have hL8 := g8.2 _ _ hL7 LD
          have hR8 := g8.2 _ _ hR7 RD
          have ri8 := ri7.go RD g8
          have ra9 := ra7.go g8
          generalize upd (upd H7 l1 (.lst [V.int z])) l2 (.lst (ts.map V.int ++ [V.int z])) = H8 at g8 ra8 hL8 hR8 ri8 ra9
          exact ⟨R, rs, _, rfl, rfl, hR8, line6 (by omega), _, rfl, ri8.add d hR0 hR8 ra8, ra9.upd, by rw [upd_ne LR]; exact hL8⟩
        · rintro σ H7 ⟨y11', rfl, ri7, ra7, hL7⟩
          rw [List.length_map, ll] at ri7
          refine ⟨_, rfl, _, rfl, S, D, _, rfl, sz_div l0 lsum, ri7.g.1, fun H8 t t0 t1 g8 => ?_⟩
          have ri8 := ri7.go RD g8
          have ra8 := ra7.go g8
          refine ⟨fun σ H' => ∃ (t : Int) (y13 : Option V), σ = [some (.ref D), some (.ref p), some (.ref pw), some (.ref pb), some (.str g), some (.int (st : Int)), some (.ref r), some (.ref R), some (.int (0 + (i : Int))), some (.ref pl), some (.int l.sum), y11', some (.int t), y13, y14, y15, y16, none] ∧ 0 ≤ t ∧ t < l.sum ∧ RI S D R H H' (6 * i + 5) ∧ RowAt D R H' 0 i (.ref r), ?_, ?_⟩
          · refine ⟨_, rfl, S, D, 2, rfl, divW_of (by decide) (by decide), ri8.g.1, fun H9 c c0 c1 g9 => ⟨rfl, _, rfl, ite2 (fun _ => ?_) (fun _ => ⟨t, _, rfl, t0, t1, ri8.go RD g9, ra8.go g9⟩)⟩⟩
            have ri9 := ri8.go RD g9
            have ra9 := ra8.go g9
            have hpl9 := sqt_keep (Go.keepT d ri9.g) hpl
            refine ⟨_, rfl, ?_⟩
            dsimp only [tNoPart]
            refine ⟨_, rfl, _, rfl, _, _, rfl, .inr ⟨_, hpl9, rfl⟩, _, _, rfl, rfl, S, D, _, rfl, divW_of (by rw [List.length_map]; omega) (by rw [List.length_map]; omega), ri9.g.1, fun HA k k0 k1 gA => ?_⟩
            obtain ⟨m, rfl⟩ : ∃ m : Nat, k = (m : Int) := ⟨k.toNat, by omega⟩
            have riA := ri9.go RD gA
            have raA := ra9.go gA
            refine ⟨_, rfl, ?_⟩
            refine slA_mono (sl_take (sqt_keep (Go.keepT d riA.g) hpl) m) fun v HB hh => ?_
            obtain ⟨r', rfl, sB, hr'⟩ := hh
            rw [← List.map_take] at hr'
            have gB := Go.same riA.g.1 sB
            have riB := riA.go RD gB
            have raB := raA.go gB
            refine ⟨r', _, rfl, hr', _, rfl, _, rfl, S, D, _, rfl, divW_of (by decide) (by decide), riB.g.1, fun HC c2 c20 c21 gC => ?_⟩
            refine ⟨_, _, rfl, rfl, _, _, rfl, _, rfl, _, _, rfl, rfl, _, _, rfl, _, _, rfl, ?_, ?_, riB.go RD gC, raB.go gC⟩
            · split <;> split <;> omega
            · split <;> split <;> omega
          · rintro σ H9 ⟨t, y13, rfl, t0, t1, ri9, ra9⟩
            have kt9 := Go.keepT d ri9.g
            obtain ⟨rs, hR9, rsl, hrs⟩ := ri9.ex
            obtain ⟨p', ts, e, pD, pR, hp', hl, hb⟩ := ra9.ex
            cases e
            have klt := arcAt_lt ro.nn t0 t1
            obtain ⟨era, aok⟩ := ak _ klt
            obtain ⟨va, hva, da⟩ := dpA_get hAr era
            obtain ⟨pa, x0, x2, rfl, hpa, dsh, dfr⟩ := arc_at da
            obtain ⟨px, rfl, hpx⟩ := sh_at dsh
            have htb : t.natAbs < 2 ^ 1000 := big_lt (by omega) (by omega)
            refine ⟨_, rfl, _, rfl, by show 1 ≤ sizeLine; decide, fun l1 h1 => ⟨r, l1, _, _, rfl, rfl, same_new h1 _ _ hp', upd_same, line5 (by rw [List.length_map]; show ts.length + 1 ≤ 100000; omega), fun l2 h2 => ?_⟩⟩
            obtain ⟨gA, raA⟩ := new_row (n := i + 1) (o := .lst [V.int t]) ri9.g.1 hR9 h1 h2 (by omega) hb htb
            have hRA := gA.2 _ _ hR9 RD
            have riA := ri9.go RD gA
            generalize upd (upd H9 l1 (.lst [V.int t])) l2 (.lst (ts.map V.int ++ [V.int t])) = HA at gA raA hRA riA
            refine ⟨_, rfl, .inl ⟨rfl, _, SqL.of hRA⟩, _, rfl, R, rs, _, rfl, rfl, hRA, line6 (by omega), ?_⟩
            have riB := riA.add d hR0 hRA (raA.mono (by omega))
            have raB := raA.low.upd (o := .lst (rs ++ [.ref l2]))
            generalize upd HA R (.lst (rs ++ [.ref l2])) = HB at riB raB
            have ktB := Go.keepT d riB.g
            refine ⟨_, rfl, pw, _, _, _, rfl, rfl, sqt_keep ktB hpw, atI_nat (j := 1) rfl, _, rfl, pq, _, _, _, rfl, rfl, sqt_keep ktB hpq, atI_nat hvr, _, rfl, _, rfl, pl, l, t, rfl, sqt_keep ktB hpl, by omega, ro.nn, t0, t1, fun HC sC => ?_⟩
            have gC := Go.same riB.g.1 sC
            have riC := riB.go RD gC
            have raC := raB.go gC
            have ktC := Go.keepT d riC.g
            refine ⟨pr, _, _, _, rfl, rfl, sqt_keep ktC hpr, atI_nat hva, pa, _, rfl, sqt_keep ktC hpa, rfl, _, _, rfl, _, _, rfl, _, _, rfl, rfl, ?_⟩
            refine ⟨_, rfl, _, rfl, px, _, rfl, .inr (sqt_keep ktC hpx), rfl, flat_strs _, ?_⟩
            rw [inV_str]
            refine ⟨_, rfl, ite2 (fun e => ?_) (fun e => ?_)⟩
            · refine ⟨st, l2, _, _, _, _, _, _, _, _, _, rfl, ⟨riC.g, ?_⟩, raC.mono (by omega)⟩
              obtain ⟨rs, h1, h2, h3⟩ := riC.ex
              exact ⟨rs, h1, by omega, h3⟩
            · exact ⟨_, rfl, _, l2, _, _, _, _, _, _, _, _, _, rfl, riC, raC, aok.to⟩
      · rintro σ H4 ⟨st, r, y8, y9, y10, y11, y12, y13, y14, y15, y16, rfl, ri, ra, hst⟩
        refine ⟨st, r, _, _, _, _, _, _, _, _, _, rfl, ⟨ri.g, ?_⟩, ra.mono (by omega)⟩
        obtain ⟨rs, h1, h2, h3⟩ := ri.ex
        exact ⟨rs, h1, by omega, h3⟩
    · rintro σ H4 ⟨st, r, y8, y9, y10, y11, y12, y13, y14, y15, y16, rfl, ri, ra⟩
      refine ⟨_, rfl, _, _, rfl, rfl, cpow6, _, _, rfl, rfl, cpow6, _, rfl, by show 6 ≤ sizeLine; decide, fun O hO => ?_⟩
      have OD := (ri.g.1.free hO).1
      have gO : Go S D H4 (upd H4 O (.lst (oddL.map V.int))) := Go.new ri.g.1 hO
      have hOo := upd_same (H := H4) (a := O) (o := .lst (oddL.map V.int))
      have ri5 := ri.go RD gO
      have ra5 := ra.go gO
      show tSeq _ _ _ _ (upd H4 O (.lst (oddL.map V.int)))
      generalize upd H4 O (.lst (oddL.map V.int)) = H5 at gO hOo ri5 ra5
      obtain ⟨rs, hR5, rsl, hrs⟩ := ri5.ex
      obtain ⟨p', ts, e, pD, pR, hp', hl, hb⟩ := ra5.ex
      cases e
      refine ⟨_, rfl, .inl ⟨rfl, _, SqL.of hR5⟩, _, rfl, ?_⟩
      refine ⟨_, rfl, S, D, _, rfl, divW_of (by decide) (by decide), ri5.g.1, fun H6 v v0 v1 g6 => ?_⟩
      have hO6 := g6.2 _ _ hOo OD
      have hR6 := g6.2 _ _ hR5 RD
      have hp6 := g6.2 _ _ hp' pD
      have ri6 := ri5.go RD g6
      have d6 := g6.1
      refine ⟨_, _, rfl, rfl, _, rfl, by omega, by omega, fun Lc hLc => lc_range (lo := 0) (n := (1 + v).toNat) (fun j H' => ∃ zs : List Int, Go S D H6 H' ∧ H' Lc = some (.lst (zs.map V.int)) ∧ zs.length = j ∧ ∀ z ∈ zs, z.natAbs < 2 ^ 1000) ⟨[], Go.new d6 hLc, upd_same, rfl, fun _ h => absurd h List.not_mem_nil⟩ ?_ ?_⟩
      · rintro j H7 hj ⟨zs, g7, hL7, zl, hzs⟩
        have LcD := (d6.free hLc).1
        refine ⟨rfl, _, rfl, _, rfl, S, D, .ref O, _, rfl, g7.1, fun H' g => .inr (.inl ⟨O, rfl, SqL.of ((g7.trans g).2 _ _ hO6 OD)⟩), by show 0 < 6; decide, by show 6 ≤ 100000; decide, fun H8 x hx g8 => ?_⟩
        obtain ⟨z, hz, rfl⟩ := List.mem_map.mp hx
        refine ⟨_, g8.2 _ _ hL7 LcD, by rw [List.length_map]; exact line6 (by omega), zs ++ [z], goU hLc d6 (g7.trans g8), by rw [upd_same, List.map_append]; rfl, by rw [List.length_append, List.length_singleton, zl], fun t ht => ?_⟩
        rcases List.mem_append.mp ht with e | e
        · exact hzs t e
        · rw [List.mem_singleton.mp e]
          exact oddL_lt z hz
      · rintro H7 ⟨zs, g7, hL7, zl, hzs⟩
        have hp7 := g7.2 _ _ hp6 pD
        have hR7 := g7.2 _ _ hR6 RD
        have ri7 := ri6.go RD g7
        refine ⟨r, Lc, _, _, rfl, rfl, hp7, hL7, line5 (by rw [List.length_map, List.length_map]; omega), fun l2 h2 => ?_⟩
        have g8 : Go S D H7 (upd H7 l2 (.lst (ts.map V.int ++ zs.map V.int))) := Go.new g7.1 h2
        have ra8 : RowAt D R (upd H7 l2 (.lst (ts.map V.int ++ zs.map V.int))) 1 14 (.ref l2) := by
          refine ⟨l2, ts ++ zs, rfl, (g7.1.free h2).1, (ne_of_none hR7 h2).symm, by rw [upd_same, List.map_append], by rw [List.length_append]; exact ⟨by omega, by omega⟩, fun t ht => ?_⟩
          rcases List.mem_append.mp ht with e | e
          · exact hb t e
          · exact hzs t e
        have hR8 := g8.2 _ _ hR7 RD
        have ri8 := ri7.go RD g8
        generalize upd H7 l2 (.lst (ts.map V.int ++ zs.map V.int)) = H8 at g8 ra8 hR8 ri8
        refine ⟨R, rs, _, rfl, rfl, hR8, line6 (by omega), ?_⟩
        have ri9 := ri8.add d hR0 hR8 ra8
        generalize upd H8 R (.lst (rs ++ [.ref l2])) = H9 at ri9
        have kt := Go.keepT d ri9.g
        obtain ⟨rw', eW, eB, ro, l3, ak⟩ := at_place hW hB hW.pos
        obtain ⟨vl, hvl, dl⟩ := dpA_get hAb eB
        obtain ⟨pl, rfl, hpl⟩ := i_at dl
        generalize hlb : rowB B 0 = l at *
        have lsum := row_sum ro l3
        refine ⟨_, rfl, pb, _, _, _, rfl, rfl, sqt_keep kt hpb, atI_nat (j := 0) hvl, _, _, rfl, .inr ⟨_, sqt_keep kt hpl, rfl⟩, _, _, rfl, rfl, _, rfl, by rw [List.length_map]; omega, by rw [List.length_map]; omega, for_range (lo := 0) (n := (((l.map V.int).length : Nat) + 1 : Int).toNat) (fun i σ H' => ∃ (R : Addr) (y8 y13 : Option V), σ = [some (.ref D), some (.ref p), some (.ref pw), some (.ref pb), some (.str g), some (.int (st : Int)), some (.ref r), some (.ref R), y8, y9, y10, y11, y12, y13, y14, y15, y16, some (.ref O)] ∧ R ≠ D ∧ H R = none ∧ RI S D R H H' (60 + 2 * i)) ⟨R, _, _, rfl, RD, hR0, ri9.g, ?_⟩ ?_ ?_⟩
        · obtain ⟨rs, h1, h2, h3⟩ := ri9.ex
          exact ⟨rs, h1, by omega, h3⟩
        · rintro i σ HA hi ⟨R, y8, y13, rfl, RD, hR0, ri⟩
          rw [List.length_map] at hi
          have kt := Go.keepT d ri.g
          refine ⟨_, rfl, pb, _, _, _, rfl, rfl, sqt_keep kt hpb, atI_nat (j := 0) hvl, ?_⟩
          dsimp only [tNoPart]
          refine ⟨_, rfl, _, rfl, ?_⟩
          rw [Int.zero_add]
          refine slA_mono (sl_take (sqt_keep kt hpl) i) fun v HB hh => ?_
          obtain ⟨r', rfl, sB, hr'⟩ := hh
          rw [← List.map_take] at hr'
          have gB := Go.same ri.g.1 sB
          have riB := ri.go RD gB
          obtain ⟨rs, hRB, rsl, hrs⟩ := riB.ex
          have e0 := (sum_take ro.nn i).1
          have e1 := (sum_take ro.nn i).2
          refine ⟨r', _, rfl, hr', ?_⟩
          generalize (l.take i).sum = ed at e0 e1
          refine ⟨_, rfl, _, rfl, _, _, rfl, rfl, by show 1 ≤ sizeLine; decide, fun l1 h1 => ⟨_, rfl, by show 1 ≤ sizeLine; decide, fun l2 h2 => ⟨by show 2 ≤ sizeLine; decide, fun l3 h3 => ?_⟩⟩⟩
          have s1 := same_new (o := .lst [V.int (ed - 1)]) h1
          have a1 := upd_same (H := HB) (a := l1) (o := .lst [V.int (ed - 1)])
          have n1 := (riB.g.1.free h1).1
          have g1 := Go.same riB.g.1 s1
          generalize upd HB l1 (.lst [V.int (ed - 1)]) = H_1 at h2 h3 s1 a1 g1
          have s2 := same_new (o := .lst [V.int ed]) h2
          have a2 := upd_same (H := H_1) (a := l2) (o := .lst [V.int ed])
          have n2 := (g1.1.free h2).1
          have g2 := Go.same g1.1 s2
          generalize upd H_1 l2 (.lst [V.int ed]) = H_2 at h3 s2 a2 g2
          have s3 := same_new (o := .lst [V.ref l1, V.ref l2]) h3
          have a3 := upd_same (H := H_2) (a := l3) (o := .lst [V.ref l1, V.ref l2])
          have g3 := Go.same g2.1 s3
          generalize upd H_2 l3 (.lst [V.ref l1, V.ref l2]) = H_3 at s3 a3 g3
          have sA := s1.trans (s2.trans s3)
          have gA := g1.trans (g2.trans g3)
          refine ⟨R, l3, rs, _, rfl, rfl, sA _ _ hRB, a3, line5 (by show rs.length + 2 ≤ 100000; omega), fun R' hR' => ?_⟩
          have s4 := same_new (o := .lst (rs ++ [V.ref l1, V.ref l2])) hR'
          have g4 := Go.same gA.1 s4
          refine ⟨R', _, _, rfl, ((gA.1).free hR').1, (riB.g.trans gA).free d hR', (riB.g.trans gA).trans g4, _, upd_same, by rw [List.length_append]; show rs.length + 2 ≤ _; omega, fun x hx => ?_⟩
          rcases List.mem_append.mp hx with e | e
          · have := (hrs x e).go gA
            exact (this.other hR').upd
          · rcases List.mem_cons.mp e with e | e
            · subst e
              exact RowAt.upd ⟨l1, [ed - 1], rfl, n1, ne_of_none ((s2.trans s3) _ _ a1) hR', (s2.trans s3) _ _ a1, ⟨Nat.le_refl 1, (show 1 ≤ 14 by decide)⟩, fun t ht => by rw [List.mem_singleton.mp ht]; exact big_lt (by omega) (by omega)⟩
            · rw [List.mem_singleton.mp e]
              exact RowAt.upd ⟨l2, [ed], rfl, n2, ne_of_none (s3 _ _ a2) hR', s3 _ _ a2, ⟨Nat.le_refl 1, (show 1 ≤ 14 by decide)⟩, fun t ht => by rw [List.mem_singleton.mp ht]; exact big_lt (by omega) (by omega)⟩
        · rintro σ HA ⟨R, y8, y13, rfl, RD, hR0, ri⟩
          refine ⟨_, rfl, q _ R RD hR0 ⟨ri.g, ?_⟩⟩
          obtain ⟨rs, h1, h2, h3⟩ := ri.ex
          rw [List.length_map] at h2
          exact ⟨rs, h1, by omega, h3⟩
end
end Mt
namespace Mt
open PySem PySem.Spec PyProof.Rows L2
theorem Wld.keep {K : PySem.W.Frag} {H H' : Hp} {v : V} {W : Wb} {B : Bd} {g : Str} (k : KeepT H H') (h : Wld K H v W B g) : Wld K H' v W B g := by
  refine ⟨dp_keep k _ _ ?_ h.dp, h.web, h.bd⟩
  show (noL (dWeb W) && (noL (dBd B) && (noL (.str g) && true))) = true
  rw [dWeb_noL, dBd_noL]
  rfl
/-- the rows of one world, as they stand -/
structure RsAt (D L : Addr) (H : Hp) (x : V) : Prop where
  ex : ∃ R rs, x = V.ref R ∧ R ≠ D ∧ R ≠ L ∧ H R = some (.lst rs) ∧ rs.length ≤ 200 ∧ ∀ y ∈ rs, ∃ p ts, y = V.ref p ∧ p ≠ D ∧ p ≠ L ∧ H p = some (.lst ((ts : List Int).map V.int)) ∧ ts.length ≤ 14 ∧ ∀ t ∈ ts, t.natAbs < 2 ^ 1000
theorem RsAt.keep {D L : Addr} {H H' : Hp} {x : V} (h : RsAt D L H x) (k : ∀ b o, b ≠ D → b ≠ L → H b = some o → H' b = some o) : RsAt D L H' x := by
  obtain ⟨R, rs, e, RD, RL, hR, hl, hrs⟩ := h.ex
  refine ⟨R, rs, e, RD, RL, k _ _ RD RL hR, hl, fun y hy => ?_⟩
  obtain ⟨p, ts, e, pD, pL, hp, hl, hb⟩ := hrs y hy
  exact ⟨p, ts, e, pD, pL, k _ _ pD pL hp, hl, hb⟩
theorem lst_ne {zs : List V} {ts : List Int} (h0 : 0 < ts.length) (h : ∀ z ∈ zs, ∃ R, z = V.ref R) : HO.lst zs ≠ .lst (ts.map V.int) := fun e => by
  injection e with e
  match ts, h0, e with
  | t :: r, _, e =>
    subst e
    obtain ⟨R, hR⟩ := h (.int t) List.mem_cons_self
    cases hR
section
variable {P : Program} {w : World} {K : PySem.W.Frag} {mg : Str → Option Value} {base : Heap}
set_option maxHeartbeats 0 in
theorem ok_law (T : Txt K mg) (D__law_begin : Kept P w K mg base 1 "_law_begin" ["script"] (spBegin K)) (D__law_world : Kept P w K mg base 5 "_law_world" ["d"] (spWorld K)) (D__law_asked : Kept P w K mg base 8 "_law_asked" ["world", "tickets"] (spAsked K)) (D__law_refused : Kept P w K mg base 4 "_law_refused" ["world", "tickets"] (spRefused K)) (D__law_rows : Kept P w K mg base 3 "_law_rows" ["d", "world"] (spRowsL K)) {f : Addr} {fd : FuncData} (F : FnP K "law" s_law f fd) : FnOk P w K mg base CX0 9 f fd ["script"] (spLaw K) := by
  refine F.ok sc_law (fun vs H Q E h => ?_) (fun cdv A outer s H vs Q E hr h => ?_)
  · obtain ⟨a, ns, rfl, _⟩ := h
    rfl
  · obtain ⟨a, ns, rfl, hS, hl, q⟩ := h
    refine ⟨_, PSs.nox (pss_cons (ps_set (i := 1) sc_law.nd rfl (Or.inr rfl) (pe_d D__law_begin (hr.mono (by decide)) (by rfl) (pa_cons (pv 0) pa_nil)))
      (pss_cons (ps_set (i := 2) sc_law.nd rfl (Or.inl rfl) (pe_lst (pa_cons (pe_d D__law_world (hr.mono (by decide)) (by rfl) (pa_cons (pv 1) pa_nil)) (pa_cons (pe_d D__law_world (hr.mono (by decide)) (by rfl) (pa_cons (pv 1) pa_nil)) pa_nil))))
      (pss_cons (ps_setLc (i := 3) (own := [("world", 4)]) (g := (gName 4)) (tt := tYes) rfl sc_law.nd rfl rfl (sw_true rfl rfl rfl (by decide +kernel)) (pi_list (pv 2)) (blkOk_by (N := N_law) (sc := defScope s_law) (by decide +kernel)) (fun _ _ _ _ _ => (pg_name (i := 4) sc_law.nd rfl (Or.inl rfl))) (fun _ _ _ _ _ => pts_nil) (fun _ _ _ _ _ => (pe_d D__law_rows (hr.mono (by decide)) (by rfl) (pa_cons (pv 1) (pa_cons (pv 4) pa_nil)))))
      (pss_cons (ps_for PassesOwn.never rfl (pi_range1 (by rfl) T.b_range (pa_cons (pe_callB (call_max2 rfl) (by rfl) T.b_max (by decide +kernel) (pa_cons (pe_callB call_len (by rfl) T.b_len (by decide +kernel) (pa_cons (pe_ix ix_list (pv 3) pe_int (fun _ _ => rfl)) pa_nil)) (pa_cons (pe_callB call_len (by rfl) T.b_len (by decide +kernel) (pa_cons (pe_ix ix_list (pv 3) pe_int (fun _ _ => rfl)) pa_nil)) pa_nil))) pa_nil)) (pg_name (i := 5) sc_law.nd rfl (Or.inl rfl)) (pss_one (ps_for PassesOwn.never rfl (pi_range1 (by rfl) T.b_range (pa_cons pe_int pa_nil)) (pg_name (i := 6) sc_law.nd rfl (Or.inl rfl)) (pss_one (ps_if (PW.pt (pw_and (pt_cmpR op_lt (pv 5) (pe_callB call_len (by rfl) T.b_len (by decide +kernel) (pa_cons (pe_ix ix_list (pv 3) (pv 6) (fun _ _ => rfl)) pa_nil)) (nomark _)) (pw_and1 (pt_not (pt_val (pe_d D__law_asked (hr.mono (by decide)) (by rfl) (pa_cons (pe_ix ix_list (pv 2) (pv 6) (fun _ _ => rfl)) (pa_cons (pe_ix ix_list (pe_ix ix_list (pv 3) (pv 6) (fun _ _ => rfl)) (pv 5) (fun _ _ => rfl)) pa_nil)))))))) (pss_one (ps_ret pe_bl)) pss_nil)))))
      (pss_cons (ps_for PassesOwn.never rfl (pi_list (pv 2)) (pg_name (i := 4) sc_law.nd rfl (Or.inl rfl)) (pss_one (ps_if (PW.pt (pw_or (pt_not (pt_val (pe_d D__law_asked (hr.mono (by decide)) (by rfl) (pa_cons (pv 4) (pa_cons (pe_lst pa_nil) pa_nil))))) (pw_or1 (pt_not (pt_val (pe_d D__law_refused (hr.mono (by decide)) (by rfl) (pa_cons (pv 4) (pa_cons (pe_lst (pa_cons (pe_callB (EnT.cr_sumT rfl) (by rfl) T.b_sum (by decide +kernel) (pa_cons (pe_ix ix_tup (pe_ix ix_tup (pv 4) pe_int (fun _ _ => rfl)) pe_int (fun _ _ => rfl)) pa_nil)) pa_nil)) pa_nil)))))))) (pss_one (ps_ret pe_bl)) pss_nil)))
      (pss_one (ps_ret pe_bl))))))), ?_⟩
    refine ⟨_, rfl, a, ns, rfl, hS, hl, fun S D H1 s1 D0 d => ?_⟩
    refine ⟨_, rfl, S, D, rfl, d, fun H2 v1 W1 B1 b1 g2 w1 => ?_⟩
    refine ⟨_, rfl, S, D, rfl, g2.1, fun H3 v2 W2 B2 b2 g3 w2 => ?_⟩
    have w1 := w1.keep (Go.keepT g2.1 g3)
    have d3 := g3.1
    refine ⟨by show 2 ≤ sizeLine; decide, fun L hL => ?_⟩
    have g4 : Go S D H3 (upd H3 L (.lst [v1, v2])) := Go.new d3 hL
    have LD := (d3.free hL).1
    have hL4 := upd_same (H := H3) (a := L) (o := .lst [v1, v2])
    have w1 := w1.same (same_new (o := .lst [v1, v2]) hL)
    have w2 := w2.same (same_new (o := .lst [v1, v2]) hL)
    generalize upd H3 L (.lst [v1, v2]) = H4 at g4 hL4 w1 w2
    have hWs : ∀ v ∈ [v1, v2], ∃ W B g, Wld K H4 v W B g := fun v hv => by
      rcases List.mem_cons.mp hv with e | e
      · rw [e]
        exact ⟨_, _, _, w1⟩
      · rw [List.mem_singleton.mp e]
        exact ⟨_, _, _, w2⟩
    have wl : [v1, v2].length = 2 := rfl
    generalize [v1, v2] = ws at hL4 hWs wl
    clear w1 w2
    have d4 := g4.1
    refine ⟨_, rfl, L, rfl, ⟨_, SqL.of hL4⟩, fun Lr hLr => lc_list (K := K) (a := L) (xs := ws) (fun i H' => ∃ Rs : List V, Go S D H4 H' ∧ H' Lr = some (.lst Rs) ∧ Rs.length = i ∧ ∀ x ∈ Rs, RsAt D Lr H' x) ⟨[], Go.new d4 hLr, upd_same, rfl, fun _ h => absurd h List.not_mem_nil⟩ (fun i H' _ ⟨_, g, _⟩ => SqL.of (g.2 _ _ hL4 LD)) ?_ ?_⟩
    · rintro i v H5 hi ⟨Rs, g5, hR5, rl, hRs⟩
      have LrD := (d4.free hLr).1
      obtain ⟨W, B, g, hw⟩ := hWs v (List.mem_of_getElem? hi)
      refine ⟨rfl, _, rfl, _, rfl, S, D, v, W, B, g, rfl, g5.1, hw.keep (Go.keepT d4 g5), fun H6 R RD hR0 ri => ?_⟩
      have hR6 := ri.g.2 _ _ hR5 LrD
      have i2 : i < 2 := by
        have := (List.getElem?_eq_some_iff.mp hi).1
        omega
      refine ⟨_, hR6, line6 (by omega), Rs ++ [.ref R], goU hLr d4 (g5.trans ri.g), upd_same, by rw [List.length_append, List.length_singleton, rl], fun x hx => ?_⟩
      rcases List.mem_append.mp hx with e | e
      · exact (hRs x e).keep fun b o nD nL hb => by
          rw [upd_ne nL]
          exact ri.g.2 _ _ hb nD
      · rw [List.mem_singleton.mp e]
        obtain ⟨rs, h1, h2, h3⟩ := ri.ex
        have RL : R ≠ Lr := (ne_of_none hR5 hR0).symm
        refine ⟨R, rs, rfl, RD, RL, by rw [upd_ne RL]; exact h1, h2, fun y hy => ?_⟩
        obtain ⟨p, ts, e, pD, pR, hp, hl, hb⟩ := (h3 y hy).ex
        have pL : p ≠ Lr := fun z => by
          rw [z, hR6] at hp
          exact lst_ne (by omega) (fun z hz => by
            obtain ⟨R', _, e, _⟩ := (hRs z hz).ex
            exact ⟨R', e⟩) (Option.some.inj hp)
        exact ⟨p, ts, e, pD, pL, by rw [upd_ne pL]; exact hp, hl.2, hb⟩
    · rintro H5 ⟨Rs, g5, hR5, rl, hRs⟩
      rw [wl] at rl
      have hL5 := g5.2 _ _ hL4 LD
      have hWs5 : ∀ v ∈ ws, ∃ W B g, Wld K H5 v W B g := fun v hv => by
        obtain ⟨W, B, g, hw⟩ := hWs v hv
        exact ⟨W, B, g, hw.keep (Go.keepT d4 g5)⟩
      have at_ : ∀ k : Nat, k < 2 → ∃ R rs, Rs[k]? = some (.ref R) ∧ H5 R = some (.lst rs) ∧ rs.length ≤ 200 ∧ ∀ y ∈ rs, ∃ p ts, y = V.ref p ∧ H5 p = some (.lst ((ts : List Int).map V.int)) ∧ ts.length ≤ 14 ∧ ∀ t ∈ ts, t.natAbs < 2 ^ 1000 := fun k hk => by
        have e : Rs[k]? = some (Rs[k]'(by omega)) := List.getElem?_eq_getElem _
        obtain ⟨R, rs, e', _, _, h1, h2, h3⟩ := (hRs _ (List.mem_of_getElem? e)).ex
        rw [e'] at e
        refine ⟨R, rs, e, h1, h2, fun y hy => ?_⟩
        obtain ⟨p, ts, e, _, _, hp, hl, hb⟩ := h3 y hy
        exact ⟨p, ts, e, hp, hl, hb⟩
      obtain ⟨R0, rs0, e0, h0, l0, _⟩ := at_ 0 (by decide)
      obtain ⟨R1, rs1, e1, h1, l1, _⟩ := at_ 1 (by decide)
      refine ⟨_, rfl, Lr, Rs, 0, _, rfl, rfl, SqL.of hR5, atI_nat (j := 0) e0, _, _, rfl, .inl ⟨_, SqL.of h0, rfl⟩, _, rfl, Lr, Rs, 1, _, rfl, rfl, SqL.of hR5, atI_nat (j := 1) e1, _, _, rfl, .inl ⟨_, SqL.of h1, rfl⟩, _, _, rfl, _, rfl, by split <;> omega, by split <;> omega, for_range (lo := 0) (n := (if ((rs1.length : Nat) : Int) > (rs0.length : Nat) then ((rs1.length : Nat) : Int) else (rs0.length : Nat)).toNat) (fun i σ H' => ∃ (y5 y6 : Option V), σ = [some (.ref a), some (.ref D), some (.ref L), some (.ref Lr), none, y5, y6] ∧ Same H5 H') ⟨_, _, rfl, Same.refl _⟩ ?_ ?_⟩
      · rintro i σ H6 hi ⟨y5, y6, rfl, s6⟩
        refine ⟨_, rfl, by decide, by decide, for_range (lo := 0) (n := 2) (fun k σ H' => ∃ (y6 : Option V), σ = [some (.ref a), some (.ref D), some (.ref L), some (.ref Lr), none, some (.int (0 + (i : Int))), y6] ∧ Same H5 H') ⟨_, rfl, s6⟩ ?_ ?_⟩
        · rintro k σ H7 hk ⟨y6, rfl, s7⟩
          obtain ⟨R, rs, e, hR, hl, hrs⟩ := at_ k hk
          rw [Int.zero_add, Int.zero_add]
          refine ⟨_, rfl, _, rfl, _, rfl, Lr, Rs, (k : Int), _, rfl, rfl, SqL.of (s7 _ _ hR5), atI_nat e, _, _, rfl, .inl ⟨_, SqL.of (s7 _ _ hR), rfl⟩, _, _, rfl, rfl, _, rfl, ite2 (fun e2 => ?_) (fun _ => ⟨_, rfl, s7⟩)⟩
          have i1 : i < rs.length := by
            have : (i : Int) < (rs.length : Int) := of_decide_eq_true e2
            omega
          have ei : rs[i]? = some rs[i] := List.getElem?_eq_getElem i1
          obtain ⟨p, ts, ey, hp, hl, hb⟩ := hrs _ (List.getElem_mem i1)
          rw [ey] at ei
          have ev : ws[k]? = some (ws[k]'(by omega)) := List.getElem?_eq_getElem _
          obtain ⟨W, B, g, hw⟩ := hWs5 _ (List.mem_of_getElem? ev)
          exact ⟨_, rfl, _, rfl, L, ws, (k : Int), _, rfl, rfl, SqL.of (s7 _ _ hL5), atI_nat ev, _, rfl, _, rfl, Lr, Rs, (k : Int), _, rfl, rfl, SqL.of (s7 _ _ hR5), atI_nat e, _, rfl, R, rs, (i : Int), _, rfl, rfl, SqL.of (s7 _ _ hR), atI_nat ei, _, p, W, B, g, ts, rfl, hw.same s7, SqL.of (s7 _ _ hp), hl, hb, fun H8 s8 => ⟨true, rfl, ite2 (fun h => (nomatch (show false = true from h))) (fun _ => ⟨_, rfl, s7.trans s8⟩)⟩⟩
        · rintro σ H7 ⟨y6, rfl, s7⟩
          exact ⟨_, _, rfl, s7⟩
      · rintro σ H6 ⟨y5, y6, rfl, s6⟩
        refine ⟨_, rfl, L, rfl, ⟨_, SqL.of (s6 _ _ hL5)⟩, for_list (K := K) (a := L) (xs := ws) (fun i σ H' => ∃ y4 : Option V, σ = [some (.ref a), some (.ref D), some (.ref L), some (.ref Lr), y4, y5, y6] ∧ Same H5 H') ⟨_, rfl, s6⟩ (fun i σ H' _ ⟨_, _, s⟩ => SqL.of (s _ _ hL5)) ?_ ?_⟩
        · rintro i v σ H7 hi ⟨y4, rfl, s7⟩
          obtain ⟨W, B, g, hw⟩ := hWs5 v (List.mem_of_getElem? hi)
          have w7 := hw.same s7
          refine ⟨_, rfl, Nat.zero_le _, fun l hl => ⟨v, l, W, B, g, [], rfl, w7.same (same_new hl), SqL.of upd_same, Nat.zero_le _, fun t h => absurd h List.not_mem_nil, fun H8 s8 => ⟨true, rfl, ite2 (fun h => (nomatch (show false = true from h))) (fun _ => ?_)⟩⟩⟩
          have s8 := (same_new (o := .lst []) hl).trans s8
          have w8 := w7.same s8
          have s8 := s7.trans s8
          obtain ⟨p, x, y, rfl, hp, hx, hy⟩ := w8.at
          obtain ⟨pb, xb, rfl, hpb, hAb⟩ := dp_tup hy
          obtain ⟨rw', eW, eB, ro, l3, ak⟩ := at_place w8.web w8.bd w8.web.pos
          obtain ⟨vl, hvl, dl⟩ := dpA_get hAb eB
          obtain ⟨pl, rfl, hpl⟩ := i_at dl
          have lsum := row_sum ro l3
          have l0 := ro.pos
          exact ⟨_, rfl, _, rfl, p, _, _, _, rfl, rfl, hp, atI_nat (j := 1) rfl, pb, _, _, _, rfl, rfl, hpb, atI_nat (j := 0) hvl, pl, _, rfl, hpl, by show 1 ≤ sizeLine; decide, fun l2 hl2 => ⟨_, l2, W, B, g, _, _, rfl, w8.same (same_new hl2), SqL.of upd_same, eB, Int.le_refl _, big_lt (by omega) (by omega), fun H9 s9 => ⟨true, rfl, ite2 (fun h => (nomatch (show false = true from h))) (fun _ => ⟨_, rfl, s8.trans ((same_new hl2).trans s9)⟩)⟩⟩⟩
        · rintro σ H7 ⟨y4, rfl, s7⟩
          exact q _
end
end Mt
namespace Mt
open PySem PySem.Spec PyProof.Rows L2
def dd_make_fraction : He.DefD := ⟨("make_fraction", none), "make_fraction", "make_fraction", defArgs s_make_fraction, defBody s_make_fraction, defScope s_make_fraction, [], []⟩
def dd_product_of : He.DefD := ⟨("product_of", none), "product_of", "product_of", defArgs s_product_of, defBody s_product_of, defScope s_product_of, [], []⟩
def dd_quotient_of : He.DefD := ⟨("quotient_of", none), "quotient_of", "quotient_of", defArgs s_quotient_of, defBody s_quotient_of, defScope s_quotient_of, [], []⟩
def dd_bent_walk : He.DefD := ⟨("bent_walk", none), "bent_walk", "bent_walk", defArgs s_bent_walk, defBody s_bent_walk, defScope s_bent_walk, [], []⟩
def dd_arc_at : He.DefD := ⟨("arc_at", none), "arc_at", "arc_at", defArgs s_arc_at, defBody s_arc_at, defScope s_arc_at, [], []⟩
def dd__law_begin : He.DefD := ⟨("_law_begin", none), "_law_begin", "_law_begin", defArgs s__law_begin, defBody s__law_begin, defScope s__law_begin, [], []⟩
def dd__law_draw : He.DefD := ⟨("_law_draw", none), "_law_draw", "_law_draw", defArgs s__law_draw, defBody s__law_draw, defScope s__law_draw, [], []⟩
def dd__law_pick : He.DefD := ⟨("_law_pick", none), "_law_pick", "_law_pick", defArgs s__law_pick, defBody s__law_pick, defScope s__law_pick, [], []⟩
def dd__law_pop : He.DefD := ⟨("_law_pop", none), "_law_pop", "_law_pop", defArgs s__law_pop, defBody s__law_pop, defScope s__law_pop, [], []⟩
def dd__law_pool : He.DefD := ⟨("_law_pool", none), "_law_pool", "_law_pool", defArgs s__law_pool, defBody s__law_pool, defScope s__law_pool, [], []⟩
def dd__law_is_int : He.DefD := ⟨("_law_is_int", none), "_law_is_int", "_law_is_int", defArgs s__law_is_int, defBody s__law_is_int, defScope s__law_is_int, [], []⟩
def dd__law_frac : He.DefD := ⟨("_law_frac", none), "_law_frac", "_law_frac", defArgs s__law_frac, defBody s__law_frac, defScope s__law_frac, [], []⟩
def dd__law_times : He.DefD := ⟨("_law_times", none), "_law_times", "_law_times", defArgs s__law_times, defBody s__law_times, defScope s__law_times, [], []⟩
def dd__law_drawn_shown : He.DefD := ⟨("_law_drawn_shown", none), "_law_drawn_shown", "_law_drawn_shown", defArgs s__law_drawn_shown, defBody s__law_drawn_shown, defScope s__law_drawn_shown, [], []⟩
def dd__law_drawn_web : He.DefD := ⟨("_law_drawn_web", none), "_law_drawn_web", "_law_drawn_web", defArgs s__law_drawn_web, defBody s__law_drawn_web, defScope s__law_drawn_web, [], []⟩
def dd__law_same : He.DefD := ⟨("_law_same", none), "_law_same", "_law_same", defArgs s__law_same, defBody s__law_same, defScope s__law_same, [], []⟩
def dd__law_integer : He.DefD := ⟨("_law_integer", none), "_law_integer", "_law_integer", defArgs s__law_integer, defBody s__law_integer, defScope s__law_integer, [], []⟩
def dd__law_world : He.DefD := ⟨("_law_world", none), "_law_world", "_law_world", defArgs s__law_world, defBody s__law_world, defScope s__law_world, [], []⟩
def dd__law_arc : He.DefD := ⟨("_law_arc", none), "_law_arc", "_law_arc", defArgs s__law_arc, defBody s__law_arc, defScope s__law_arc, [], []⟩
def dd__law_own : He.DefD := ⟨("_law_own", none), "_law_own", "_law_own", defArgs s__law_own, defBody s__law_own, defScope s__law_own, [], []⟩
def dd__law_asked : He.DefD := ⟨("_law_asked", none), "_law_asked", "_law_asked", defArgs s__law_asked, defBody s__law_asked, defScope s__law_asked, [], []⟩
def dd__law_refused : He.DefD := ⟨("_law_refused", none), "_law_refused", "_law_refused", defArgs s__law_refused, defBody s__law_refused, defScope s__law_refused, [], []⟩
def dd__law_rows : He.DefD := ⟨("_law_rows", none), "_law_rows", "_law_rows", defArgs s__law_rows, defBody s__law_rows, defScope s__law_rows, [], []⟩
def dd_law : He.DefD := ⟨("law", none), "law", "law", defArgs s_law, defBody s_law, defScope s_law, [], []⟩
def dS_bn : EXS.DefS := ⟨"BadNumber", "BadNumber.__init__", defArgs s_bn, defBody s_bn, defScope s_bn⟩
abbrev mf : Str := (PySem.Challenge.rw_meantrace_k68_bent_walks).prog.main.file
abbrev cBN (K : PySem.W.Frag) : Addr := He.ga K "BadNumber"
def excB (K : PySem.W.Frag) (C : Addr) : Bool := He.eqO (PySem.W.findIn K (.ref C) "__getattribute__") (some (some (.builtin "BaseException.__getattribute__"))) && (He.eqO (PySem.W.findIn K (.ref C) "__getattr__") (some none) && (decide (PySem.W.subIn K (.ref C) (.type "BaseException") = some true) && (PySem.W.hasDictIn K C &&
  (He.eqO (PySem.W.findIn K (.ref C) "__class__") (some (some (.builtin "object.__class__"))) && (He.eqO (PySem.W.specialIn K (.builtin "object.__class__") "__get__") (some (some (.builtin "getset_descriptor.__get__"))) && (decide (PySem.W.takesIn K (.builtin "object.__class__") = some true) && decide (PySem.W.mroIn K C (.type "object") = some true)))))))
theorem excB_ok {K : PySem.W.Frag} {C : Addr} (h : excB K C = true) : ExcC K C := by
  obtain ⟨h1, h⟩ := He.ba h
  obtain ⟨h2, h⟩ := He.ba h
  obtain ⟨h3, h⟩ := He.ba h
  obtain ⟨h4, h⟩ := He.ba h
  obtain ⟨h5, h⟩ := He.ba h
  obtain ⟨h6, h⟩ := He.ba h
  obtain ⟨h7, h8⟩ := He.ba h
  exact ⟨He.eqO_ok h1, He.eqO_ok h2, of_decide_eq_true h3, h4, He.eqO_ok h5, He.eqO_ok h6, of_decide_eq_true h7, of_decide_eq_true h8⟩
def exB (K : PySem.W.Frag) : Bool := EXS.oexB K (cBN K) && (xfB K (cBN K) && (excB K (cBN K) && (decide (PySem.W.kitAny K (.ref (cBN K)) [.ref (He.ga K "BadText"), .ref (He.ga K "Dry"), .ref (He.ga K "TooLarge"), .ref (He.ga K "TooMany")] = some false) && (decide (PySem.W.kitOne K (.ref (cBN K)) (.ref (cBN K)) = some true) && decide (PySem.W.kitOne K (.ref (cBN K)) (.type "ValueError") = some true)))))
/-! the head's words, and a def over super().__init__ -/
abbrev AlN : Type := He.AlD × (Bool × EXS.FnS)
def asX (g : Addr → Option Obj) (n : Nat) : List Addr := He.asD g n ++ [PySem.cStatics]
def obsN (n : Nat) (fa : List He.Fa) (fn : List He.DefD) (ex : PySem.W.Frag → Bool) (d : EXS.DefS) (g : Addr → Option Obj) : AlN := (He.obsD fa fn (He.frG g (asX g n)), (ex (He.frG g (asX g n)) && d.ok mf (He.frG g (asX g n)), EXS.fnS (He.frG g (asX g n)) (d.at_ (He.frG g (asX g n)))))
def SaysN (fa : List He.Fa) (fn : List He.DefD) (ex : PySem.W.Frag → Bool) (d : EXS.DefS) (K : PySem.W.Frag) : Prop := He.SaysD fa fn K ∧ (ex K && d.ok mf K) = true ∧ EXS.fnS K (d.at_ K) = d.val
def hookN (n : Nat) (fa : List He.Fa) (fn : List He.DefD) (ex : PySem.W.Frag → Bool) (d : EXS.DefS) : PySem.W.Hook where
  α := AlN
  obs := fun s => obsN n fa fn ex d s.heap.get?
  val := fun _ => (He.valD fn, (true, d.val))
  says := fun _ h => ∃ K : PySem.W.Frag, K.In h ∧ SaysN fa fn ex d K
  of := fun _ _ e => ⟨_, He.frG_in, congrArg (fun z : AlN => z.1) e, congrArg (fun z : AlN => z.2.1) e, congrArg (fun z : AlN => z.2.2) e⟩
  keeps := fun _ _ _ ⟨K, hK, c⟩ k => ⟨K, PySem.W.Frag.In.keeps hK k, c⟩
theorem obsN_eq {n : Nat} {fa : List He.Fa} {fn : List He.DefD} {ex : PySem.W.Frag → Bool} {d : EXS.DefS} {g : Addr → Option Obj} {s : Shared} (h : ∀ a, g a = s.heap.get? a) : obsN n fa fn ex d g = (hookN n fa fn ex d).obs s := by
  have e : g = s.heap.get? := funext h
  rw [e] <;> rfl
def dds : List He.DefD := [dd_make_fraction, dd_product_of, dd_quotient_of, dd_bent_walk, dd_arc_at, dd__law_begin, dd__law_draw, dd__law_pick, dd__law_pop, dd__law_pool, dd__law_is_int, dd__law_frac, dd__law_times, dd__law_drawn_shown, dd__law_drawn_web, dd__law_same, dd__law_integer, dd__law_world, dd__law_arc, dd__law_own, dd__law_asked, dd__law_refused, dd__law_rows, dd_law]
def fas : List He.Fa := [.glo "make_fraction", .glo "product_of", .glo "quotient_of", .glo "bent_walk", .glo "arc_at", .glo "_law_begin", .glo "_law_draw", .glo "_law_pick", .glo "_law_pop", .glo "_law_pool", .glo "_law_is_int", .glo "_law_frac", .glo "_law_times", .glo "_law_drawn_shown", .glo "_law_drawn_web", .glo "_law_same", .glo "_law_integer", .glo "_law_world", .glo "_law_arc", .glo "_law_own", .glo "_law_asked", .glo "_law_refused", .glo "_law_rows", .glo "law", .free "int", .free "abs", .free "len", .free "isinstance", .free "bool", .free "tuple", .free "list", .free "range", .free "sum", .free "all", .free "sorted", .free "min", .free "max", .free "enumerate", .free "super", .free "ValueError", .glo "BadNumber", .glo "MeanError", .glo "BadText", .glo "Dry", .glo "TooLarge", .glo "TooMany", .noat "BadNumber" "value", .exm "BadNumber" "BadNumber" true, .exm "BadNumber" "MeanError" true]
def exM (K : PySem.W.Frag) : Bool := He.eqO (PySem.W.nsIn K mainGlobals "gcd") (some (some (.builtin "math.gcd"))) && exB K
abbrev R : PySem.W.OpenRow := PySem.W.OpenLaw.row PySem.Challenge.rw_meantrace_k68_bent_walks
abbrev hk : PySem.W.Hook := hookN 6 fas dds exM dS_bn
def ob (s : PySem.W.SharedT) : AlN := obsN 6 fas dds exM dS_bn (HandSHeadRun.getT s)
theorem ob_eq (s : PySem.W.SharedT) : ob s = hk.obs s.abs := obsN_eq (HandSHeadRun.getT_eq s)
def names : List PySem.Str := (["MeanError", "BadText", "BadNumber", "TooLarge", "TooMany", "Dry", "make_fraction", "product_of", "quotient_of", "bent_walk", "arc_at", "_law_begin", "_law_draw", "_law_pick", "_law_pop", "_law_pool", "_law_is_int", "_law_frac", "_law_times", "_law_drawn_shown", "_law_drawn_web", "_law_same", "_law_integer", "_law_world", "_law_arc"] : List PySem.Str) ++ (["_law_own", "_law_asked", "_law_refused", "_law_rows"] : List PySem.Str)
theorem run (w : World) : HandSHeadRun.RunEqI R (PySem.W.view R.prog [0, 34]) hk ob 3000 names w := by
  unfold HandSHeadRun.RunEqI; kernel_rfl
theorem facts {P : Program} {w : World} {K : PySem.W.Frag} {h : Heap} {mg : Str → Option Value} {f : Addr} (X : K.In h) (G : h.Ns mainGlobals mg) (hfa : mg ("law" : Str) = some (.ref f)) (c : SaysN fas dds exM dS_bn K) (hmf : P.main.file = mf) (htop : (P.main.scope.names.lookup ("super" : Str)).isSome = false) :
    ∃ fd : FuncData, (∀ (s : Shared) (v : Value), BindsTo s fd ⟨[v], []⟩ [("script", v)]) ∧ ∀ base : Heap, K.In base → base.Ns mainGlobals mg → FnOk P w K mg base CX0 9 f fd ["script"] (spLaw K) := by
  obtain ⟨fd, F⟩ := c.1.def_ 23 (d := dd_law) rfl
  have e := hfa.symm.trans (He.glo_ok X G (c.1.fact 23 (f := .glo "law") rfl))
  cases e
  have T : Txt K mg := ⟨He.free_ok X G (c.1.fact 24 (f := .free "int") rfl), He.free_ok X G (c.1.fact 25 (f := .free "abs") rfl), He.free_ok X G (c.1.fact 26 (f := .free "len") rfl), He.free_ok X G (c.1.fact 27 (f := .free "isinstance") rfl), He.free_ok X G (c.1.fact 28 (f := .free "bool") rfl), He.free_ok X G (c.1.fact 29 (f := .free "tuple") rfl), He.free_ok X G (c.1.fact 30 (f := .free "list") rfl), He.free_ok X G (c.1.fact 31 (f := .free "range") rfl), He.free_ok X G (c.1.fact 32 (f := .free "sum") rfl), He.free_ok X G (c.1.fact 33 (f := .free "all") rfl), He.free_ok X G (c.1.fact 34 (f := .free "sorted") rfl), He.free_ok X G (c.1.fact 35 (f := .free "min") rfl), He.free_ok X G (c.1.fact 36 (f := .free "max") rfl), He.free_ok X G (c.1.fact 37 (f := .free "enumerate") rfl), He.free_ok X G (c.1.fact 38 (f := .free "super") rfl), He.free_ok X G (c.1.fact 39 (f := .free "ValueError") rfl), PySem.W.mg_of X G (He.eqO_ok (He.ba (He.ba c.2.1).1).1)⟩
  have b := FunD.bindsA (ps := ["script"]) F fun _ _ _ _ _ _ us hl => match us, hl with | [_], _ => rfl
  refine ⟨fd, fun s v => b s [v] rfl, fun base _ _ => ?_⟩
  have D_make_fraction : Kept P w K mg base 1 "make_fraction" ["n", "d"] spFrac := kept_of (st := s_make_fraction) X G (c.1.def_ 0 (d := dd_make_fraction) rfl) (c.1.fact 0 (f := .glo "make_fraction") rfl) (fun _ _ _ _ _ _ us hl => match us, hl with | [_, _], _ => rfl) (fun f fd F => ok_make_fraction T F)
  have D_arc_at : Kept P w K mg base 1 "arc_at" ["numbers", "ticket"] (spArcAt K) := kept_of (st := s_arc_at) X G (c.1.def_ 4 (d := dd_arc_at) rfl) (c.1.fact 4 (f := .glo "arc_at") rfl) (fun _ _ _ _ _ _ us hl => match us, hl with | [_, _], _ => rfl) (fun f fd F => ok_arc_at T F)
  have D__law_begin : Kept P w K mg base 1 "_law_begin" ["script"] (spBegin K) := kept_of (st := s__law_begin) X G (c.1.def_ 5 (d := dd__law_begin) rfl) (c.1.fact 5 (f := .glo "_law_begin") rfl) (fun _ _ _ _ _ _ us hl => match us, hl with | [_], _ => rfl) (fun f fd F => ok__law_begin T F)
  have D__law_draw : Kept P w K mg base 1 "_law_draw" ["d", "many"] spDraw := kept_of (st := s__law_draw) X G (c.1.def_ 6 (d := dd__law_draw) rfl) (c.1.fact 6 (f := .glo "_law_draw") rfl) (fun _ _ _ _ _ _ us hl => match us, hl with | [_, _], _ => rfl) (fun f fd F => ok__law_draw T F)
  have D__law_pool : Kept P w K mg base 1 "_law_pool" [] spPool := kept_of (st := s__law_pool) X G (c.1.def_ 9 (d := dd__law_pool) rfl) (c.1.fact 9 (f := .glo "_law_pool") rfl) (fun _ _ _ _ _ _ us hl => match us, hl with | [], _ => rfl) (fun f fd F => ok__law_pool T F)
  have D__law_is_int : Kept P w K mg base 1 "_law_is_int" ["thing"] spIsInt := kept_of (st := s__law_is_int) X G (c.1.def_ 10 (d := dd__law_is_int) rfl) (c.1.fact 10 (f := .glo "_law_is_int") rfl) (fun _ _ _ _ _ _ us hl => match us, hl with | [_], _ => rfl) (fun f fd F => ok__law_is_int T F)
  have D__law_frac : Kept P w K mg base 1 "_law_frac" ["n", "d"] spFrac := kept_of (st := s__law_frac) X G (c.1.def_ 11 (d := dd__law_frac) rfl) (c.1.fact 11 (f := .glo "_law_frac") rfl) (fun _ _ _ _ _ _ us hl => match us, hl with | [_, _], _ => rfl) (fun f fd F => ok__law_frac T F)
  have D__law_arc : Kept P w K mg base 1 "_law_arc" ["parts", "ticket"] (spArcAt K) := kept_of (st := s__law_arc) X G (c.1.def_ 18 (d := dd__law_arc) rfl) (c.1.fact 18 (f := .glo "_law_arc") rfl) (fun _ _ _ _ _ _ us hl => match us, hl with | [_, _], _ => rfl) (fun f fd F => ok__law_arc T F)
  have D_product_of : Kept P w K mg base 2 "product_of" ["a", "b"] (spBin K mul2) := kept_of (st := s_product_of) X G (c.1.def_ 1 (d := dd_product_of) rfl) (c.1.fact 1 (f := .glo "product_of") rfl) (fun _ _ _ _ _ _ us hl => match us, hl with | [_, _], _ => rfl) (fun f fd F => ok_product_of T D_make_fraction F)
  have D_quotient_of : Kept P w K mg base 2 "quotient_of" ["a", "b"] (spBin K div2) := kept_of (st := s_quotient_of) X G (c.1.def_ 2 (d := dd_quotient_of) rfl) (c.1.fact 2 (f := .glo "quotient_of") rfl) (fun _ _ _ _ _ _ us hl => match us, hl with | [_, _], _ => rfl) (fun f fd F => ok_quotient_of T D_make_fraction F)
  have D__law_pick : Kept P w K mg base 2 "_law_pick" ["d", "row"] (spPick K) := kept_of (st := s__law_pick) X G (c.1.def_ 7 (d := dd__law_pick) rfl) (c.1.fact 7 (f := .glo "_law_pick") rfl) (fun _ _ _ _ _ _ us hl => match us, hl with | [_, _], _ => rfl) (fun f fd F => ok__law_pick T D__law_draw F)
  have D__law_pop : Kept P w K mg base 2 "_law_pop" ["d", "row"] spPop := kept_of (st := s__law_pop) X G (c.1.def_ 8 (d := dd__law_pop) rfl) (c.1.fact 8 (f := .glo "_law_pop") rfl) (fun _ _ _ _ _ _ us hl => match us, hl with | [_, _], _ => rfl) (fun f fd F => ok__law_pop T D__law_draw F)
  have D__law_times : Kept P w K mg base 2 "_law_times" ["a", "b"] (spBin K mul2) := kept_of (st := s__law_times) X G (c.1.def_ 12 (d := dd__law_times) rfl) (c.1.fact 12 (f := .glo "_law_times") rfl) (fun _ _ _ _ _ _ us hl => match us, hl with | [_, _], _ => rfl) (fun f fd F => ok__law_times T D__law_frac F)
  obtain ⟨cx, cd⟩ := He.ba c.2.1
  obtain ⟨_, cx⟩ := He.ba cx
  obtain ⟨x1, cx⟩ := He.ba cx
  obtain ⟨x2, cx⟩ := He.ba cx
  obtain ⟨x3, cx⟩ := He.ba cx
  obtain ⟨x4, cx⟩ := He.ba cx
  obtain ⟨x5, x6⟩ := He.ba cx
  have TO := EXS.oexB_ok x1
  have nv : PySem.W.findIn K (.ref (cBN K)) "value" = some none := He.noat_ok (c.1.fact 46 (f := .noat "BadNumber" "value") rfl)
  have gBN := He.glo_ok X G (c.1.fact 40 (f := .glo "BadNumber") rfl)
  rw [← hmf] at cd
  obtain ⟨⟨FI, doc, pm, ctv, _, _, hpar, hbod, hsc, SD⟩, iC, tI⟩ := EXS.DefS.supD (P := P) (mg := mg) c.2.2 cd
  have okI := ok_bn (P := P) (w := w) (mg := mg) (base := base) (CX := CX0) hpar hbod hsc SD TO nv T.b_super htop
  have bI : Binds K (FI.fd doc pm ctv) ["self", "value"] [] := by
    obtain ⟨n, q, pr, bd, sc, cl, cc⟩ := FI
    dsimp only at hpar hbod hsc
    subst hpar hbod hsc
    exact .all fun us hl => match us, hl with | [_, _], _ => rfl
  have Bn : BnX P w K mg base (cBN K) (dS_bn.at_ K) (FI.fd doc pm ctv) := ⟨gBN, TO, iC, tI, okI, bI⟩
  have Rz : RzX K mg (cBN K) (He.ga K "MeanError") (He.ga K "BadText") (He.ga K "Dry") (He.ga K "TooLarge") (He.ga K "TooMany") :=
    ⟨gBN, He.glo_ok X G (c.1.fact 41 (f := .glo "MeanError") rfl), He.glo_ok X G (c.1.fact 42 (f := .glo "BadText") rfl), He.glo_ok X G (c.1.fact 43 (f := .glo "Dry") rfl), He.glo_ok X G (c.1.fact 44 (f := .glo "TooLarge") rfl), He.glo_ok X G (c.1.fact 45 (f := .glo "TooMany") rfl), excB_ok x3, xfB_ok x2, nv,
      He.exm_ok (c.1.fact 47 (f := .exm "BadNumber" "BadNumber" true) rfl), He.exm_ok (c.1.fact 48 (f := .exm "BadNumber" "MeanError" true) rfl), of_decide_eq_true x4, of_decide_eq_true x5, of_decide_eq_true x6⟩
  obtain ⟨fdW, FWd⟩ := c.1.def_ 3 (d := dd_bent_walk) rfl
  have gW := He.glo_ok X G (c.1.fact 3 (f := .glo "bent_walk") rfl)
  have bW : Binds K fdW ["web", "bend", "goal", "tickets"] [] := FunD.bindsN (ps := ["web", "bend", "goal", "tickets"]) FWd fun _ _ _ _ _ _ us hl => match us, hl with | [_, _, _, _], _ => rfl
  have FW := ok_bent_walk T Bn D_make_fraction D_product_of D_quotient_of D_arc_at FWd
  obtain ⟨fdH, FHd⟩ := c.1.def_ 10 (d := dd__law_is_int) rfl
  have gH := He.glo_ok X G (c.1.fact 10 (f := .glo "_law_is_int") rfl)
  have bH : Binds K fdH ["thing"] [] := FunD.bindsN (ps := ["thing"]) FHd fun _ _ _ _ _ _ us hl => match us, hl with | [_], _ => rfl
  have FH := ih_ok (P := P) (w := w) (base := base) T FHd
  have D__law_drawn_shown : Kept P w K mg base 3 "_law_drawn_shown" ["d", "marks"] (spShown K) := kept_of (st := s__law_drawn_shown) X G (c.1.def_ 13 (d := dd__law_drawn_shown) rfl) (c.1.fact 13 (f := .glo "_law_drawn_shown") rfl) (fun _ _ _ _ _ _ us hl => match us, hl with | [_, _], _ => rfl) (fun f fd F => ok__law_drawn_shown T D__law_pick F)
  have D__law_integer : Kept P w K mg base 3 "_law_integer" ["d"] spInteger := kept_of (st := s__law_integer) X G (c.1.def_ 16 (d := dd__law_integer) rfl) (c.1.fact 16 (f := .glo "_law_integer") rfl) (fun _ _ _ _ _ _ us hl => match us, hl with | [_], _ => rfl) (fun f fd F => ok__law_integer T D__law_draw D__law_pick F)
  have D__law_own : Kept P w K mg base 3 "_law_own" ["world", "tickets"] (spOwn K) := kept_of (st := s__law_own) X G (c.1.def_ 19 (d := dd__law_own) rfl) (c.1.fact 19 (f := .glo "_law_own") rfl) (fun _ _ _ _ _ _ us hl => match us, hl with | [_, _], _ => rfl) (fun f fd F => ok__law_own T D__law_frac D__law_times D__law_arc F)
  have D__law_rows : Kept P w K mg base 3 "_law_rows" ["d", "world"] (spRowsL K) := kept_of (st := s__law_rows) X G (c.1.def_ 22 (d := dd__law_rows) rfl) (c.1.fact 22 (f := .glo "_law_rows") rfl) (fun _ _ _ _ _ _ us hl => match us, hl with | [_, _], _ => rfl) (fun f fd F => ok__law_rows T D__law_draw D__law_pick D__law_arc F)
  have D__law_drawn_web : Kept P w K mg base 4 "_law_drawn_web" ["d", "states", "marks"] (spDWeb K) := kept_of (st := s__law_drawn_web) X G (c.1.def_ 14 (d := dd__law_drawn_web) rfl) (c.1.fact 14 (f := .glo "_law_drawn_web") rfl) (fun _ _ _ _ _ _ us hl => match us, hl with | [_, _, _], _ => rfl) (fun f fd F => ok__law_drawn_web T D__law_draw D__law_frac D__law_drawn_shown F)
  have D__law_refused : Kept P w K mg base 4 "_law_refused" ["world", "tickets"] (spRefused K) := kept_of (st := s__law_refused) X G (c.1.def_ 21 (d := dd__law_refused) rfl) (c.1.fact 21 (f := .glo "_law_refused") rfl) (fun _ _ _ _ _ _ us hl => match us, hl with | [_, _], _ => rfl) (fun f fd F => ok__law_refused T Rz FW gW FWd.kp bW F)
  have D__law_world : Kept P w K mg base 5 "_law_world" ["d"] (spWorld K) := kept_of (st := s__law_world) X G (c.1.def_ 17 (d := dd__law_world) rfl) (c.1.fact 17 (f := .glo "_law_world") rfl) (fun _ _ _ _ _ _ us hl => match us, hl with | [_], _ => rfl) (fun f fd F => ok__law_world T D__law_draw D__law_pick D__law_pop D__law_pool D__law_drawn_web D__law_integer F)
  obtain ⟨fdS, FS⟩ := c.1.def_ 15 (d := dd__law_same) rfl
  have gS := He.glo_ok X G (c.1.fact 15 (f := .glo "_law_same") rfl)
  have bS : Binds K fdS ["told", "due"] [] := FunD.bindsN (ps := ["told", "due"]) FS fun _ _ _ _ _ _ us hl => match us, hl with | [_, _], _ => rfl
  have D__law_same : Kept P w K mg base 7 "_law_same" ["told", "due"] (spSm K 5) := ⟨_, fdS, sm_ok T D__law_is_int 5 FS gS bS, gS, FS.kp, bS⟩
  have D__law_asked : Kept P w K mg base 8 "_law_asked" ["world", "tickets"] (spAsked K) := kept_of (st := s__law_asked) X G (c.1.def_ 20 (d := dd__law_asked) rfl) (c.1.fact 20 (f := .glo "_law_asked") rfl) (fun _ _ _ _ _ _ us hl => match us, hl with | [_, _], _ => rfl) (fun f fd F => ok__law_asked T Rz FW gW FWd.kp bW FH gH FHd.kp bH D__law_own D__law_same F)
  exact ok_law T D__law_begin D__law_world D__law_asked D__law_refused D__law_rows F
end Mt
open PySem PySem.W PySem.Calls PyProof.Rows
set_option maxHeartbeats 0 in
theorem PySem.Challenge.cw_meantrace_k68_bent_walks_holds : PySem.Challenge.rw_meantrace_k68_bent_walks.Holds := by
  w_on; o_law
  refine HandSHeadRun.head_imp (r := OpenLaw.row PySem.Challenge.rw_meantrace_k68_bent_walks) (q := view (OpenLaw.row PySem.Challenge.rw_meantrace_k68_bent_walks).prog [0, 34]) (H := Mt.hk) (ob := Mt.ob) (M := 3000) (loose := Mt.names) (d := HandSHeadRun.topDef (OpenLaw.row PySem.Challenge.rw_meantrace_k68_bent_walks).prog 34) (kwd := []) Mt.ob_eq
     Mt.run (by kernel_rfl) (by kernel_rfl) (by kernel_rfl) (by rfl) (by first | assumption | decide +kernel) (by decide +kernel) ⟨rfl, rfl, rfl, rfl, rfl, by decide +kernel⟩ ?hw ?hc
  case hw => w_witness2
  case hc =>
    refine L2.walk_ofE (l := PySem.Challenge.rw_meantrace_k68_bent_walks) (n := 63) (k := 9) (x := "script") (CX := L2.CX0) rfl (by decide) (by kernel_rfl) ⟨rfl, by decide, by decide⟩ ?F (fun _ _ _ _ z => z)
    intro w mg fa h Y G hmg0
    obtain ⟨K, KX, c⟩ := Y
    have hmg : mg ("law" : PySem.Str) = some (.ref fa) := by
      have e : (HandSHeadRun.topDef (OpenLaw.row PySem.Challenge.rw_meantrace_k68_bent_walks).prog 34).name = ("law" : PySem.Str) := by kernel_rfl
      rw [← e]
      exact hmg0
    obtain ⟨fd, hb, hF⟩ := Mt.facts (P := (PySem.Challenge.rw_meantrace_k68_bent_walks).prog) (w := w) KX G hmg c rfl (by decide +kernel)
    exact ⟨K, fd, Mt.spLaw K, KX, hb, fun H a ns hl hO hS => ⟨a, ns, rfl, hS, hl, fun _ => rfl⟩, hF⟩
